package office

import (
	"cmp"

	"putlog/api"
	"putlog/building"
	"putlog/layout"
	"putlog/parts"
	"putlog/record"
	"putlog/spelling"
)

// CheckJob accepts what is a job.
func CheckJob(j api.Job) api.Errno { return jobError(j, building.Check(j.Building)) }

// jobError is the first error of a job, the building of which has an error, or OK.
func jobError(j api.Job, ofBuilding api.Errno) api.Errno {
	if !spelling.IsName(j.Name) {
		return api.ErrName
	}
	return cmp.Or(
		ofBuilding,
		layout.CheckSystem(j.System),
		parts.CheckCatalogue(j.Catalogue),
		record.CheckTerms(j.Terms),
	)
}
