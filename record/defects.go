package record

import (
	"slices"

	"putlog/api"
)

// A defect is a platform with the number of a defect of it.
type defect struct {
	platform string
	number   int
}

// defectOf returns the defect that an event of the kinds 4 and 5 is about.
func defectOf(x api.Event) defect { return defect{x.Platform, x.Number} }

// openDefects says of each open defect whether it is grave.
type openDefects map[defect]bool

// see opens the defect that an event tells of, or closes the one that it tells to be repaired.
func (o openDefects) see(x api.Event) {
	switch x.Kind {
	case api.EventDefect:
		o[defectOf(x)] = x.Grave
	case api.EventRepaired:
		delete(o, defectOf(x))
	}
}

// Defects returns the numbers of the open defects of a platform.
func Defects(l []api.Event, platform string, day int) ([]int, api.Errno) {
	if e := questionError(l, platform, day); e != api.OK {
		return nil, e
	}
	var out []int
	for x := range statusOf(l, platform, day).open {
		out = append(out, x.number)
	}
	slices.Sort(out)
	return out, api.OK
}
