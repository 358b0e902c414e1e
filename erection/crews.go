package erection

import (
	"slices"

	"putlog/api"
	"putlog/spelling"
)

// maxClosures is the number of closures that a crew may have.
const maxClosures = 40

// CheckCrew accepts what is a crew.
func CheckCrew(c api.Crew) api.Errno {
	if !isFrom(1, api.MaxGangs, len(c.Gangs)) || len(c.Closed) > maxClosures {
		return api.ErrShape
	}
	earlier := map[string]bool{}
	for _, g := range c.Gangs {
		if e := gangError(g, earlier); e != api.OK {
			return e
		}
		earlier[g.Name] = true
	}
	for _, x := range c.Closed {
		if !isFrom(0, maxPlace, x.Place) || !isTime(x.From, x.To) {
			return api.ErrRange
		}
	}
	return api.OK
}

// gangError is the first error of a gang.
func gangError(g api.Gang, earlier map[string]bool) api.Errno {
	isWrong := func(trade string) bool { return !spelling.IsName(trade) }
	switch {
	case !spelling.IsName(g.Name) || slices.ContainsFunc(g.Trades, isWrong):
		return api.ErrName
	case earlier[g.Name]:
		return api.ErrExists
	case !isTime(g.From, g.To):
		return api.ErrRange
	}
	return api.OK
}

// isTime reports whether a crew may have a time from a minute to a minute.
func isTime(from, to int) bool { return isFrom(0, to, from) && to <= api.MaxCoord }
