package office

import (
	"putlog/api"
	"putlog/erection"
	"putlog/exact"
	"putlog/layout"
	"putlog/statics"
	"putlog/yard"
)

// Verify accepts a claim that is right.
func Verify(c api.Claim) api.Errno {
	switch c.Kind {
	case api.ClaimOptimum:
		return exact.CheckOptimum(c.Program, c.Optimum)
	case api.ClaimReply:
		return statics.CheckReply(c.Frame, c.Loads, c.Reply)
	case api.ClaimForces:
		return statics.CheckForces(c.Frame, c.Loads, c.Forces)
	case api.ClaimCollapse:
		return statics.CheckCollapse(c.Frame, c.Loads, c.Ranges, c.Collapse)
	case api.ClaimClosing:
		return layout.CheckClosing(c.System, c.Number, c.Closing)
	case api.ClaimLayout:
		// The errors of CheckLayout are the first ones of CheckProof.
		return layout.CheckProof(c.Building, c.System, c.Layout, c.Proof)
	case api.ClaimOrder:
		_, e := erection.Accept(c.Tasks, c.Numbers)
		return e
	case api.ClaimTrips:
		n, e := yard.CheckTrips(c.Traffic, c.Trips)
		return numberError(e, n, c.Number)
	case api.ClaimCut:
		n, e := yard.CheckCut(c.Traffic, c.Cut)
		return numberError(e, n, c.Number)
	}
	return api.ErrRange
}

// numberError is an error, or ErrProof if there is none but a number is not the one that was claimed.
func numberError(e api.Errno, n, claimed int) api.Errno {
	if e == api.OK && n != claimed {
		return api.ErrProof
	}
	return e
}
