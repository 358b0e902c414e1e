package holding

import "putlog/api"

const (
	maxSteps  = 20
	maxExtent = 10000 // lengths of jacks and soles
	maxDatum  = 2000000
)

// CheckGround accepts grounds.
func CheckGround(l []api.Ground) api.Errno {
	if !areFrom(1, maxSteps, len(l)) {
		return api.ErrShape
	}
	for i, s := range l {
		switch {
		case !areFrom(-api.MaxCoord, api.MaxCoord, s.From, s.To, s.Height) || !areFrom(1, api.MaxCount, s.Bearing):
			return api.ErrRange
		case s.From >= s.To || i > 0 && s.From != l[i-1].To:
			return api.ErrOrder
		}
	}
	return api.OK
}

// HeightAt returns the height of the ground at a position.
func HeightAt(l []api.Ground, x int) (int, api.Errno) {
	if e := CheckGround(l); e != api.OK {
		return 0, e
	}
	s, ok := stepAt(l, x)
	if !ok {
		return 0, api.ErrMissing
	}
	return s.Height, api.OK
}

// stepAt returns the step to which a position belongs, and whether there is one.
func stepAt(l []api.Ground, x int) (api.Ground, bool) {
	for i, s := range l {
		if s.From <= x && x < s.To || i == len(l)-1 && x == s.To {
			return s, true
		}
	}
	return api.Ground{}, false
}

// stepsUnder returns for each standard the step to which it belongs.
func stepsUnder(g api.Grid, l []api.Ground) ([]api.Ground, api.Errno) {
	var out []api.Ground
	for _, x := range g.Along {
		s, ok := stepAt(l, x)
		if !ok {
			return nil, api.ErrMissing
		}
		out = append(out, s)
	}
	return out, api.OK
}

// Datum returns the least datum that jacks under all standards can have.
func Datum(g api.Grid, l []api.Ground, j api.Jack) (int, api.Errno) {
	soles, e := soleTops(g, l, j)
	if e != api.OK {
		return 0, e
	}
	highest, lowest := soles[0], soles[0]
	for _, z := range soles {
		highest, lowest = max(highest, z), min(lowest, z)
	}
	datum := highest + j.Least
	if datum-lowest > j.Most {
		return 0, api.ErrGround
	}
	return datum, api.OK
}

// Jacks returns the extensions of the jacks under all standards.
func Jacks(g api.Grid, l []api.Ground, j api.Jack, datum int) ([]int, api.Errno) {
	soles, e := soleTops(g, l, j)
	if e != api.OK {
		return nil, e
	}
	if !areFrom(-maxDatum, maxDatum, datum) {
		return nil, api.ErrRange
	}
	var out []int
	for _, z := range soles {
		out = append(out, datum-z)
	}
	if !areFrom(j.Least, j.Most, out...) {
		return nil, api.ErrGround
	}
	return out, api.OK
}

// soleTops returns for each standard the height on which its jack stands, or the errors of grid, ground and
// jack.
func soleTops(g api.Grid, l []api.Ground, j api.Jack) ([]int, api.Errno) {
	if e := groundsError(g, l); e != api.OK {
		return nil, e
	}
	if !areFrom(0, maxExtent, j.Least, j.Most, j.Sole) || j.Least > j.Most {
		return nil, api.ErrRange
	}
	steps, e := stepsUnder(g, l)
	if e != api.OK {
		return nil, e
	}
	var out []int
	for _, s := range steps {
		out = append(out, s.Height+j.Sole)
	}
	return out, api.OK
}

// groundsError returns the error of a grid, or of the ground under it.
func groundsError(g api.Grid, l []api.Ground) api.Errno {
	if e := CheckGrid(g); e != api.OK {
		return e
	}
	return CheckGround(l)
}
