package parts

import (
	"slices"

	"putlog/api"
	"putlog/spelling"
)

// CheckCatalogue accepts what is a catalogue.
func CheckCatalogue(c api.Catalogue) api.Errno {
	if len(c.Parts) > api.MaxParts {
		return api.ErrLarge
	}
	for i := range c.Parts {
		if e := partError(c.Parts, i); e != api.OK {
			return e
		}
	}
	if len(c.Pairs) > api.MaxPairs {
		return api.ErrLarge
	}
	for _, p := range c.Pairs {
		if !within(0, api.MaxEnds, p[0], p[1]) {
			return api.ErrRange
		}
	}
	return api.OK
}

// Find returns the number of the part with a name.
func Find(c api.Catalogue, name string) (int, api.Errno) {
	if e := CheckCatalogue(c); e != api.OK {
		return 0, e
	}
	i := slices.IndexFunc(c.Parts, func(p api.Part) bool { return p.Name == name })
	if i < 0 {
		return 0, api.ErrMissing
	}
	return i, api.OK
}

// Fitting returns the numbers of the parts of a kind with a squared length.
func Fitting(c api.Catalogue, kind, square int) ([]int, api.Errno) {
	if e := CheckCatalogue(c); e != api.OK {
		return nil, e
	}
	if !isKind(kind) {
		return nil, api.ErrRange
	}
	var out []int
	for i, p := range c.Parts {
		if p.Kind == kind && p.Square == square {
			out = append(out, i)
		}
	}
	return out, api.OK
}

// Substitutes returns the numbers of the other parts that may be taken for a part.
func Substitutes(c api.Catalogue, part int) ([]int, api.Errno) {
	if e := CheckCatalogue(c); e != api.OK {
		return nil, e
	}
	if !hasPart(c, part) {
		return nil, api.ErrMissing
	}
	p := c.Parts[part]
	var out []int
	for i, q := range c.Parts {
		if i != part && q.Kind == p.Kind && q.Square == p.Square && q.Ends == p.Ends && q.Strength >= p.Strength {
			out = append(out, i)
		}
	}
	return out, api.OK
}

// Joins reports whether two kinds of ends may be joined.
func Joins(c api.Catalogue, a, b int) (bool, api.Errno) {
	if e := CheckCatalogue(c); e != api.OK {
		return false, e
	}
	if !within(0, api.MaxEnds, a, b) {
		return false, api.ErrRange
	}
	return pairing(c)[a][b], api.OK
}

// pairs says of any two kinds of ends whether they may be joined.
type pairs [api.MaxEnds + 1][api.MaxEnds + 1]bool

// pairing returns the pairs of a catalogue, each in both orders.
func pairing(c api.Catalogue) pairs {
	var out pairs
	for _, p := range c.Pairs {
		out[p[0]][p[1]] = true
		out[p[1]][p[0]] = true
	}
	return out
}

// partError is the first error of part i, where the earlier ones have none.
func partError(l []api.Part, i int) api.Errno {
	p := l[i]
	switch {
	case !spelling.IsName(p.Name):
		return api.ErrName
	case slices.ContainsFunc(l[:i], func(q api.Part) bool { return q.Name == p.Name }):
		return api.ErrExists
	case !isKind(p.Kind) || !within(0, api.MaxSquare, p.Square) || !within(0, api.MaxCount, p.Mass, p.Strength):
		return api.ErrRange
	case !within(0, api.MaxEnds, p.Ends[0], p.Ends[1]):
		return api.ErrRange
	case (p.Square == 0) != isPoint(p.Kind):
		return api.ErrForm
	}
	return api.OK
}

// hasPart reports whether a number is that of a part.
func hasPart(c api.Catalogue, part int) bool { return 0 <= part && part < len(c.Parts) }

// isKind reports whether a number is that of a kind of parts and members.
func isKind(kind int) bool { return within(api.KindStandard, api.KindBase, kind) }

// isPoint reports whether the parts of a kind have no length.
func isPoint(kind int) bool { return kind == api.KindTie || kind == api.KindBase }

// within reports whether all numbers are from low to high.
func within(low, high int, numbers ...int) bool {
	for _, n := range numbers {
		if n < low || n > high {
			return false
		}
	}
	return true
}
