package parts

import (
	"slices"

	"putlog/api"
)

// Assign returns for each member the first part of the catalogue that fits.
func Assign(c api.Catalogue, s api.Scaffold) ([]int, api.Errno) {
	a, e := acceptWith(c, s)
	if e != api.OK {
		return nil, e
	}
	out := make([]int, len(a.Members))
	for i, m := range a.Members {
		square := a.square(m)
		out[i] = slices.IndexFunc(c.Parts, func(p api.Part) bool { return p.Kind == m.Kind && p.Square == square })
		if out[i] < 0 {
			return nil, api.ErrMissing
		}
	}
	return out, api.OK
}

// Joints returns the nodes at which a member does not fit.
func Joints(c api.Catalogue, s api.Scaffold, parts []int) ([]int, api.Errno) {
	a, e := acceptWith(c, s)
	if e != api.OK {
		return nil, e
	}
	if e := a.partsError(c, parts); e != api.OK {
		return nil, e
	}
	joins := pairing(c)
	var out []int
	for n, j := range a.joints(c, parts) {
		if !j.fits(&joins) {
			out = append(out, n)
		}
	}
	return out, api.OK
}

// acceptWith is accept, behind the errors of a catalogue.
func acceptWith(c api.Catalogue, s api.Scaffold) (accepted, api.Errno) {
	if e := CheckCatalogue(c); e != api.OK {
		return accepted{}, e
	}
	return accept(s)
}

// partsError is the first error of the parts of the members.
func (a accepted) partsError(c api.Catalogue, parts []int) api.Errno {
	if len(parts) != len(a.Members) {
		return api.ErrShape
	}
	for i, p := range parts {
		if !hasPart(c, p) {
			return api.ErrMissing
		}
		if c.Parts[p].Kind != a.Members[i].Kind {
			return api.ErrForm
		}
	}
	return api.OK
}

// A joint is the kinds of the ends at a node: of the standards that come up to it, of those that go up from
// it, and of other members.
type joint struct{ tops, feet, others []int }

// joints returns the joints at all nodes.
func (a accepted) joints(c api.Catalogue, parts []int) []joint {
	out := make([]joint, len(a.Nodes))
	for i, m := range a.Members {
		ends := c.Parts[parts[i]].Ends
		if m.Kind == api.KindStandard {
			out[m.A].feet = append(out[m.A].feet, ends[0])
			out[m.B].tops = append(out[m.B].tops, ends[1])
			continue
		}
		for _, n := range a.ends(m) {
			end := ends[0]
			if n == m.B && !isPoint(m.Kind) {
				end = ends[1]
			}
			out[n].others = append(out[n].others, end)
		}
	}
	return out
}

// fits reports whether all members fit at a joint.
func (j joint) fits(joins *pairs) bool {
	standards := slices.Concat(j.tops, j.feet)
	for _, o := range j.others {
		if !slices.ContainsFunc(standards, func(s int) bool { return joins[o][s] }) {
			return false
		}
	}
	for _, t := range j.tops {
		if slices.ContainsFunc(j.feet, func(f int) bool { return !joins[t][f] }) {
			return false
		}
	}
	return true
}
