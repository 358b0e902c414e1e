package parts_test

import (
	"math"
	"math/rand"
	"slices"
	"strconv"
	"strings"
	"testing"

	"putlog/api"
	"putlog/parts"
)

// many is n parts with different names.
func many(n int) []api.Part {
	out := make([]api.Part, n)
	for i := range out {
		out[i] = part("p"+strconv.Itoa(i), api.KindLedger, 1, 0, 0, 0, 0)
	}
	return out
}

// of is a catalogue of parts alone.
func of(l ...api.Part) api.Catalogue { return api.Catalogue{Parts: l} }

// P4.1: catalogues that are right, and the limits of their numbers.
func TestCheckCatalogue(t *testing.T) {
	for i, c := range []api.Catalogue{
		{},
		theCatalogue(),
		{Parts: many(60)},
		{Pairs: slices.Repeat([][2]int{{0, 20}}, 200)},
		of(part("A", 0, 1, 0, 0, 0, 0), part("a", 7, 20000000000000, 1000000, 1000000, 20, 20), part("z-9-Z-", 8, 0, 0, 0, 0, 20)),
		of(part("abcdefghijkl", 9, 0, 0, 0, 0, 0), part("abcdefghijk", 6, 1, 0, 0, 20, 0)),
	} {
		wantError(t, "catalogue "+strconv.Itoa(i), parts.CheckCatalogue(c), api.OK)
	}
}

// P4.1: parts that are refused, each behind one that is right.
func TestCheckCatalogueOfParts(t *testing.T) {
	const far = 20000000000000
	good := part("a", 0, 1, 0, 0, 0, 0)
	for _, c := range []struct {
		p api.Part
		e api.Errno
	}{
		{part("", 0, 1, 0, 0, 0, 0), api.ErrName},
		{part("1", 0, 1, 0, 0, 0, 0), api.ErrName},
		{part("-a", 0, 1, 0, 0, 0, 0), api.ErrName},
		{part("a b", 0, 1, 0, 0, 0, 0), api.ErrName},
		{part("a_b", 0, 1, 0, 0, 0, 0), api.ErrName},
		{part("a\n", 0, 1, 0, 0, 0, 0), api.ErrName},
		{part("@", 0, 1, 0, 0, 0, 0), api.ErrName},
		{part("[", 0, 1, 0, 0, 0, 0), api.ErrName},
		{part("`", 0, 1, 0, 0, 0, 0), api.ErrName},
		{part("{", 0, 1, 0, 0, 0, 0), api.ErrName},
		{part("a/", 0, 1, 0, 0, 0, 0), api.ErrName},
		{part("a:", 0, 1, 0, 0, 0, 0), api.ErrName},
		{part("\u00e4", 0, 1, 0, 0, 0, 0), api.ErrName},
		{part("abcdefghijklm", 0, 1, 0, 0, 0, 0), api.ErrName},
		{part(strings.Repeat("a", 100000), -1, -1, -1, -1, -1, -1), api.ErrName},
		{part("a", 10, 1, 0, 0, 0, 0), api.ErrExists},
		{part("a", 0, 0, 0, 0, 0, 0), api.ErrExists},
		{part("b", -1, 1, 0, 0, 0, 0), api.ErrRange},
		{part("b", 10, 1, 0, 0, 0, 0), api.ErrRange},
		{part("b", 10, 0, 0, 0, 0, 0), api.ErrRange},
		{part("b", 0, -1, 0, 0, 0, 0), api.ErrRange},
		{part("b", 0, far+1, 0, 0, 0, 0), api.ErrRange},
		{part("b", 9, -1, 0, 0, 0, 0), api.ErrRange},
		{part("b", 0, 1, -1, 0, 0, 0), api.ErrRange},
		{part("b", 0, 1, 1000001, 0, 0, 0), api.ErrRange},
		{part("b", 0, 1, 0, -1, 0, 0), api.ErrRange},
		{part("b", 0, 1, 0, 1000001, 0, 0), api.ErrRange},
		{part("b", 0, 1, 0, 0, -1, 0), api.ErrRange},
		{part("b", 0, 1, 0, 0, 21, 0), api.ErrRange},
		{part("b", 0, 1, 0, 0, 0, -1), api.ErrRange},
		{part("b", 0, 0, 0, 0, 0, 21), api.ErrRange},
		{part("b", 8, 1, math.MaxInt, 0, 0, 0), api.ErrRange},
		{part("b", 8, math.MinInt, 0, 0, 0, 0), api.ErrRange},
	} {
		wantError(t, "a part "+c.p.Name, parts.CheckCatalogue(of(good, c.p)), c.e)
	}
	for kind := range 10 {
		point := kind == 8 || kind == 9
		for square, e := range map[int]api.Errno{0: api.ErrForm, 1: api.OK, far: api.OK} {
			if point {
				e = map[int]api.Errno{0: api.OK, 1: api.ErrForm, far: api.ErrForm}[square]
			}
			wantError(t, "Square of the kind "+strconv.Itoa(kind), parts.CheckCatalogue(of(part("b", kind, square, 0, 0, 0, 0))), e)
		}
	}
}

// P4.1: pairs that are refused, and the order of the errors.
func TestCheckCatalogueOrder(t *testing.T) {
	bad := [2]int{-1, 0}
	wrong := part("", 0, 0, 0, 0, 0, 0)
	for i, c := range []struct {
		c api.Catalogue
		e api.Errno
	}{
		{api.Catalogue{Pairs: [][2]int{{0, 0}, {-1, 0}}}, api.ErrRange},
		{api.Catalogue{Pairs: [][2]int{{0, 0}, {21, 0}}}, api.ErrRange},
		{api.Catalogue{Pairs: [][2]int{{0, 0}, {0, -1}}}, api.ErrRange},
		{api.Catalogue{Pairs: [][2]int{{0, 0}, {20, 21}}}, api.ErrRange},
		{api.Catalogue{Pairs: slices.Repeat([][2]int{{1, 2}}, 201)}, api.ErrLarge},
		{api.Catalogue{Pairs: slices.Repeat([][2]int{bad}, 201)}, api.ErrLarge},
		{api.Catalogue{Pairs: slices.Repeat([][2]int{bad}, 200)}, api.ErrRange},
		{api.Catalogue{Parts: many(61)}, api.ErrLarge},
		{api.Catalogue{Parts: slices.Repeat([]api.Part{wrong}, 61)}, api.ErrLarge},
		{api.Catalogue{Parts: slices.Repeat([]api.Part{wrong}, 60), Pairs: slices.Repeat([][2]int{bad}, 201)}, api.ErrName},
		{api.Catalogue{Parts: []api.Part{part("b", 0, 0, 0, 0, 0, 0)}, Pairs: slices.Repeat([][2]int{bad}, 201)}, api.ErrForm},
		{of(part("b", 0, 0, 0, 0, 0, 0), wrong), api.ErrForm},
		{of(part("b", -1, 1, 0, 0, 0, 0), part("b", 0, 1, 0, 0, 0, 0)), api.ErrRange},
		{of(part("b", 0, 1, 0, 0, 0, 0), part("c", 0, 1, 0, 0, 0, 0), part("b", 0, 1, 0, 0, 0, 0), wrong), api.ErrExists},
	} {
		wantError(t, "catalogue "+strconv.Itoa(i), parts.CheckCatalogue(c.c), c.e)
	}
}

// P4.1: Find.
func TestFind(t *testing.T) {
	c := theCatalogue()
	for i, p := range c.Parts {
		n, e := parts.Find(c, p.Name)
		want(t, p.Name, n, e, i, api.OK)
	}
	for _, name := range []string{"", "Post", "post-", "post-22", "1", "\x00"} {
		n, e := parts.Find(c, name)
		want(t, name, n, e, 0, api.ErrMissing)
	}
	n, e := parts.Find(api.Catalogue{}, "post")
	want(t, "in no parts", n, e, 0, api.ErrMissing)
}

// P4.1: Fitting and Substitutes: the parts of a catalogue.
func TestFittingAndSubstitutes(t *testing.T) {
	c := theCatalogue()
	for _, x := range []struct {
		kind, square int
		want         []int
	}{
		{api.KindStandard, 4000000, []int{1, 4, 5, 6, 7}}, {api.KindStandard, 1000000, []int{0}},
		{api.KindStandard, 0, nil}, {api.KindTie, 0, []int{9}}, {api.KindBase, 0, []int{2}},
		{api.KindLedger, 4000000, []int{8}}, {api.KindTransom, 4000000, nil},
		{api.KindDeck, -1, nil}, {api.KindDeck, math.MaxInt, nil},
	} {
		l, e := parts.Fitting(c, x.kind, x.square)
		want(t, "Fitting", l, e, x.want, api.OK)
	}
	for _, kind := range []int{-1, 10, math.MinInt, math.MaxInt} {
		l, e := parts.Fitting(c, kind, 4000000)
		want(t, "Fitting of no kind", l, e, []int(nil), api.ErrRange)
	}
	// 3 is weaker, and 6 has its ends in another order.
	for part, right := range [][]int{nil, {4, 7}, nil, nil, {1, 7}, {1, 4, 7}, nil, nil, nil, nil} {
		l, e := parts.Substitutes(c, part)
		want(t, "Substitutes of "+strconv.Itoa(part), l, e, right, api.OK)
	}
	for _, part := range []int{-1, 10, math.MinInt, math.MaxInt} {
		l, e := parts.Substitutes(c, part)
		want(t, "Substitutes of no part", l, e, []int(nil), api.ErrMissing)
	}
}

// someCatalogue is a catalogue of parts of small numbers, at least one of each kind.
func someCatalogue(d *rand.Rand) api.Catalogue {
	var c api.Catalogue
	for i := range 10 + d.Intn(51) {
		p := part("p"+strconv.Itoa(i), i%10, 1+d.Intn(3), d.Intn(9), d.Intn(3), d.Intn(3), d.Intn(3))
		if p.Kind == api.KindTie || p.Kind == api.KindBase {
			p.Square = 0
		}
		c.Parts = append(c.Parts, p)
	}
	d.Shuffle(len(c.Parts), func(i, j int) { c.Parts[i], c.Parts[j] = c.Parts[j], c.Parts[i] })
	for range d.Intn(6) {
		c.Pairs = append(c.Pairs, [2]int{d.Intn(3), d.Intn(3)})
	}
	return c
}

// P4.1: Fitting, Substitutes and Joins of many catalogues.
func TestCataloguesOfAll(t *testing.T) {
	d := dice()
	for range 200 {
		c := someCatalogue(d)
		kind, square := d.Intn(10), d.Intn(4)
		var fitting []int
		for i, p := range c.Parts {
			if p.Kind == kind && p.Square == square {
				fitting = append(fitting, i)
			}
			var others []int
			for k, q := range c.Parts {
				alike := q
				alike.Name, alike.Mass, alike.Strength = p.Name, p.Mass, p.Strength
				if k != i && alike == p && !(q.Strength < p.Strength) {
					others = append(others, k)
				}
			}
			l, e := parts.Substitutes(c, i)
			want(t, "Substitutes", l, e, others, api.OK)
		}
		l, e := parts.Fitting(c, kind, square)
		want(t, "Fitting", l, e, fitting, api.OK)
		for a := range 4 {
			for b := range 4 {
				is, e := parts.Joins(c, a, b)
				want(t, "Joins", is, e, joined(c, a, b), api.OK)
			}
		}
	}
}

// joined reports whether two kinds of ends are in one of the pairs.
func joined(c api.Catalogue, a, b int) bool {
	return slices.Contains(c.Pairs, [2]int{a, b}) || slices.Contains(c.Pairs, [2]int{b, a})
}

// P4.1: Joins.
func TestJoins(t *testing.T) {
	c := theCatalogue()
	yes := [][2]int{{1, 2}, {2, 1}, {3, 1}, {1, 3}, {4, 2}, {2, 4}, {5, 5}, {20, 0}, {0, 20}}
	for a := range 21 {
		for b := range 21 {
			is, e := parts.Joins(c, a, b)
			want(t, "Joins", is, e, slices.Contains(yes, [2]int{a, b}), api.OK)
		}
	}
	for _, bad := range []int{-1, 21, math.MinInt, math.MaxInt} {
		is, e := parts.Joins(c, bad, 0)
		want(t, "Joins of no end", is, e, false, api.ErrRange)
		is, e = parts.Joins(c, 0, bad)
		want(t, "Joins with no end", is, e, false, api.ErrRange)
	}
}

// P1: the error of CheckCatalogue comes first, then that of Check, then the others.
func TestErrorsOfCatalogues(t *testing.T) {
	c := of(part("", 0, 1, 0, 0, 0, 0))
	s := api.Scaffold{Nodes: nodes(0, 0, 0, 0, 0, 0)}
	n, e := parts.Find(c, "post")
	want(t, "Find", n, e, 0, api.ErrName)
	l, e := parts.Fitting(c, -1, 0)
	want(t, "Fitting", l, e, []int(nil), api.ErrName)
	l, e = parts.Substitutes(c, -1)
	want(t, "Substitutes", l, e, []int(nil), api.ErrName)
	is, e := parts.Joins(c, -1, 0)
	want(t, "Joins", is, e, false, api.ErrName)
	l, e = parts.Bill(c, []int{-1})
	want(t, "Bill", l, e, []int(nil), api.ErrName)
	n, e = parts.Mass(c, nil)
	want(t, "Mass", n, e, 0, api.ErrName)
	l, e = parts.Assign(c, s)
	want(t, "Assign", l, e, []int(nil), api.ErrName)
	l, e = parts.Joints(c, s, []int{-1})
	want(t, "Joints", l, e, []int(nil), api.ErrName)
	l, e = parts.Assign(theCatalogue(), s)
	want(t, "Assign", l, e, []int(nil), api.ErrExists)
	l, e = parts.Joints(theCatalogue(), s, []int{-1})
	want(t, "Joints", l, e, []int(nil), api.ErrExists)
}
