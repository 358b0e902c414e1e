package parts_test

import (
	"slices"
	"testing"

	"putlog/api"
	"putlog/parts"
)

// P4.8: Diff and Apply.
func TestDiffThenApply(t *testing.T) {
	d := dice()
	for range 200 {
		a, b := small(d), small(d)
		c, e := parts.Diff(a, b)
		wantError(t, "Diff", e, api.OK)
		normal, _ := parts.Normal(b)
		s, e := parts.Apply(a, c)
		want(t, "Apply of Diff", s, e, normal, api.OK)
		c, e = parts.Diff(a, a)
		want(t, "Diff of the same", c, e, api.Change{}, api.OK)
	}
}

// P4.8: the mass of a bill.
func TestMassOfBill(t *testing.T) {
	d := dice()
	for range 100 {
		c := someCatalogue(d)
		var l []int
		sum := 0
		for range d.Intn(200) {
			i := d.Intn(len(c.Parts))
			l = append(l, i)
			sum += c.Parts[i].Mass
		}
		bill, e := parts.Bill(c, l)
		wantError(t, "Bill", e, api.OK)
		mass, e := parts.Mass(c, bill)
		want(t, "Mass", mass, e, sum, api.OK)
	}
}

// P4.8: Normal of a normal form, and Parse of a text.
func TestNormalTwice(t *testing.T) {
	d := dice()
	for range 200 {
		s := small(d)
		normal, e := parts.Normal(s)
		wantError(t, "Normal", e, api.OK)
		again, e := parts.Normal(normal)
		want(t, "Normal of Normal", again, e, normal, api.OK)
		text, e := parts.Print(s)
		wantError(t, "Print", e, api.OK)
		back, line, e := parts.Parse(text)
		want(t, "Parse of Print", back, e, s, api.OK)
		want(t, "its line", line, e, 0, api.OK)
	}
	s := laid(t)
	text, e := parts.Print(s)
	wantError(t, "Print", e, api.OK)
	back, _, e := parts.Parse(text)
	want(t, "Parse of Print", back, e, s, api.OK)
}

// P4.8: free members when a standard is taken away.
func TestFreeStayFree(t *testing.T) {
	d := dice()
	for range 100 {
		s := small(d)
		free, _ := parts.Free(s)
		for i, m := range s.Members {
			if m.Kind != api.KindStandard {
				continue
			}
			less := api.Scaffold{Nodes: s.Nodes, Members: lasting(s.Members, i)}
			now, e := parts.Free(less)
			wantError(t, "Free", e, api.OK)
			for _, f := range free {
				at := f
				if f > i {
					at--
				}
				if f != i && !slices.Contains(now, at) {
					t.Errorf("without member %d of %v member %d is free no more", i, s, f)
				}
			}
		}
	}
}

// P4.8: reached decks when a member is added.
func TestReachedStayReached(t *testing.T) {
	d := dice()
	for range 200 {
		s := tall(d)
		now, _ := parts.Reached(s)
		for i := len(s.Members); i > 0; i-- { // those at the end are added last
			less, e := parts.Reached(api.Scaffold{Nodes: s.Nodes, Members: s.Members[:i-1]})
			wantError(t, "Reached", e, api.OK)
			for _, deck := range less {
				if !slices.Contains(now, deck) {
					t.Errorf("with member %d of %v deck %d is reached no more", i-1, s, deck)
				}
			}
			now = less
		}
	}
}
