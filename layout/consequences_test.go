package layout_test

import (
	"slices"
	"testing"

	"putlog/api"
	"putlog/building"
	"putlog/layout"
)

// P3.10: the least cost of a sum is at most the sum of the costs; so is what Close finds.
func TestSumsOfLengths(t *testing.T) {
	d := dice()
	for range 100 {
		s := someSystem(d, 1)
		codes, e := layout.Table(s, 120)
		wantError(t, "Table", e, api.OK)
		unit, _ := layout.Unit(s)
		for range 100 {
			a, b := d.Intn(len(codes)), d.Intn(len(codes))
			if a+b >= len(codes) || codes[a] < 0 || codes[b] < 0 {
				continue
			}
			if codes[a+b] < 0 || codes[a+b] > codes[a]+codes[b] {
				t.Errorf("%v: the codes of %d and %d units are %d and %d, that of both %d", s, a, b, codes[a], codes[b], codes[a+b])
			}
			closing, e := layout.Close(s, (a+b)*unit)
			wantError(t, "Close", e, api.OK)
			cost, _ := layout.CostOf(s, closing)
			want(t, "the code of Close", codeOf(cost), api.OK, codes[a+b], api.OK)
		}
	}
}

// P3.10: long lengths can be closed.
func TestLongLengths(t *testing.T) {
	d := dice()
	for range 200 {
		s := api.System{Bays: ascending(d, 1+d.Intn(3), 60), Boards: ascending(d, d.Intn(3), 60), Width: 1, Lift: 1}
		unit, _ := layout.Unit(s)
		longest := slices.Max(append(slices.Clone(s.Bays), s.Boards...)) / unit
		gaps, e := layout.Gaps(s, 4000*unit)
		wantError(t, "Gaps", e, api.OK)
		if len(gaps) > 0 && gaps[len(gaps)-1] >= longest*longest*unit {
			t.Errorf("%v cannot close %d", s, gaps[len(gaps)-1])
		}
	}
}

// P3.10: the lengths of all runs depend on the choices but for the width; the runs fill the ring between the
// parallel outlines, and do not overlap.
func TestRunsFillTheRing(t *testing.T) {
	d := dice()
	next := someRound(t, 1)
	for range 300 {
		r := next()
		outline := r.b.Storeys[0].Outline
		corners := make([]int, len(outline))
		for i := range corners {
			corners[i] = d.Intn(2)
		}
		length := func() int {
			n := 0
			for i := range corners {
				run, e := layout.RunLength(r.b, r.s, i, corners[i], corners[(i+1)%len(corners)])
				wantError(t, "RunLength", e, api.OK)
				n += run
			}
			return n
		}
		before := length()
		i := d.Intn(len(corners))
		corners[i] = 1 - corners[i]
		want(t, "the lengths of all runs", length(), api.OK, before, api.OK)
		inner, _ := building.Offset(outline, r.s.Gap)
		outer, _ := building.Offset(outline, r.s.Gap+r.s.Width)
		less, _ := building.Area(inner)
		more, _ := building.Area(outer)
		want(t, "the area of all runs", before*r.s.Width, api.OK, more-less, api.OK)
		l, _, e := layout.Best(r.b, r.s)
		if e != api.OK {
			continue
		}
		boxes, _ := layout.Boxes(r.b, r.s, l)
		for i, x := range boxes {
			for _, y := range boxes[:i] {
				if is, e := building.Overlap(x, y); is || e != api.OK {
					t.Errorf("%v and %v overlap", x, y)
				}
			}
			if is, e := building.Blocks(r.b, x); is || e != api.OK {
				t.Errorf("%v is in the building", x)
			}
		}
	}
}

// P3.10: movements do not change the cost; and layouts at random cost no less than the best one.
func TestBestOfMoved(t *testing.T) {
	d := dice()
	next := someRound(t, 2)
	for range 200 {
		r := next()
		l, _, e := layout.Best(r.b, r.s)
		cost, _ := layout.Total(r.b, r.s, l)
		moved, _ := building.Move(r.b, 77, -5)
		turned, _ := building.Turn(r.b)
		for _, b := range []api.Building{moved, turned} {
			m, _, f := layout.Best(b, r.s)
			wantError(t, "Best of a moved building", f, e)
			other, _ := layout.Total(b, r.s, m)
			want(t, "the code of a moved building", codeOf(other), api.OK, codeOf(cost), api.OK)
		}
		if e != api.OK {
			continue
		}
		for i := range l.Runs {
			all := closings(r.s, l.Runs[i].Length)
			l.Runs[i].Close = all[d.Intn(len(all))]
		}
		other, e := layout.Total(r.b, r.s, l)
		wantError(t, "Total", e, api.OK)
		if codeOf(other) < codeOf(cost) {
			t.Errorf("a layout costs %v, the best one %v", other, cost)
		}
	}
}
