package layout_test

import (
	"math"
	"slices"
	"testing"

	"putlog/api"
	"putlog/layout"
)

// proofOf is a deep copy of a proof with a change.
func proofOf(p api.Proof, change func(*api.Proof)) api.Proof {
	out := api.Proof{Table: slices.Clone(p.Table), Ring: [2][][2]int{slices.Clone(p.Ring[0]), slices.Clone(p.Ring[1])}}
	change(&out)
	return out
}

// exceeds reports whether a code is -1, or more than a sum of two that are not negative.
func exceeds(code, a, b int) bool { return code < 0 || uint64(code) > uint64(a)+uint64(b) }

// isRight reports whether a proof is right, as the chapter says it.
func isRight(t *testing.T, b api.Building, s api.System, p api.Proof) bool {
	for _, l := range [][][2]int{{{0, 0}}, p.Ring[0], p.Ring[1]} {
		for _, pair := range l {
			if pair[0] < -1 || pair[1] < -1 {
				return false
			}
		}
	}
	if len(p.Table) == 0 || p.Table[0] != 0 || slices.Min(p.Table) < -1 {
		return false
	}
	unit, _ := layout.Unit(s)
	step := func(k, length, code int) bool {
		from := k - length/unit
		return from < 0 || p.Table[from] < 0 || !exceeds(p.Table[k], p.Table[from], code)
	}
	for k := range p.Table {
		for i, n := range s.Bays {
			if code := 10001; i == len(s.Bays)-1 && !step(k, n, 1) || i < len(s.Bays)-1 && !step(k, n, code) {
				return false
			}
		}
		for _, n := range s.Boards {
			if !step(k, n, 10000) {
				return false
			}
		}
	}
	for first := range 2 {
		ring := p.Ring[first]
		if ring[0][first] != 0 || ring[0][1-first] != -1 {
			return false
		}
		for i := range b.Storeys[0].Outline {
			for begin := range 2 {
				for end := range 2 {
					n := runOf(t, b, s, i, begin, end).length
					if ring[i][begin] == -1 || n < 0 || n%unit != 0 {
						continue
					}
					if n/unit >= len(p.Table) || p.Table[n/unit] >= 0 && exceeds(ring[i+1][end], ring[i][begin], p.Table[n/unit]) {
						return false
					}
				}
			}
		}
	}
	return true
}

// isTight reports whether a proof is tight for a layout.
func isTight(s api.System, l api.Layout, p api.Proof) bool {
	var cost api.Cost
	for _, r := range l.Runs {
		c := costOf(s, r.Close)
		cost.Odd, cost.Bays = cost.Odd+c.Odd, cost.Bays+c.Bays
	}
	n := len(p.Ring[0]) - 1
	var ends []int
	for _, c := range []int{p.Ring[0][n][0], p.Ring[1][n][1]} {
		if c != -1 {
			ends = append(ends, c)
		}
	}
	return len(ends) > 0 && slices.Min(ends) == codeOf(cost)
}

// P3.6: what CheckProof refuses, each before those behind it.
func TestCheckProof(t *testing.T) {
	b, s := block(4400), roundSystem()
	l, p := best(t, b, s)
	for _, c := range []struct {
		what   string
		change func(*api.Proof)
		want   api.Errno
	}{
		{"the proof", func(p *api.Proof) {}, api.OK},
		{"a longer table", func(p *api.Proof) { p.Table, _ = layout.Table(s, 2000000) }, api.OK},
		{"too long a table", func(p *api.Proof) {
			p.Table, _ = layout.Table(s, 2000000)
			p.Table = append(p.Table, 5)
			p.Ring[0] = nil
		}, api.ErrLarge},
		{"no ring", func(p *api.Proof) { p.Ring[0] = nil; p.Table = nil }, api.ErrShape},
		{"a short ring", func(p *api.Proof) { p.Ring[1] = p.Ring[1][:4] }, api.ErrShape},
		{"a long ring", func(p *api.Proof) { p.Ring[1] = append(p.Ring[1], [2]int{}) }, api.ErrShape},
		{"no table", func(p *api.Proof) { p.Table = nil }, api.ErrProof},
		{"a table that does not begin with 0", func(p *api.Proof) { p.Table[0] = -1 }, api.ErrProof},
		{"a table that is too great", func(p *api.Proof) { p.Table[5]++ }, api.ErrProof},
		{"a table without a code", func(p *api.Proof) { p.Table[6] = -1 }, api.ErrProof},
		{"a code below -1 in a ring", func(p *api.Proof) { p.Ring[0][2][0] = -2 }, api.ErrProof},
		{"a ring that begins with both choices", func(p *api.Proof) { p.Ring[0][0][1] = 0 }, api.ErrProof},
		{"a ring that begins with the other choice", func(p *api.Proof) { p.Ring[0], p.Ring[1] = p.Ring[1], p.Ring[0] }, api.ErrProof},
		{"a ring that begins with 1", func(p *api.Proof) { p.Ring[1][0][1] = 1 }, api.ErrProof},
		{"a ring that is too great", func(p *api.Proof) { p.Ring[1][3][1]++ }, api.ErrProof},
		{"a ring without a code", func(p *api.Proof) { p.Ring[1][3][1] = -1 }, api.ErrProof},
		{"a ring that is not tight", func(p *api.Proof) { p.Ring[0][4][0] = 0 }, api.ErrProof},
		{"a ring that is less, where this does not count", func(p *api.Proof) { p.Ring[0][4][1] = 0 }, api.OK},
		{"a short table", func(p *api.Proof) { p.Table = p.Table[:10] }, api.ErrProof},
	} {
		q := proofOf(p, c.change)
		wantError(t, c.what, layout.CheckProof(b, s, l, q), c.want)
	}
	// Another layout of the same length that costs more.
	worse := changed(l, func(l *api.Layout) {
		for i, r := range l.Runs {
			if r.Length == 5000 {
				l.Runs[i].Close = api.Closing{Bays: copies(5, 1000)}
			}
		}
	})
	wantError(t, "a worse layout", layout.CheckLayout(b, s, worse), api.OK)
	wantError(t, "the proof of a better one", layout.CheckProof(b, s, worse, p), api.ErrProof)
}

// P3.6: proofs that are changed at random places are accepted just if they are right and tight.
func TestCheckProofOfAll(t *testing.T) {
	d := dice()
	values := []int{-2, -1, 0, 1, 2, 10000, 10001, 20000, math.MaxInt, math.MaxInt - 1, math.MinInt}
	accepted, refused := 0, 0
	for unit := 1; unit <= 2; unit++ {
		next := someRound(t, unit)
		for range 200 {
			r := next()
			l, p, e := layout.Best(r.b, r.s)
			if e != api.OK {
				continue
			}
			for range 40 {
				q := proofOf(p, func(p *api.Proof) {
					for range 1 + d.Intn(2) {
						switch ring := p.Ring[d.Intn(2)]; d.Intn(5) {
						case 0:
							p.Table[d.Intn(len(p.Table))] = values[d.Intn(len(values))]
						case 1:
							p.Table[d.Intn(len(p.Table))] += d.Intn(3) - 1
						case 2:
							ring[d.Intn(len(ring))][d.Intn(2)] = values[d.Intn(len(values))]
						case 3:
							ring[d.Intn(len(ring))][d.Intn(2)] += d.Intn(3) - 1
						case 4:
							p.Table = p.Table[:1+d.Intn(len(p.Table))]
						}
					}
				})
				right := api.ErrProof
				if isRight(t, r.b, r.s, q) && isTight(r.s, l, q) {
					right = api.OK
					accepted++
				} else {
					refused++
				}
				wantError(t, "CheckProof", layout.CheckProof(r.b, r.s, l, q), right)
			}
		}
	}
	if accepted < 1000 || refused < 1000 {
		t.Errorf("%d accepted, %d refused", accepted, refused)
	}
}

// P3.6: codes that are too great to be added.
func TestCheckProofExtremes(t *testing.T) {
	// With bays of 2 and 3 the length 1 is a gap; it may have a code that those behind it, 20002 for 4, allow.
	s := api.System{Bays: []int{2, 3}, Width: 1, Gap: 1, Lift: 4}
	b := house(9, 0, 0, 6, 0, 6, 6, 0, 6)
	l, p := best(t, b, s)
	for n, right := range map[int]api.Errno{
		-2: api.ErrProof, -1: api.OK, 0: api.ErrProof, 20000: api.ErrProof, 20001: api.OK,
		math.MaxInt - 10000: api.OK, math.MaxInt: api.OK, math.MinInt: api.ErrProof,
	} {
		wantError(t, "a gap with a code", layout.CheckProof(b, s, l, proofOf(p, func(p *api.Proof) { p.Table[1] = n })), right)
	}
	lost := func(n int) func(p *api.Proof) {
		return func(p *api.Proof) {
			p.Ring[0] = [][2]int{{0, -1}, {n, n}, {n, n}, {n, n}, {n, n}}
		}
	}
	wantError(t, "states that are too great", layout.CheckProof(b, s, l, proofOf(p, lost(math.MaxInt))), api.ErrProof)
	wantError(t, "states that are too small", layout.CheckProof(b, s, l, proofOf(p, lost(math.MinInt))), api.ErrProof)
}

// More exactly: where a table is long enough for the choices that can be made, no more is needed.
func TestCheckProofShortTable(t *testing.T) {
	// Round a square of 4 with bays of 2, the gap 0 and the width 1, only runs of 4 and 6 can be closed.
	s := api.System{Bays: []int{2}, Width: 1, Gap: 0, Lift: 4}
	b := house(9, 0, 0, 4, 0, 4, 4, 0, 4)
	l, p := best(t, b, s)
	wantError(t, "Best", layout.CheckProof(b, s, l, p), api.OK)
	wantError(t, "a table up to 6", layout.CheckProof(b, s, l, proofOf(p, func(p *api.Proof) { p.Table = []int{0, 1, 2, 3} })), api.OK)
	wantError(t, "a table up to 4", layout.CheckProof(b, s, l, proofOf(p, func(p *api.Proof) { p.Table = []int{0, 1, 2} })), api.ErrProof)
	wantError(t, "a table up to 8", layout.CheckProof(b, s, l, proofOf(p, func(p *api.Proof) { p.Table = []int{0, 1, 2, 3, 4} })), api.OK)
	wantError(t, "a table with less", layout.CheckProof(b, s, l, proofOf(p, func(p *api.Proof) { p.Table = []int{0, 1, 1, 3} })), api.ErrProof)
}
