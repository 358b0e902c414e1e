package layout

import "putlog/api"

// CheckProof accepts a right proof that is tight for the layout.
func CheckProof(b api.Building, s api.System, l api.Layout, p api.Proof) api.Errno {
	r, e := ringWithLayout(b, s, l)
	if e != api.OK {
		return e
	}
	if len(p.Table) > api.MaxTable+1 {
		return api.ErrLarge
	}
	for _, states := range p.Ring {
		if len(states) != len(r.walls)+1 {
			return api.ErrShape
		}
	}
	t := table{unit: unit(s), parts: partsOf(s), codes: p.Table}
	if !t.right() || !r.right(t, p.Ring[0], 0) || !r.right(t, p.Ring[1], 1) {
		return api.ErrProof
	}
	if best := firstChoice(p); best < 0 || around(p, best) != code(total(s, l)) {
		return api.ErrProof
	}
	return api.OK
}

// right reports whether the codes of the table are 0 for 0 and no more than any part allows.
func (t table) right() bool {
	if len(t.codes) == 0 || t.codes[0] != 0 {
		return false
	}
	for k, c := range t.codes {
		if c < unclosed {
			return false
		}
		for _, p := range t.parts {
			if p.units <= k && !bounded(c, t.codes[k-p.units], p.code) {
				return false
			}
		}
	}
	return true
}

// bounded reports whether a code, at least -1, follows from the one before and a step, or is less.
func bounded(code, before, step int) bool {
	// The sum of before and step may be too great for a number.
	return before == unclosed || code != unclosed && code-step <= before
}

// right reports whether states begin with a choice for corner 0, and are no more than the table allows.
func (r ring) right(t table, states [][2]int, first int) bool {
	begin := [2]int{unclosed, unclosed}
	begin[first] = 0
	if states[0] != begin {
		return false
	}
	for i := range r.walls {
		next := states[i+1]
		if next[0] < unclosed || next[1] < unclosed {
			return false
		}
		for _, c := range choices() {
			if states[i][c[0]] != unclosed && !t.allows(next[c[1]], states[i][c[0]], r.length(i, c[0], c[1])) {
				return false
			}
		}
	}
	return true
}

// allows reports whether the table has the length of a run, if this is a multiple of the unit, and bounds the
// code behind the run.
func (t table) allows(code, before, length int) bool {
	if length < 0 || length%t.unit != 0 {
		return true
	}
	if length/t.unit >= len(t.codes) {
		return false
	}
	run := t.codes[length/t.unit]
	return run == unclosed || bounded(code, before, run)
}
