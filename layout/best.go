package layout

import (
	"slices"

	"putlog/api"
)

// Blocked returns the facades whose runs cannot be closed, whatever the choices are.
func Blocked(b api.Building, s api.System) ([]int, api.Errno) {
	r, t, e := ringAndTable(b, s)
	if e != api.OK {
		return nil, e
	}
	var out []int
	for i := range r.walls {
		closes := func(c choice) bool { return t.code(r.length(i, c[0], c[1])) != unclosed }
		if !slices.ContainsFunc(choices(), closes) {
			out = append(out, i)
		}
	}
	return out, api.OK
}

// Best returns a layout of the least cost, and a proof that is tight for it.
func Best(b api.Building, s api.System) (api.Layout, api.Proof, api.Errno) {
	r, t, e := ringAndTable(b, s)
	if e != api.OK {
		return api.Layout{}, api.Proof{}, e
	}
	p := api.Proof{Table: t.codes}
	for first := range p.Ring {
		p.Ring[first] = r.states(t, first)
	}
	first := firstChoice(p)
	if first < 0 {
		return api.Layout{}, api.Proof{}, api.ErrGap
	}
	return r.layout(t, r.path(t, p.Ring[first], first)), p, api.OK
}

// A choice is the choices at the beginning and at the end of a run.
type choice [2]int

// choices returns all of them.
func choices() []choice { return []choice{{0, 0}, {0, 1}, {1, 0}, {1, 1}} }

// ringAndTable returns the ring, or its error, and a table for all its runs.
func ringAndTable(b api.Building, s api.System) (ring, table, api.Errno) {
	r, e := ringOf(b, s)
	if e != api.OK {
		return ring{}, table{}, e
	}
	longest := 0
	for i := range r.walls {
		longest = max(longest, r.length(i, 1, 0))
	}
	t, e := tableUpTo(s, longest)
	return r, t, e
}

// states returns the least codes of the runs before each corner, for each choice there, where the choice
// for corner 0 is given.
func (r ring) states(t table, first int) [][2]int {
	state := [2]int{unclosed, unclosed}
	state[first] = 0
	out := [][2]int{state}
	for i := range r.walls {
		next := [2]int{unclosed, unclosed}
		for _, c := range choices() {
			n := r.codeWith(t, state, i, c)
			if n != unclosed && (next[c[1]] == unclosed || n < next[c[1]]) {
				next[c[1]] = n
			}
		}
		state = next
		out = append(out, state)
	}
	return out
}

// codeWith returns the code of the runs up to that of a facade, from the state before it on.
func (r ring) codeWith(t table, state [2]int, facade int, c choice) int {
	run := t.code(r.length(facade, c[0], c[1]))
	if state[c[0]] == unclosed || run == unclosed {
		return unclosed
	}
	return state[c[0]] + run
}

// firstChoice returns the choice for corner 0 with the least code of the whole ring, or -1 if none has one.
func firstChoice(p api.Proof) int {
	best := -1
	for first := range 2 {
		c := around(p, first)
		if c != unclosed && (best < 0 || c < around(p, best)) {
			best = first
		}
	}
	return best
}

// around returns the code of the whole ring for a choice for corner 0.
func around(p api.Proof, first int) int {
	states := p.Ring[first]
	return states[len(states)-1][first]
}

// path returns choices for all corners whose runs have the code of the last state.
func (r ring) path(t table, states [][2]int, first int) []int {
	out := make([]int, len(r.walls))
	end := first
	for i := len(r.walls) - 1; i >= 0; i-- {
		leads := func(c choice) bool {
			return c[1] == end && r.codeWith(t, states[i], i, c) == states[i+1][end]
		}
		all := choices()
		end = all[slices.IndexFunc(all, leads)][0]
		out[i] = end
	}
	return out
}

// layout returns the layout with choices whose runs can be closed.
func (r ring) layout(t table, corners []int) api.Layout {
	out := api.Layout{Corners: corners}
	for i := range r.walls {
		begin, end := corners[i], corners[(i+1)%len(corners)]
		length := r.length(i, begin, end)
		out.Runs = append(out.Runs, api.Run{
			Facade: i, Start: r.start(i, begin), Length: length, Close: t.closing(length),
		})
	}
	return out
}
