package erection

import (
	"slices"

	"putlog/api"
)

// Layers returns the tasks by depths.
func Layers(l []api.Task) ([][]int, api.Errno) {
	p, e := planOf(l)
	if e != api.OK {
		return nil, e
	}
	depths := make([]int, len(l))
	layers := 0
	for _, t := range p.order {
		for _, n := range l[t].Needs {
			depths[t] = max(depths[t], depths[n]+1)
		}
		layers = max(layers, depths[t]+1)
	}
	out := make([][]int, layers)
	for t, d := range depths {
		out[d] = append(out[d], t)
	}
	return out, api.OK
}

// Critical returns the greatest length of a chain, and the first chain lexicographically of those with it.
func Critical(l []api.Task) (int, []int, api.Errno) {
	p, e := planOf(l)
	if e != api.OK || len(l) == 0 {
		return 0, nil, e
	}
	lengths := p.chains()
	most := slices.Max(lengths)
	t := slices.Index(lengths, most)
	chain := []int{t}
	// A chain that could go on with tasks of 0 minutes ends all the same, as it is the first one so.
	for rest := most - l[t].Minutes; rest > 0; rest -= l[t].Minutes {
		next := slices.IndexFunc(p.users[t], func(u int) bool { return lengths[u] == rest })
		t = p.users[t][next]
		chain = append(chain, t)
	}
	return most, chain, api.OK
}

// chains returns for each task the greatest length of a chain that begins with it.
func (p plan) chains() []int {
	out := make([]int, len(p.tasks))
	for _, t := range slices.Backward(p.order) {
		for _, u := range p.users[t] {
			out[t] = max(out[t], out[u])
		}
		out[t] += p.tasks[t].Minutes
	}
	return out
}
