package erection_test

import (
	"slices"
	"testing"

	"putlog/api"
	"putlog/erection"
)

// P7.6: the chapter's examples, and plans with several chains of the same length.
func TestLayersAndCritical(t *testing.T) {
	for _, x := range []struct {
		l      []api.Task
		layers [][]int
		length int
		chain  []int
	}{
		{thePlan(), [][]int{{0}, {1, 2}, {3}}, 19, []int{0, 1, 3}},
		{nil, nil, 0, nil},
		{[]api.Task{task("a", 0, 0)}, [][]int{{0}}, 0, []int{0}},
		{[]api.Task{task("a", 0, 0), task("b", 0, 7)}, [][]int{{0, 1}}, 7, []int{1}},
		{[]api.Task{task("a", 0, 0), task("b", 0, 7, 0)}, [][]int{{0}, {1}}, 7, []int{0, 1}},
		{[]api.Task{task("a", 0, 7), task("b", 0, 0, 0)}, [][]int{{0}, {1}}, 7, []int{0}},
		{[]api.Task{task("a", 0, 7, 1), task("b", 0, 0)}, [][]int{{1}, {0}}, 7, []int{0}},
		{[]api.Task{task("a", 0, 1), task("b", 0, 0, 0), task("c", 0, 2, 0, 1)}, [][]int{{0}, {1}, {2}}, 3, []int{0, 1, 2}},
		{[]api.Task{task("a", 0, 1, 1), task("b", 0, 2, 2), task("c", 0, 3)}, [][]int{{2}, {1}, {0}}, 6, []int{2, 1, 0}},
		{[]api.Task{task("a", 0, 2), task("b", 0, 1), task("c", 0, 1, 1), task("d", 0, 2)}, [][]int{{0, 1, 3}, {2}}, 2, []int{0}},
		{[]api.Task{task("a", 0, 0), task("b", 0, 0, 0)}, [][]int{{0}, {1}}, 0, []int{0}},
	} {
		layers, e := erection.Layers(x.l)
		want(t, "Layers", layers, e, x.layers, api.OK)
		length, chain, e := erection.Critical(x.l)
		want(t, "Critical", []any{length, chain}, e, []any{x.length, x.chain}, api.OK)
	}
}

// P7.6: the greatest lengths.
func TestCriticalOfALargePlan(t *testing.T) {
	l := chained(1000)
	l = append(l, independent(4000)[1000:]...)
	for i := range l {
		l[i].Minutes = 10000
	}
	right := []int{}
	for i := range 1000 {
		right = append(right, i)
	}
	length, chain, e := erection.Critical(l)
	want(t, "Critical", []any{length, chain}, e, []any{10000000, right}, api.OK)
	layers, e := erection.Layers(l)
	want(t, "Layers", []any{len(layers), len(layers[0]), layers[999]}, e, []any{1000, 3001, []int{999}}, api.OK)
}

// P7.6: the errors.
func TestChainErrors(t *testing.T) {
	inOrder(t, "Layers", func(x input) api.Errno {
		l, e := erection.Layers(x.tasks)
		if e != api.OK {
			want(t, "Layers", l, e, [][]int{}, e)
		}
		return e
	}, planFault())
	inOrder(t, "Critical", func(x input) api.Errno {
		n, l, e := erection.Critical(x.tasks)
		if e != api.OK {
			want(t, "Critical", []any{n, l}, e, []any{0, []int{}}, e)
		}
		return e
	}, planFault())
}

// eachChain calls a function for each chain of a plan, in lexicographic order.
func eachChain(l []api.Task, call func(chain []int, length int)) {
	var grow func(chain []int, length int)
	grow = func(chain []int, length int) {
		call(chain, length)
		for t, x := range l {
			if slices.Contains(x.Needs, chain[len(chain)-1]) {
				grow(append(slices.Clone(chain), t), length+x.Minutes)
			}
		}
	}
	for t, x := range l {
		grow([]int{t}, x.Minutes)
	}
}

// depthOf is the depth of a task, from the definition.
func depthOf(l []api.Task, t int) int {
	depth := 0
	for _, n := range l[t].Needs {
		depth = max(depth, depthOf(l, n)+1)
	}
	return depth
}

// P7.6, P7.11: all chains are gone through. The layers contain each task once, behind all that it needs.
func TestChainsByDefinition(t *testing.T) {
	d := dice()
	for range 2000 {
		l := somePlan(d, 8)
		most, first := -1, []int{}
		eachChain(l, func(chain []int, length int) {
			if length > most {
				most, first = length, chain
			}
		})
		length, chain, e := erection.Critical(l)
		want(t, "Critical", []any{length, chain}, e, []any{max(most, 0), first}, api.OK)

		right := [][]int{}
		for i := range l {
			for depthOf(l, i) >= len(right) {
				right = append(right, nil)
			}
		}
		for i := range l {
			right[depthOf(l, i)] = append(right[depthOf(l, i)], i)
		}
		layers, e := erection.Layers(l)
		want(t, "Layers", layers, e, right, api.OK)
		place, e := erection.Accept(l, slices.Concat(layers...))
		want(t, "Accept of the layers", place, e, -1, api.OK)
	}
}
