package erection_test

import (
	"fmt"
	"math/rand"
	"slices"
	"strconv"
	"testing"

	"putlog/api"
	"putlog/erection"
	"putlog/parts"
)

// The tests call the exported functions only. They compare with the chapter's definitions, written down
// once more: all orders and chains, member against member, schedules minute by minute.

// dice is a repeatable row of chances.
func dice() *rand.Rand { return rand.New(rand.NewSource(7)) }

// same compares two values by their texts, in which a nil slice is as an empty one.
func same(a, b any) bool { return fmt.Sprint(a) == fmt.Sprint(b) }

// want compares what a call returns with what it should.
func want(t *testing.T, what string, got any, e api.Errno, right any, f api.Errno) {
	t.Helper()
	if !same(got, right) || e != f {
		t.Errorf("%s: %v, error %d; want %v, error %d", what, got, e, right, f)
	}
}

// wantError compares an error.
func wantError(t *testing.T, what string, e, right api.Errno) {
	t.Helper()
	if e != right {
		t.Errorf("%s: error %d, want %d", what, e, right)
	}
}

// task is a task for a scaffolder, without a member.
func task(name string, place, minutes int, needs ...int) api.Task {
	return api.Task{Name: name, Trade: "scaffolder", Member: -1, Place: place, Minutes: minutes, Needs: needs}
}

// thePlan is the plan of the chapter's examples. Its members are those of theScaffold.
func thePlan() []api.Task {
	l := []api.Task{task("base", 0, 3), task("post", 0, 10, 0), task("rail", 1, 5, 0), task("deck", 0, 6, 1, 2)}
	for i := range l {
		l[i].Member = i
	}
	return l
}

// theScaffold is a base, a post upon it, a rail from the post's top, and a deck on that.
func theScaffold() api.Scaffold {
	return api.Scaffold{
		Nodes:   nodes(0, 0, 0, 0, 0, 2000, 2000, 0, 2000, 2000, 700, 2000, 0, 700, 2000),
		Members: members(api.KindBase, 0, 0, api.KindStandard, 0, 1, api.KindLedger, 1, 2, api.KindDeck, 1, 3),
	}
}

// theCrew is one gang of all trades from 0 to 100.
func theCrew() api.Crew { return api.Crew{Gangs: []api.Gang{gang("A", 0, 100, "scaffolder")}} }

// gang is a gang from a minute to a minute.
func gang(name string, from, to int, trades ...string) api.Gang {
	return api.Gang{Name: name, Trades: trades, From: from, To: to}
}

func closure(place, from, to int) api.Closure {
	return api.Closure{Place: place, From: from, To: to}
}

// slots is slots of the tasks from 0 on, gangs and starts by turns.
func slots(l ...int) []api.Slot {
	out := []api.Slot{}
	for i := 0; i < len(l); i += 2 {
		out = append(out, api.Slot{Task: i / 2, Gang: l[i], Start: l[i+1]})
	}
	return out
}

// nodes is a list of nodes, X, Y and Z by turns.
func nodes(l ...int) []api.Node {
	out := []api.Node{}
	for i := 0; i < len(l); i += 3 {
		out = append(out, api.Node{X: l[i], Y: l[i+1], Z: l[i+2]})
	}
	return out
}

// members is a list of members, Kind, A and B by turns.
func members(l ...int) []api.Member {
	out := []api.Member{}
	for i := 0; i < len(l); i += 3 {
		out = append(out, api.Member{Kind: l[i], A: l[i+1], B: l[i+2]})
	}
	return out
}

// somePlan is a plan of at most so many tasks at two places, for two trades. A task may need later ones.
func somePlan(d *rand.Rand, most int) []api.Task {
	n := d.Intn(most + 1)
	l := make([]api.Task, n)
	order := d.Perm(n)
	often := 1 + d.Intn(6)
	for i, t := range order {
		l[t] = task("t"+strconv.Itoa(t), d.Intn(2+d.Intn(3)), d.Intn(7))
		l[t].Trade = []string{"scaffolder", "smith"}[d.Intn(2)]
		for _, earlier := range order[:i] {
			if d.Intn(often) == 0 {
				l[t].Needs = append(l[t].Needs, earlier)
			}
		}
		slices.Sort(l[t].Needs)
	}
	return l
}

// independent is so many tasks without needs.
func independent(n int) []api.Task {
	out := []api.Task{}
	for i := range n {
		out = append(out, task("t"+strconv.Itoa(i), 0, 1))
	}
	return out
}

// has reports whether a list has all elements of another one.
func has(l, all []int) bool {
	return !slices.ContainsFunc(all, func(n int) bool { return !slices.Contains(l, n) })
}

// eachOrder calls a function for each order of a plan, in lexicographic order.
func eachOrder(l []api.Task, call func(order []int)) {
	var grow func(order []int)
	grow = func(order []int) {
		if len(order) == len(l) {
			call(order)
		}
		for t := range l {
			if !slices.Contains(order, t) && has(order, l[t].Needs) {
				grow(append(slices.Clone(order), t))
			}
		}
	}
	grow(nil)
}

// handlingsOf is how often the place changes in an order.
func handlingsOf(l []api.Task, order []int) int {
	n := 0
	for i := range order {
		if i > 0 && l[order[i]].Place != l[order[i-1]].Place {
			n++
		}
	}
	return n
}

// eachSet calls a function for each set of tasks of a plan, and says whether it is a stage.
func eachSet(l []api.Task, call func(set []int, isStage bool)) {
	for bits := range 1 << len(l) {
		set := []int{}
		for t := range l {
			if bits>>t&1 == 1 {
				set = append(set, t)
			}
		}
		call(set, !slices.ContainsFunc(set, func(t int) bool { return !has(set, l[t].Needs) }))
	}
}

// lattice is nodes on four lines, on unequal heights.
func lattice() []api.Node {
	out := []api.Node{}
	for _, z := range []int{-1500, 0, 999, 2000} {
		out = append(out, nodes(0, 0, z, 2000, 0, z, 0, 700, z, 2000, 700, z)...)
	}
	return out
}

// allMembers is all members that can be between nodes.
func allMembers(l []api.Node) []api.Member {
	out := []api.Member{}
	for kind := range 10 {
		for a := range l {
			for b := range l {
				m := api.Member{Kind: kind, A: a, B: b}
				if parts.Check(api.Scaffold{Nodes: l, Members: []api.Member{m}}) == api.OK {
					out = append(out, m)
				}
			}
		}
	}
	return out
}

// someScaffold is some of the members between nodes, of some of the kinds, in any order.
func someScaffold(d *rand.Rand, l []api.Node, all []api.Member) api.Scaffold {
	s := api.Scaffold{Nodes: l}
	var often [10]int
	for kind := range often {
		often[kind] = 1 + d.Intn(4)*d.Intn(10)
	}
	for _, i := range d.Perm(len(all)) {
		if d.Intn(often[all[i].Kind]) == 0 && d.Intn(2) == 0 {
			s.Members = append(s.Members, all[i])
		}
	}
	return s
}

// An input is arguments for all functions of the package.
type input struct {
	tasks    []api.Task
	done     []int
	order    []int
	scaffold api.Scaffold
	free     int
	crew     api.Crew
	slots    []api.Slot
}

// fine is an input that no function refuses.
func fine() input {
	return input{
		tasks:    thePlan(),
		done:     []int{0, 1},
		order:    []int{0, 1, 2, 3},
		scaffold: theScaffold(),
		free:     2000,
		crew: api.Crew{
			Gangs:  append(theCrew().Gangs, gang("B", 5, 10, "smith"), gang("C", 0, 0)),
			Closed: []api.Closure{closure(0, 90, 95)},
		},
		slots: slots(0, 0, 0, 3, 0, 13, 0, 18),
	}
}

// A fault is a change of an input, and the error that it makes.
type fault struct {
	is     api.Errno
	change func(x *input)
}

// inOrder checks that a function accepts the fine input, refuses each fault, and of two faults tells the
// one that is listed first. Faults that are the same part of the list are one element of it.
func inOrder(t *testing.T, what string, call func(x input) api.Errno, list ...[]fault) {
	t.Helper()
	wantError(t, what+" of the fine input", call(fine()), api.OK)
	for i, faults := range list {
		for a, f := range faults {
			x := fine()
			f.change(&x)
			wantError(t, fmt.Sprintf("%s with fault %d.%d", what, i, a), call(x), f.is)
			for j := i + 1; j < len(list); j++ {
				for b, later := range list[j] {
					x := fine()
					later.change(&x)
					f.change(&x)
					wantError(t, fmt.Sprintf("%s with faults %d.%d and %d.%d", what, i, a, j, b), call(x), f.is)
				}
			}
		}
	}
}

// one is one fault.
func one(is api.Errno, change func(x *input)) []fault { return []fault{{is, change}} }

// planFault is the errors of Check; a plan is too large, or has a wrong task, or has a circle.
func planFault() []fault {
	return []fault{
		{api.ErrLarge, func(x *input) { x.tasks = independent(4001) }},
		{api.ErrName, func(x *input) { x.tasks[0].Name = "" }},
		{api.ErrOrder, func(x *input) { x.tasks[3].Needs = []int{2, 1} }},
		{api.ErrCycle, func(x *input) { x.tasks[2].Needs = []int{3} }},
	}
}

// doneFault is the errors of a list of tasks, in their order.
func doneFault() [][]fault {
	return [][]fault{
		{
			{api.ErrMissing, func(x *input) { x.done = append(x.done, -1) }},
			{api.ErrMissing, func(x *input) { x.done = append([]int{4}, x.done...) }},
		},
		{
			{api.ErrOrder, func(x *input) { x.done = append(x.done, 1) }},
			{api.ErrOrder, func(x *input) { x.done = append(x.done, 3, 2) }},
		},
	}
}

// scaffoldFault is the error of parts.Check.
func scaffoldFault() []fault {
	return one(api.ErrForm, func(x *input) { x.scaffold.Members[1] = api.Member{Kind: api.KindStandard, A: 1, B: 0} })
}

// crewFault is the errors of CheckCrew.
func crewFault() []fault {
	return []fault{
		{api.ErrShape, func(x *input) { x.crew.Gangs = nil }},
		{api.ErrName, func(x *input) { x.crew.Gangs[0].Name = "1" }},
		{api.ErrRange, func(x *input) { x.crew.Closed = append(x.crew.Closed, closure(0, -1, 0)) }},
	}
}

// planOf is the plan of a scaffold that is right.
func planOf(t *testing.T, s api.Scaffold) []api.Task {
	t.Helper()
	l, e := erection.FromScaffold(s)
	if e != api.OK {
		t.Fatalf("FromScaffold: error %d", e)
	}
	return l
}
