package yard

import (
	"cmp"
	"slices"

	"putlog/api"
	"putlog/spelling"
)

// The places. The jobs have the numbers from firstJob to lastJob.
const (
	outside = iota - 1
	home    // the yard itself
	firstJob

	lastJob = 99
)

// The states of parts.
const (
	good = iota
	damaged
	inRepair
	quarantine
)

// Check accepts what is a stock.
func Check(l []api.Stock) api.Errno {
	if len(l) > api.MaxStock {
		return api.ErrLarge
	}
	for _, x := range l {
		if !spelling.IsName(x.Part) {
			return api.ErrName
		}
		if !areFrom(home, lastJob, x.Place) || !areFrom(good, quarantine, x.State) || !areFrom(0, api.MaxCount, x.Count) {
			return api.ErrRange
		}
	}
	return api.OK
}

// Normal returns the normal form of a stock.
func Normal(l []api.Stock) ([]api.Stock, api.Errno) {
	if e := Check(l); e != api.OK {
		return nil, e
	}
	s := shelvesOf(l)
	if s.areTooMany() {
		return nil, api.ErrLarge
	}
	return s.entries(), api.OK
}

// Count returns the count of a part at a place in a state.
func Count(l []api.Stock, part string, at [2]int) (int, api.Errno) {
	if e := Check(l); e != api.OK {
		return 0, e
	}
	return shelvesOf(l)[shelf{part, at[0], at[1]}], api.OK
}

// Total returns the count of a part at all places and in all states.
func Total(l []api.Stock, part string) (int, api.Errno) {
	if e := Check(l); e != api.OK {
		return 0, e
	}
	sum := 0
	for _, x := range l {
		if x.Part == part {
			sum += x.Count
		}
	}
	return sum, api.OK
}

// A shelf is where the parts of one kind lie that are at one place in one state.
type shelf struct {
	part         string
	place, state int
}

// shelves says how many parts lie on each shelf. Empty shelves are not in it.
type shelves map[shelf]int

// shelvesOf returns the shelves of a stock.
func shelvesOf(l []api.Stock) shelves {
	s := shelves{}
	for _, x := range l {
		s.put(shelf{x.Part, x.Place, x.State}, x.Count)
	}
	return s
}

// put lays so many more parts on a shelf, or takes them away if the count is negative.
func (s shelves) put(at shelf, count int) {
	s[at] += count
	if s[at] == 0 {
		delete(s, at)
	}
}

// areTooMany reports whether the shelves are more than a stock in normal form has entries, or have more
// parts than one of these can.
func (s shelves) areTooMany() bool {
	for _, count := range s {
		if count > api.MaxCount {
			return true
		}
	}
	return len(s) > api.MaxStock
}

// entries returns the stock in normal form that the shelves have.
func (s shelves) entries() []api.Stock {
	var out []api.Stock
	for at, count := range s {
		out = append(out, api.Stock{Part: at.part, Place: at.place, State: at.state, Count: count})
	}
	slices.SortFunc(out, compareEntries)
	return out
}

// compareEntries compares entries of different shelves.
func compareEntries(x, y api.Stock) int {
	return cmp.Or(cmp.Compare(x.Part, y.Part), cmp.Compare(x.Place, y.Place), cmp.Compare(x.State, y.State))
}

// areFrom reports whether all numbers are from low to high.
func areFrom(low, high int, numbers ...int) bool {
	for _, n := range numbers {
		if n < low || n > high {
			return false
		}
	}
	return true
}
