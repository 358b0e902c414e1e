package yard

import (
	"slices"

	"putlog/api"
	"putlog/spelling"
)

// maxLength is the greatest length of an item or a lorry.
const maxLength = 100000000

// CheckLoads accepts right loadings.
func CheckLoads(items []api.Item, lorry api.Lorry, loads [][]int) api.Errno {
	if e := itemsError(items, lorry); e != api.OK {
		return e
	}
	if len(loads) > len(items) {
		return api.ErrShape
	}
	loaded := make([]bool, len(items))
	for _, load := range loads {
		if e := loadError(items, lorry, load, loaded); e != api.OK {
			return e
		}
		for _, i := range load {
			loaded[i] = true
		}
	}
	if slices.Contains(loaded, false) {
		return api.ErrProof
	}
	return api.OK
}

// loadError is the first error of a load, where some items are in earlier ones.
func loadError(items []api.Item, lorry api.Lorry, load []int, loaded []bool) api.Errno {
	if len(load) == 0 {
		return api.ErrZero
	}
	mass := 0
	for at, i := range load {
		switch {
		case !areFrom(0, len(items)-1, i):
			return api.ErrMissing
		case at > 0 && i <= load[at-1]:
			return api.ErrOrder
		case loaded[i]:
			return api.ErrExists
		case items[i].Length > lorry.Length:
			return api.ErrLimit
		}
		mass += items[i].Mass
	}
	if mass > lorry.Mass {
		return api.ErrLimit
	}
	return api.OK
}

// Load returns a loading with the least number of lorries.
func Load(items []api.Item, lorry api.Lorry) ([][]int, api.Errno) {
	if e := itemsError(items, lorry); e != api.OK {
		return nil, e
	}
	if len(items) > api.MaxItems {
		return nil, api.ErrLarge
	}
	for _, x := range items {
		if x.Length > lorry.Length || x.Mass > lorry.Mass {
			return nil, api.ErrLimit
		}
	}
	firsts := firstLoads(items, lorry)
	var out [][]int
	for left := len(firsts) - 1; left > 0; left &^= firsts[left] {
		var load []int
		for i := range items {
			if firsts[left]>>i&1 == 1 {
				load = append(load, i)
			}
		}
		out = append(out, load)
	}
	return out, api.OK
}

// firstLoads returns for each set of items the load of its lowest one in a loading of the set with the
// fewest lorries, none of the items being too heavy alone. A set is a number: it has the bit i if it
// contains the item i.
func firstLoads(items []api.Item, lorry api.Lorry) []int {
	masses := massesOf(items)
	least := make([]int, len(masses))
	firsts := make([]int, len(masses))
	for set := 1; set < len(masses); set++ {
		least[set] = len(items) + 1 // more than are needed
		lowest := set & -set
		rest := set &^ lowest
		// From all of the rest down to nothing of it.
		for others := rest; others >= 0; others = smaller(others, rest) {
			load := lowest | others
			if lorries := least[set&^load] + 1; masses[load] <= lorry.Mass && lorries < least[set] {
				least[set], firsts[set] = lorries, load
			}
		}
	}
	return firsts
}

// smaller returns the next smaller one of the sets within a set, -1 behind the empty one.
func smaller(part, whole int) int {
	if part == 0 {
		return -1
	}
	return (part - 1) & whole
}

// massesOf returns the mass of each set of items.
func massesOf(items []api.Item) []int {
	masses := make([]int, 1<<len(items))
	for i, x := range items {
		for others := range 1 << i {
			masses[others|1<<i] = masses[others] + x.Mass
		}
	}
	return masses
}

// LeastLorries returns a number of lorries than which no right loading has fewer.
func LeastLorries(items []api.Item, lorry api.Lorry) (int, api.Errno) {
	if e := itemsError(items, lorry); e != api.OK {
		return 0, e
	}
	if len(items) == 0 {
		return 0, api.OK
	}
	sum := 0
	for _, x := range items {
		sum += x.Mass
	}
	return max(1, roundedUp(sum, lorry.Mass)), api.OK
}

// itemsError is the first error of items and of their lorry.
func itemsError(items []api.Item, lorry api.Lorry) api.Errno {
	if len(items) > api.MaxStock {
		return api.ErrLarge
	}
	for _, x := range items {
		if !spelling.IsName(x.Name) {
			return api.ErrName
		}
		if !areFrom(0, maxGrams, x.Mass) || !areFrom(0, maxLength, x.Length) {
			return api.ErrRange
		}
	}
	if !areFrom(1, maxGrams, lorry.Mass) || !areFrom(0, maxLength, lorry.Length) {
		return api.ErrRange
	}
	return api.OK
}
