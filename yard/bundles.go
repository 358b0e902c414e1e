package yard

import (
	"putlog/api"
	"putlog/exact"
	"putlog/spelling"
)

// maxGrams is the greatest mass of a bundle, and of an item or a lorry.
const maxGrams = 100000000

// Mass returns the mass of wants.
func Mass(w []api.Want, parts []api.Part) (int, api.Errno) {
	named, e := wantedParts(w, parts)
	if e != api.OK {
		return 0, e
	}
	sum := 0
	for _, x := range w {
		sum += x.Count * named[x.Part].Mass
	}
	return sum, api.OK
}

// Bundles returns the bundles of wants.
func Bundles(w []api.Want, parts []api.Part, most int) ([]api.Item, api.Errno) {
	named, e := wantedParts(w, parts)
	if e != api.OK {
		return nil, e
	}
	if !areFrom(1, maxGrams, most) {
		return nil, api.ErrRange
	}
	bundles := 0
	for _, x := range w {
		if x.Count == 0 {
			continue
		}
		if named[x.Part].Mass > most {
			return nil, api.ErrLimit
		}
		bundles += roundedUp(x.Count, bundleSize(x, named[x.Part], most))
	}
	if bundles > api.MaxStock {
		return nil, api.ErrLarge
	}
	var out []api.Item
	for _, x := range w {
		out = append(out, bundled(x, named[x.Part], most)...)
	}
	return out, api.OK
}

// bundled returns the bundles of a want.
func bundled(w api.Want, p api.Part, most int) []api.Item {
	var out []api.Item
	length := lengthOf(p)
	for left := w.Count; left > 0; {
		n := min(left, bundleSize(w, p, most))
		out = append(out, api.Item{Name: p.Name, Mass: n * p.Mass, Length: length})
		left -= n
	}
	return out
}

// bundleSize returns the number of parts in a full bundle of a want, where one part is not too heavy.
func bundleSize(w api.Want, p api.Part, most int) int {
	if p.Mass == 0 {
		return w.Count
	}
	return most / p.Mass
}

// lengthOf returns the length of a part.
func lengthOf(p api.Part) int {
	root, _ := exact.RootBelow(p.Square, 1) // a whole number, as its denominator is 1
	length, _ := exact.Small(root.Num)
	if length*length < p.Square {
		length++
	}
	return length
}

// wantedParts returns the parts of a list by their names, or the error of Mass.
func wantedParts(w []api.Want, parts []api.Part) (map[string]api.Part, api.Errno) {
	if len(w) > api.MaxParts {
		return nil, api.ErrShape
	}
	if e := wantsError(w, 0); e != api.OK {
		return nil, e
	}
	named, e := partsByName(parts)
	if e != api.OK {
		return nil, e
	}
	for _, x := range w {
		if _, ok := named[x.Part]; !ok {
			return nil, api.ErrMissing
		}
	}
	return named, api.OK
}

// partsByName returns the parts of a list by their names, or the error of the list.
func partsByName(l []api.Part) (map[string]api.Part, api.Errno) {
	if len(l) > api.MaxParts {
		return nil, api.ErrLarge
	}
	named := map[string]api.Part{}
	for _, p := range l {
		if !spelling.IsName(p.Name) {
			return nil, api.ErrName
		}
		if _, ok := named[p.Name]; ok {
			return nil, api.ErrExists
		}
		if !areFrom(0, api.MaxSquare, p.Square) || !areFrom(0, api.MaxCount, p.Mass) {
			return nil, api.ErrRange
		}
		named[p.Name] = p
	}
	return named, api.OK
}

// roundedUp returns n divided by a positive number, rounded up.
func roundedUp(n, by int) int { return (n + by - 1) / by }
