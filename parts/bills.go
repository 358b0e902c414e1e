package parts

import "putlog/api"

// Bill returns how often each part of the catalogue is in a list.
func Bill(c api.Catalogue, parts []int) ([]int, api.Errno) {
	if e := CheckCatalogue(c); e != api.OK {
		return nil, e
	}
	out := make([]int, len(c.Parts))
	for _, p := range parts {
		if !hasPart(c, p) {
			return nil, api.ErrMissing
		}
		out[p]++
	}
	return out, api.OK
}

// Mass returns the mass of a bill.
func Mass(c api.Catalogue, bill []int) (int, api.Errno) {
	if e := CheckCatalogue(c); e != api.OK {
		return 0, e
	}
	if len(bill) != len(c.Parts) {
		return 0, api.ErrShape
	}
	if !within(0, api.MaxCount, bill...) {
		return 0, api.ErrRange
	}
	sum := 0
	for i, n := range bill {
		sum += n * c.Parts[i].Mass
	}
	return sum, api.OK
}
