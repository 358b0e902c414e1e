package layout

import (
	"slices"

	"putlog/api"
)

// Table returns the codes of all multiples of the unit up to most.
func Table(s api.System, most int) ([]int, api.Errno) {
	t, e := tableUpTo(s, most)
	return t.codes, e
}

// Gaps returns the multiples of the unit up to most that cannot be closed.
func Gaps(s api.System, most int) ([]int, api.Errno) {
	t, e := tableUpTo(s, most)
	var out []int
	for k, c := range t.codes {
		if c == unclosed {
			out = append(out, k*t.unit)
		}
	}
	return out, e
}

// maxWays is the greatest number of closings that is told.
const maxWays = 1000000

// Ways returns the number of all closings of a length.
func Ways(s api.System, length int) (int, api.Errno) {
	if e := systemAndLengthError(s, length); e != api.OK {
		return 0, e
	}
	d := unit(s)
	if length%d != 0 {
		return 0, api.OK
	}
	counts := make([]int, length/d+1)
	counts[0] = 1
	for _, p := range partsOf(s) {
		for k := p.units; k < len(counts); k++ {
			// What is too many stays too many, however many more there are.
			counts[k] = min(counts[k]+counts[k-p.units], maxWays+1)
		}
	}
	if n := counts[len(counts)-1]; n <= maxWays {
		return n, api.OK
	}
	return 0, api.ErrLarge
}

// unclosed is the code of a length that cannot be closed.
const unclosed = -1

// A part is a bay or a board of a system.
type part struct {
	length, units int
	code          int // of its cost
	board         bool
}

// A table is the codes of the multiples of the unit, with the parts of the system.
type table struct {
	unit  int
	parts []part
	codes []int
}

func systemAndLengthError(s api.System, length int) api.Errno {
	if e := CheckSystem(s); e != api.OK {
		return e
	}
	switch {
	case length < 0:
		return api.ErrRange
	case length > api.MaxTable*unit(s):
		return api.ErrLarge
	}
	return api.OK
}

// tableUpTo returns the table of the multiples of the unit up to most; or the error of the system, or of most.
func tableUpTo(s api.System, most int) (table, api.Errno) {
	if e := systemAndLengthError(s, most); e != api.OK {
		return table{}, e
	}
	return tableOf(s, most), api.OK
}

// tableOf is tableUpTo without its errors.
func tableOf(s api.System, most int) table {
	t := table{unit: unit(s), parts: partsOf(s), codes: []int{0}}
	for k := 1; k <= most/t.unit; k++ {
		least := unclosed
		for _, p := range t.parts {
			if c := t.codeWith(p, k); c != unclosed && (least == unclosed || c < least) {
				least = c
			}
		}
		t.codes = append(t.codes, least)
	}
	return t
}

// partsOf returns the parts of a system.
func partsOf(s api.System) []part {
	d := unit(s)
	var out []part
	for _, n := range s.Bays {
		out = append(out, part{n, n / d, code(costOf(s, api.Closing{Bays: []int{n}})), false})
	}
	for _, n := range s.Boards {
		out = append(out, part{n, n / d, code(costOf(s, api.Closing{Boards: []int{n}})), true})
	}
	return out
}

// code returns the code of a cost.
func code(c api.Cost) int { return 10000*c.Odd + c.Bays }

// codeWith returns the code of k units of which one part is given.
func (t table) codeWith(p part, k int) int {
	if k < p.units || t.codes[k-p.units] == unclosed {
		return unclosed
	}
	return t.codes[k-p.units] + p.code
}

// code returns the code of a length; one that is no multiple of the unit, is negative or lies beyond the
// table cannot be closed.
func (t table) code(length int) int {
	if length < 0 || length%t.unit != 0 || length/t.unit >= len(t.codes) {
		return unclosed
	}
	return t.codes[length/t.unit]
}

// closing returns a closing of the least cost of a length that can be closed.
func (t table) closing(length int) api.Closing {
	var out api.Closing
	for k := length / t.unit; k > 0; {
		i := slices.IndexFunc(t.parts, func(p part) bool { return t.codeWith(p, k) == t.codes[k] })
		p := t.parts[i]
		if p.board {
			out.Boards = append(out.Boards, p.length)
		} else {
			out.Bays = append(out.Bays, p.length)
		}
		k -= p.units
	}
	slices.SortFunc(out.Bays, falling)
	slices.SortFunc(out.Boards, falling)
	return out
}
