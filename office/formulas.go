package office

import (
	"slices"

	"putlog/api"
	"putlog/exact"
)

// maxFormula is the number of bytes that a formula may have.
const maxFormula = 500

// Uses returns the names in a formula.
func Uses(formula string) ([]string, api.Errno) {
	x, e := formulaOf(formula)
	if e != api.OK {
		return nil, e
	}
	names := x.names()
	slices.Sort(names)
	return slices.Compact(names), api.OK
}

// Evaluate returns the value of a formula by figures.
func Evaluate(formula string, l []api.Figure) (api.Rat, api.Errno) {
	x, e := formulaOf(formula)
	if e != api.OK {
		return api.Rat{}, e
	}
	values := map[string]api.Rat{}
	for _, name := range x.names() {
		i := slices.IndexFunc(l, func(f api.Figure) bool { return f.Name == name })
		if i < 0 {
			return api.Rat{}, api.ErrMissing
		}
		values[name] = l[i].Value
	}
	return x.value(values)
}

// formulaOf returns the formula that a text is.
func formulaOf(text string) (formula, api.Errno) {
	if len(text) > maxFormula {
		return nil, api.ErrLarge
	}
	return parseFormula(text)
}

// A formula is a number, a name, the opposite of a formula, or two formulas with a sign between them.
type formula interface {
	// names returns the names in it, in new memory.
	names() []string
	// value returns its value, if names have these values.
	value(of map[string]api.Rat) (api.Rat, api.Errno)
}

type (
	numeral   int
	variable  string
	opposite  struct{ of formula }
	operation struct {
		sign        byte
		left, right formula
	}
)

func (n numeral) names() []string   { return nil }
func (v variable) names() []string  { return []string{string(v)} }
func (o opposite) names() []string  { return o.of.names() }
func (o operation) names() []string { return slices.Concat(o.left.names(), o.right.names()) }

func (n numeral) value(map[string]api.Rat) (api.Rat, api.Errno) { return exact.Whole(int(n)), api.OK }

func (v variable) value(of map[string]api.Rat) (api.Rat, api.Errno) {
	return exact.Normal(of[string(v)]), api.OK
}

func (o opposite) value(of map[string]api.Rat) (api.Rat, api.Errno) {
	x, e := o.of.value(of)
	if e != api.OK {
		return api.Rat{}, e
	}
	return exact.Sub(exact.Whole(0), x), api.OK
}

func (o operation) value(of map[string]api.Rat) (api.Rat, api.Errno) {
	x, e := o.left.value(of)
	if e != api.OK {
		return api.Rat{}, e
	}
	y, e := o.right.value(of)
	if e != api.OK {
		return api.Rat{}, e
	}
	switch o.sign {
	case '+':
		return exact.Add(x, y), api.OK
	case '-':
		return exact.Sub(x, y), api.OK
	case '*':
		return exact.Mul(x, y), api.OK
	}
	return exact.Quo(x, y)
}
