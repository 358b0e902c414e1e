package exact

import (
	"slices"

	"putlog/api"
)

// Optimize returns a certificate of a program.
func Optimize(p api.Program) (api.Optimum, api.Errno) {
	if e := programError(p); e != api.OK {
		return api.Optimum{}, e
	}
	t := tableauOf(p)
	if !t.enter() {
		return api.Optimum{Kind: 1, Y: t.prices(t.firstGoal()), Value: Whole(0)}, api.OK
	}
	if c := t.improve(t.goal()); c >= 0 {
		return api.Optimum{Kind: 2, X: t.corner(), Ray: t.ray(c), Value: Whole(0)}, api.OK
	}
	return api.Optimum{X: t.corner(), Y: t.prices(t.goal()), Value: t.value()}, api.OK
}

// CheckOptimum accepts any certificate of a program.
func CheckOptimum(p api.Program, o api.Optimum) api.Errno {
	if e := programError(p); e != api.OK {
		return e
	}
	right := false
	switch o.Kind {
	case 0:
		right = len(o.Ray) == 0 && isBest(p, o)
	case 1:
		right = len(o.X) == 0 && len(o.Ray) == 0 && signOfRat(o.Value) == 0 && isImpossible(p, o.Y)
	case 2:
		right = len(o.Y) == 0 && signOfRat(o.Value) == 0 && isUnbounded(p, o)
	}
	if !right {
		return api.ErrProof
	}
	return api.OK
}

func programError(p api.Program) api.Errno {
	if e := matrixError(p.A); e != api.OK {
		return e
	}
	if len(p.B) != len(p.A) || len(p.A) > 0 && len(p.C) != width(p.A) {
		return api.ErrShape
	}
	if len(p.C) > api.MaxMatrix {
		return api.ErrLarge
	}
	return api.OK
}

// isBest reports whether X and Y are possible, and C X = Y B = Value.
func isBest(p api.Program, o api.Optimum) bool {
	return staysBelow(p, o.X, p.B) && staysAbove(p, o.Y, p.C) &&
		Cmp(product(p.C, o.X), o.Value) == 0 && Cmp(product(o.Y, p.B), o.Value) == 0
}

// isImpossible reports whether Y >= 0, Y A >= 0 and Y B < 0.
func isImpossible(p api.Program, y []api.Rat) bool {
	return staysAbove(p, y, zeros(len(p.C))) && signOfRat(product(y, p.B)) < 0
}

// isUnbounded reports whether X is possible, and Ray >= 0, A Ray <= 0 and C Ray > 0.
func isUnbounded(p api.Program, o api.Optimum) bool {
	return staysBelow(p, o.X, p.B) && staysBelow(p, o.Ray, zeros(len(p.B))) && signOfRat(product(p.C, o.Ray)) > 0
}

// staysBelow reports whether x has as many elements as C, x >= 0 and A x <= limits.
func staysBelow(p api.Program, x, limits []api.Rat) bool {
	if len(x) != len(p.C) || hasNegative(x) {
		return false
	}
	v := vectorOf(x)
	for i, row := range p.A {
		if Cmp(dot(vectorOf(row), v), limits[i]) > 0 {
			return false
		}
	}
	return true
}

// staysAbove reports whether y has as many elements as B, y >= 0 and y A >= limits.
func staysAbove(p api.Program, y, limits []api.Rat) bool {
	if len(y) != len(p.B) || hasNegative(y) {
		return false
	}
	v := vectorOf(y)
	for j := range p.C {
		if Cmp(dot(vectorOf(column(p.A, j)), v), limits[j]) < 0 {
			return false
		}
	}
	return true
}

func hasNegative(l []api.Rat) bool {
	return slices.ContainsFunc(l, func(x api.Rat) bool { return signOfRat(x) < 0 })
}

// product returns the sum of the products of two lists of one length, not in normal form.
func product(l, k []api.Rat) api.Rat { return dot(vectorOf(l), vectorOf(k)) }
