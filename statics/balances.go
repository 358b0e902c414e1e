package statics

import (
	"putlog/api"
	"putlog/exact"
)

// pulls returns the numerators, over the denominator of x, of what the forces x of bars, or of all
// elements, do at each place: the matrix times x.
func pulls(f api.Frame, x vector) []api.Int {
	out := make([]api.Int, places(f))
	for j, b := range f.Bars {
		for k, d := range difference(f, b) {
			pull := exact.Prod(x.nums[j], exact.Of(d))
			out[3*b.A+k] = exact.Sum(out[3*b.A+k], pull)
			out[3*b.B+k] = exact.Diff(out[3*b.B+k], pull)
		}
	}
	for j, n := range x.nums[len(f.Bars):] {
		at := place(f.Supports[j])
		out[at] = exact.Sum(out[at], n)
	}
	return out
}

// remainders returns what is left at each place under forces and a load vector.
func remainders(f api.Frame, x, p vector) vector {
	out := vector{nums: pulls(f, x), den: exact.Prod(x.den, p.den)}
	for i, n := range out.nums {
		out.nums[i] = exact.Sum(exact.Prod(n, p.den), exact.Prod(p.nums[i], x.den))
	}
	return out
}

// isBalanced reports whether forces are as many as the elements, and in equilibrium with a load vector.
func isBalanced(f api.Frame, x []api.Rat, p vector) bool {
	return len(x) == elements(f) && areZero(remainders(f, vectorOf(x), p).nums)
}

// withSupports returns the forces of all elements, if those of the bars are in equilibrium with a load
// vector at the places without a support: the supports do what is left.
func withSupports(f api.Frame, bars, p vector) vector {
	left := remainders(f, bars, p)
	x := vector{den: left.den}
	for _, n := range bars.nums {
		x.nums = append(x.nums, exact.Prod(n, p.den))
	}
	for _, s := range f.Supports {
		x.nums = append(x.nums, negative(left.nums[place(s)]))
	}
	return x
}

// lengthening returns the numerator, over the denominator of u, of the lengthening of a bar by a motion.
func lengthening(f api.Frame, b api.Bar, u vector) api.Int {
	sum := api.Int{}
	for k, d := range difference(f, b) {
		sum = exact.Sum(sum, exact.Prod(exact.Of(d), exact.Diff(u.nums[3*b.B+k], u.nums[3*b.A+k])))
	}
	return sum
}
