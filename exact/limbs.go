package exact

import (
	"cmp"
	"math/bits"
	"slices"
)

// A natural number is a slice of limbs, the lowest first, with no zero at the end. The functions of this
// file expect that, do not write into their arguments, and return new memory, unless they say otherwise.

// trim returns the limbs without the zeros at their end, in the same memory.
func trim(l []uint32) []uint32 {
	n := len(l)
	for n > 0 && l[n-1] == 0 {
		n--
	}
	return l[:n]
}

func compareLimbs(a, b []uint32) int {
	if len(a) != len(b) {
		return cmp.Compare(len(a), len(b))
	}
	for i := len(a) - 1; i >= 0; i-- {
		if a[i] != b[i] {
			return cmp.Compare(a[i], b[i])
		}
	}
	return 0
}

func addLimbs(a, b []uint32) []uint32 {
	if len(a) < len(b) {
		a, b = b, a
	}
	out := make([]uint32, len(a)+1)
	carry := uint32(0)
	for i, x := range b {
		out[i], carry = bits.Add32(a[i], x, carry)
	}
	for i := len(b); i < len(a); i++ {
		out[i], carry = bits.Add32(a[i], 0, carry)
	}
	out[len(a)] = carry
	return trim(out)
}

// subtractLimbs returns a - b; a must not be less than b.
func subtractLimbs(a, b []uint32) []uint32 {
	out := make([]uint32, len(a))
	borrow := uint32(0)
	for i, x := range b {
		out[i], borrow = bits.Sub32(a[i], x, borrow)
	}
	for i := len(b); i < len(a); i++ {
		out[i], borrow = bits.Sub32(a[i], 0, borrow)
	}
	return trim(out)
}

func multiplyLimbs(a, b []uint32) []uint32 {
	if len(a) == 0 || len(b) == 0 {
		return nil
	}
	out := make([]uint32, len(a)+len(b))
	for i, x := range a {
		out[i+len(b)] = addTimes(out[i:i+len(b)], b, x)
	}
	return trim(out)
}

// addTimes adds x times b to the limbs at l, which are as many, and returns the carry.
func addTimes(l, b []uint32, x uint32) uint32 {
	carry := uint64(0)
	for i, y := range b {
		t := uint64(x)*uint64(y) + uint64(l[i]) + carry
		l[i] = uint32(t)
		carry = t >> 32
	}
	return uint32(carry)
}

// divideLimbs returns the quotient and the remainder of a by b, which is not 0.
func divideLimbs(a, b []uint32) (q, r []uint32) {
	var d division
	d.divide(a, b)
	return d.quotient, d.rest
}

// A division keeps its memory, so that one that follows can use it again.
type division struct{ quotient, rest, by []uint32 }

// divide leaves the quotient and the remainder of a by b, which is not 0, in d.
func (d *division) divide(a, b []uint32) {
	if compareLimbs(a, b) < 0 {
		d.quotient = d.quotient[:0]
		d.rest = append(d.rest[:0], a...)
		return
	}
	if len(b) == 1 {
		d.divideByLimb(a, b[0])
		return
	}
	// A guessed digit is at most 2 too large if the first bit of the divisor is set.
	shift := bits.LeadingZeros32(b[len(b)-1])
	d.by = shifted(d.by, b, len(b), shift)
	d.rest = shifted(d.rest, a, len(a)+1, shift)
	d.quotient = sized(d.quotient, len(a)-len(b)+1)
	for i := len(a) - len(b); i >= 0; i-- {
		d.quotient[i] = takeOff(d.rest[i:i+len(b)+1], d.by)
	}
	d.quotient = trim(d.quotient)
	shiftBack(d.rest, shift)
	d.rest = trim(d.rest)
}

func (d *division) divideByLimb(a []uint32, b uint32) {
	d.quotient = sized(d.quotient, len(a))
	r := uint32(0)
	for i := len(a) - 1; i >= 0; i-- {
		d.quotient[i], r = bits.Div32(r, a[i], b)
	}
	d.quotient = trim(d.quotient)
	d.rest = trim(append(d.rest[:0], r))
}

// sized returns n limbs of any values, in the memory of l if that is large enough.
func sized(l []uint32, n int) []uint32 {
	if cap(l) < n {
		return make([]uint32, n)
	}
	return l[:n]
}

// shifted returns a times 2 to the power of shift (less than 32) in n limbs, in the memory of l if that is large enough.
func shifted(l, a []uint32, n, shift int) []uint32 {
	l = sized(l, n)
	copy(l, a)
	clear(l[len(a):])
	for i := n - 1; i > 0; i-- {
		l[i] = l[i]<<shift | l[i-1]>>(32-shift)
	}
	l[0] <<= shift
	return l
}

// shiftBack undoes shifted.
func shiftBack(l []uint32, shift int) {
	for i := range len(l) - 1 {
		l[i] = l[i]>>shift | l[i+1]<<(32-shift)
	}
	l[len(l)-1] >>= shift
}

// takeOff takes the greatest possible multiple of v off u, which has one limb more, and returns the factor, which is a limb.
func takeOff(u, v []uint32) uint32 {
	n := len(v)
	digit := guess(u[n-2:], v[n-2:])
	if subtractTimes(u, v, digit) {
		digit--
		addBack(u, v)
	}
	return digit
}

// guess returns the quotient of the three limbs u by the two limbs v, or the greatest limb if it is none.
func guess(u, v []uint32) uint32 {
	top := uint64(u[2])<<32 | uint64(u[1])
	digit := uint64(1<<32 - 1)
	if u[2] < v[1] {
		digit = top / uint64(v[1])
	}
	rest := top - digit*uint64(v[1])
	for rest < 1<<32 && digit*uint64(v[0]) > rest<<32|uint64(u[0]) {
		digit--
		rest += uint64(v[1])
	}
	return uint32(digit)
}

// subtractTimes takes x times v off u, which has one limb more, and reports whether u was less.
func subtractTimes(u, v []uint32, x uint32) bool {
	carry := uint64(0)
	for i, y := range v {
		t := uint64(x)*uint64(y) + carry
		carry = t >> 32
		if u[i] < uint32(t) {
			carry++
		}
		u[i] -= uint32(t)
	}
	last := uint64(u[len(v)])
	u[len(v)] -= uint32(carry)
	return last < carry
}

// addBack adds v to u, which has one limb more, and drops the carry.
func addBack(u, v []uint32) {
	carry := uint32(0)
	for i, y := range v {
		u[i], carry = bits.Add32(u[i], y, carry)
	}
	u[len(v)] += carry
}

// commonLimbs returns the greatest common divisor, which is 0 if both are.
func commonLimbs(a, b []uint32) []uint32 {
	a, b = slices.Clone(a), slices.Clone(b)
	var d division
	for len(b) > 0 {
		if len(a) <= 2 && len(b) <= 2 {
			return limbsOf(commonWord(word(a), word(b)))
		}
		d.divide(a, b)
		a, b = b, append(a[:0], d.rest...)
	}
	return a
}

func commonWord(a, b uint64) uint64 {
	for b > 0 {
		a, b = b, a%b
	}
	return a
}

// word returns the value of at most two limbs.
func word(l []uint32) uint64 {
	out := uint64(0)
	for i, x := range l {
		out |= uint64(x) << (32 * i)
	}
	return out
}

func limbsOf(n uint64) []uint32 { return trim([]uint32{uint32(n), uint32(n >> 32)}) }
