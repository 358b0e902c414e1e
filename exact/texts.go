package exact

import (
	"slices"
	"strings"

	"putlog/api"
)

// Format returns the text of x.
func Format(x api.Rat) string {
	x = Normal(x)
	text := decimal(x.Num.Limbs)
	if x.Num.Neg {
		text = "-" + text
	}
	if isOne(x.Den.Limbs) {
		return text
	}
	return text + "/" + decimal(x.Den.Limbs)
}

// Parse returns the fraction with the text s.
func Parse(s string) (api.Rat, api.Errno) {
	if len(s) > 2*api.MaxDigits {
		return api.Rat{}, api.ErrLarge
	}
	size, neg := strings.CutPrefix(s, "-")
	top, bottom, _ := strings.Cut(size, "/")
	x := Normal(api.Rat{Num: signed(neg, natural(top)), Den: signed(false, natural(bottom))})
	// A fraction has one text only: whatever else was read is none.
	if Format(x) != s {
		return api.Rat{}, api.ErrSyntax
	}
	return x, api.OK
}

// The digits of a group: as many as a limb holds whatever they are.
const (
	groupDigits = 9
	groupSize   = 1000000000
)

// decimal returns the digits of l.
func decimal(l []uint32) string {
	var out []byte
	var d division
	for len(l) > 0 {
		d.divideByLimb(l, groupSize)
		l = slices.Clone(d.quotient)
		group := word(d.rest)
		for range groupDigits {
			out = append(out, '0'+byte(group%10))
			group /= 10
		}
	}
	for len(out) > 0 && out[len(out)-1] == '0' {
		out = out[:len(out)-1]
	}
	if len(out) == 0 {
		return "0"
	}
	slices.Reverse(out)
	return string(out)
}

// natural returns the number with the digits s, or any number if s is not made of digits.
func natural(s string) []uint32 {
	var out []uint32
	for i := range len(s) {
		out = addLimbs(multiplyLimbs(out, []uint32{10}), limbsOf(uint64(s[i]-'0')))
	}
	return out
}
