package office_test

import (
	"maps"
	"math/big"
	"math/rand"
	"regexp"
	"slices"
	"strconv"
	"strings"
	"testing"

	"putlog/api"
	"putlog/exact"
	"putlog/office"
)

// meaning is what a text is as a formula: whether it is one, its names, and its value, nil if it divides by 0.
type meaning struct {
	is    bool
	names map[string]bool
	value *big.Rat
}

// sumOf, productOf and factorOf are the meaning of a text by the grammar: it is cut at every sign.
func sumOf(s string, of map[string]*big.Rat) meaning {
	return cutOf(s, "+-", of, sumOf, productOf)
}

func productOf(s string, of map[string]*big.Rat) meaning {
	return cutOf(s, "*/", of, productOf, factorOf)
}

func cutOf(s, signs string, of map[string]*big.Rat, left, right func(string, map[string]*big.Rat) meaning) meaning {
	for i := range len(s) {
		if !strings.Contains(signs, s[i:i+1]) {
			continue
		}
		a := left(s[:i], of)
		if !a.is {
			continue
		}
		if b := right(s[i+1:], of); b.is {
			return joinedOf(s[i], a, b)
		}
	}
	return right(s, of)
}

// joinedOf is the meaning of two texts with a sign between them.
func joinedOf(sign byte, a, b meaning) meaning {
	m := meaning{true, maps.Clone(a.names), new(big.Rat)}
	maps.Copy(m.names, b.names)
	switch {
	case a.value == nil || b.value == nil || sign == '/' && b.value.Sign() == 0:
		m.value = nil
	case sign == '+':
		m.value.Add(a.value, b.value)
	case sign == '-':
		m.value.Sub(a.value, b.value)
	case sign == '*':
		m.value.Mul(a.value, b.value)
	default:
		m.value.Quo(a.value, b.value)
	}
	return m
}

var (
	numberForm = regexp.MustCompile(`\A(0|[1-9][0-9]{0,8})\z`)
	nameForm   = regexp.MustCompile(`\A[A-Za-z][A-Za-z0-9]{0,11}\z`)
)

func factorOf(s string, of map[string]*big.Rat) meaning {
	s = strings.Trim(s, " ")
	switch {
	case numberForm.MatchString(s):
		n, _ := strconv.Atoi(s)
		return meaning{true, map[string]bool{}, big.NewRat(int64(n), 1)}
	case nameForm.MatchString(s):
		return meaning{true, map[string]bool{s: true}, of[s]}
	case strings.HasPrefix(s, "-"):
		m := factorOf(s[1:], of)
		if m.is && m.value != nil {
			m.value = new(big.Rat).Neg(m.value)
		}
		return m
	case strings.HasPrefix(s, "(") && strings.HasSuffix(s, ")"):
		return sumOf(s[1:len(s)-1], of)
	}
	return meaning{}
}

// ratOf is a fraction in normal form.
func ratOf(x *big.Rat) api.Rat {
	return api.Rat{Num: intOf(x.Num()), Den: intOf(x.Denom())}
}

func intOf(x *big.Int) api.Int {
	out := api.Int{Neg: x.Sign() < 0}
	rest, word := new(big.Int).Abs(x), new(big.Int).Lsh(big.NewInt(1), 32)
	for rest.Sign() > 0 {
		limb := new(big.Int)
		rest.QuoRem(rest, word, limb)
		out.Limbs = append(out.Limbs, uint32(limb.Uint64()))
	}
	return out
}

// theFigures is figures, some of which a formula does not reach, in forms that are not normal.
func theFigures() []api.Figure {
	return []api.Figure{
		{Name: "entries", Value: exact.Whole(4)},
		{Name: "a", Value: api.Rat{Num: api.Int{Neg: true, Limbs: []uint32{6, 0}}, Den: api.Int{Neg: true, Limbs: []uint32{4, 0, 0}}}}, // 3/2
		{Name: "a", Value: exact.Whole(9)},
		{Name: "b2", Value: api.Rat{Num: api.Int{Limbs: []uint32{7}}}}, // 7, without a denominator
		{Name: "zero", Value: api.Rat{Num: api.Int{Neg: true, Limbs: []uint32{0}}, Den: api.Int{Neg: true, Limbs: []uint32{5}}}},
		{Name: "nothing", Value: api.Rat{}},
		{Name: "", Value: exact.Whole(1)},
		{Name: "a b", Value: exact.Whole(1)},
		{Name: "c-d", Value: exact.Whole(1)},
		{Name: "1", Value: exact.Whole(77)},
		{Name: "abcdefghijkl", Value: exact.Whole(-12)},
	}
}

// figureValues is their values; of those with one name that of the first one.
func figureValues() map[string]*big.Rat {
	return map[string]*big.Rat{
		"entries": big.NewRat(4, 1), "a": big.NewRat(3, 2), "b2": big.NewRat(7, 1), "zero": new(big.Rat), "nothing": new(big.Rat), "abcdefghijkl": big.NewRat(-12, 1),
	}
}

// P10.3: values.
func TestEvaluate(t *testing.T) {
	for s, right := range map[string]string{
		"2 * (entries + 1) / 4": "5/2", // the chapter's
		"0":                     "0", "7": "7", "999999999": "999999999", "-7": "-7", "-0": "0", "--7": "7", "- - -7": "-7", "(7)": "7", "((((7))))": "7", "-(7)": "-7", "(-7)": "-7",
		"1+2*3": "7", "(1+2)*3": "9", "1-2-3": "-4", "1-(2-3)": "2", "12/3/2": "2", "12/(3/2)": "8", "12/3*2": "8", "2*3+4*5": "26", "1+2/3-4": "-7/3",
		"-2*3": "-6", "2*-3": "-6", "2--3": "5", "2- -3": "5", "2+-3": "-1", "2/-4": "-1/2", "-2-2": "-4", "-(2-5)*-2": "-6", "1/3+1/3+1/3": "1",
		"a": "3/2", "-a": "-3/2", "a*a": "9/4", "b2": "7", "zero": "0", "nothing": "0", "zero/b2": "0", "abcdefghijkl": "-12", "entries-entries": "0",
		"999999999*999999999*999999999": "999999997000000002999999999", " 1 ": "1", "   (  1 + a )": "5/2", "1 +1": "2",
	} {
		x, e := office.Evaluate(s, theFigures())
		y, _ := exact.Parse(right)
		want(t, "Evaluate of "+s, x, e, y, api.OK)
	}
}

// noFormulas is texts that are no formulas.
func noFormulas() []string {
	return []string{
		"", " ", "+", "-", "*", "/", "(", ")", "()", "( )", "(1)x1", "(1)x(1)", "(1 x", "((1) x", "(1]", "+1", "1+", "1-", "*1", "1*", "/1", "1/", "1++1", "1**1", "1*/1", "1//1", "1 1", "a b", "1a", "1 a", "a 1 ", "2(3)", "(2)(3)", "(2)3", "(1", "1)", "((1)", "(1))", "-()", "1-*2",
		"01", "00", "-01", "1234567890", "1.5", "1,5", "abcdefghijklm", "a-b-", "a_b", "a.b", "a\t", "\t1", "1\n", "\n", "1\x00", "\x00", "1\x002", "é", "1×2", "a'", "1=1", "[1]", "1%2", "1^2", "\xff", "1 \xff",
	}
}

// P10.3: errors.
func TestFormulaErrors(t *testing.T) {
	for _, s := range noFormulas() {
		l, e := office.Uses(s)
		want(t, "Uses of "+strconv.Quote(s), l, e, []string(nil), api.ErrSyntax)
		x, e := office.Evaluate(s, theFigures())
		want(t, "Evaluate of "+strconv.Quote(s), x, e, api.Rat{}, api.ErrSyntax)
	}
	for s, is := range map[string]api.Errno{
		"c": api.ErrMissing, "A": api.ErrMissing, "a1": api.ErrMissing, "ab": api.ErrMissing, "a + c": api.ErrMissing, "c - d": api.ErrMissing, "0*c": api.ErrMissing,
		"1/0": api.ErrZero, "1/zero": api.ErrZero, "1/nothing": api.ErrZero, "0/0": api.ErrZero, "1/(a-a)": api.ErrZero, "1/-0": api.ErrZero, "0*(1/0)": api.ErrZero, "-(1/0)": api.ErrZero, "(1/0)+1": api.ErrZero, "1+1/0": api.ErrZero, "1/0/0": api.ErrZero,
		"1/0+c": api.ErrMissing, "c+1/0": api.ErrMissing, "1/0/c": api.ErrMissing,
	} {
		x, e := office.Evaluate(s, theFigures())
		want(t, "Evaluate of "+s, x, e, api.Rat{}, is)
	}
	x, e := office.Evaluate("a", nil)
	want(t, "Evaluate without figures", x, e, api.Rat{}, api.ErrMissing)
	x, e = office.Evaluate("2", nil)
	want(t, "Evaluate without figures", x, e, exact.Whole(2), api.OK)
}

// P10.3: the size of a formula.
func TestFormulaSizes(t *testing.T) {
	for _, s := range []string{strings.Repeat("-", 499) + "1", strings.Repeat("1+", 249) + " 1", strings.Repeat("(", 249) + " 1" + strings.Repeat(")", 249), strings.Repeat(" ", 499) + "1", strings.Repeat("a*", 249) + " a"} {
		l, e := office.Uses(s)
		wantError(t, "Uses of 500 bytes", e, api.OK)
		_, e = office.Evaluate(s, theFigures())
		wantError(t, "Evaluate of 500 bytes", e, api.OK)
		for _, s := range []string{s + " ", " " + s, s + "+1/0", s + ")", strings.Repeat(s, 100)} {
			l, e = office.Uses(s)
			want(t, "Uses of more bytes", l, e, []string(nil), api.ErrLarge)
			x, e := office.Evaluate(s, nil)
			want(t, "Evaluate of more bytes", x, e, api.Rat{}, api.ErrLarge)
		}
	}
	_, e := office.Uses(strings.Repeat("(", 500))
	wantError(t, "Uses of 500 wrong bytes", e, api.ErrSyntax)
	_, e = office.Uses(strings.Repeat("(", 501))
	wantError(t, "Uses of 501 wrong bytes", e, api.ErrLarge)
}

// P10.3: names.
func TestUses(t *testing.T) {
	for s, right := range map[string][]string{
		"2 * (entries + 1) / 4": {"entries"}, // the chapter's
		"1":                     nil, "-a": {"a"}, "b+a": {"a", "b"}, "a+a*a": {"a"}, "b/(c-B)*-a1 + b": {"B", "a1", "b", "c"}, "ab-a-b": {"a", "ab", "b"}, "a/0": {"a"},
	} {
		l, e := office.Uses(s)
		want(t, "Uses of "+s, l, e, right, api.OK)
	}
}

// P10.3: all short texts of some bytes.
func TestShortFormulas(t *testing.T) {
	bytes := "a01+-*/() "
	texts := []string{""}
	for from := 0; len(texts[from]) < 4; from++ {
		for i := range len(bytes) {
			texts = append(texts, texts[from]+bytes[i:i+1])
		}
	}
	formulas := 0
	for _, s := range texts {
		if wantFormula(t, s) {
			formulas++
		}
	}
	if formulas < 500 {
		t.Errorf("only %d texts are formulas", formulas)
	}
}

// wantFormula compares what is said of a text with its meaning, and tells whether it is a formula.
func wantFormula(t *testing.T, s string) bool {
	t.Helper()
	m := sumOf(s, figureValues())
	l, e := office.Uses(s)
	x, f := office.Evaluate(s, theFigures())
	if !m.is {
		want(t, "Uses of "+strconv.Quote(s), l, e, []string(nil), api.ErrSyntax)
		want(t, "Evaluate of "+strconv.Quote(s), x, f, api.Rat{}, api.ErrSyntax)
		return false
	}
	want(t, "Uses of "+s, l, e, slices.Sorted(maps.Keys(m.names)), api.OK)
	for name := range m.names {
		if figureValues()[name] == nil {
			want(t, "Evaluate of "+s, x, f, api.Rat{}, api.ErrMissing)
			return true
		}
	}
	if m.value == nil {
		want(t, "Evaluate of "+s, x, f, api.Rat{}, api.ErrZero)
		return true
	}
	want(t, "Evaluate of "+s, x, f, ratOf(m.value), api.OK)
	return true
}

// someFormula is a formula of chances.
func someFormula(d *rand.Rand, depth int) string {
	blank := strings.Repeat(" ", max(0, d.Intn(5)-3))
	if depth == 0 {
		return blank + []string{"0", "1", "2", "17", "999999999", "a", "b2", "zero", "entries", "c"}[d.Intn(10-d.Intn(2))] + blank
	}
	switch d.Intn(5) {
	case 0:
		return blank + "-" + someFactor(d, depth-1)
	case 1:
		return "(" + someFormula(d, depth-1) + ")" + blank
	}
	return someFormula(d, depth-1) + string("+-*/"[d.Intn(4)]) + someFactor(d, depth-1) + blank
}

// someFactor is a factor of chances.
func someFactor(d *rand.Rand, depth int) string {
	if depth == 0 {
		return someFormula(d, 0)
	}
	return "(" + someFormula(d, depth) + ")"
}

// P10.3 and P10.9: formulas of chances, whole and with faults, and with other blanks.
func TestFormulasByTheChapter(t *testing.T) {
	d := dice()
	for range 1500 {
		s := someFormula(d, d.Intn(4))
		if len(s) > 40 {
			continue
		}
		if !wantFormula(t, s) {
			t.Errorf("%q is no formula", s)
		}
		x, e := office.Evaluate(s, theFigures())
		y, f := office.Evaluate(strings.ReplaceAll(s, " ", ""), theFigures())
		want(t, "the value without blanks", y, f, x, e)
		wide := regexp.MustCompile(`[-+*/()]`).ReplaceAllString(s, "  $0 ")
		y, f = office.Evaluate(wide, theFigures())
		want(t, "the value with blanks", y, f, x, e)
		wantFormula(t, spoiled(d, s, "0a+-*/() \x00"))
	}
}
