package yard_test

import (
	"math/rand"
	"regexp"
	"strconv"
	"strings"
	"testing"

	"putlog/api"
	"putlog/yard"
)

// theStockText is the text of theStock.
const theStockText = "tube 0 0 15\nhalf 0 0 7\ntube 2 1 3\n"

// P8.8: texts, and what they are the texts of.
func TestTexts(t *testing.T) {
	for _, x := range []struct {
		l    []api.Stock
		text string
	}{
		{theStock(), theStockText},
		{nil, ""},
		{[]api.Stock{entry("a", 0, 0, 0), entry("a", 0, 0, 0)}, "a 0 0 0\na 0 0 0\n"}, // the entries as they are
		{[]api.Stock{entry("b", 1, 0, 1), entry("a", 0, 0, 1)}, "b 1 0 1\na 0 0 1\n"},
		{[]api.Stock{entry("Z-9", 99, 3, 1000000)}, "Z-9 99 3 1000000\n"},
		{[]api.Stock{entry("abcdefghijkl", 10, 2, 100)}, "abcdefghijkl 10 2 100\n"},
	} {
		s, e := yard.Print(x.l)
		want(t, "Print", s, e, x.text, api.OK)
		l, line, e := yard.Parse(x.text)
		want(t, "Parse", []any{l, line}, e, []any{x.l, 0}, api.OK)
	}
	inOrder(t, "Print", func(x input) api.Errno {
		s, e := yard.Print(x.stock)
		if e != api.OK {
			want(t, "Print", s, e, "", e)
		}
		return e
	}, stockFaults()...)
}

// P8.8: lines that are wrong, behind and before right ones.
func TestParseSyntax(t *testing.T) {
	for _, line := range []string{
		"", " ", "a", "a 0", "a 0 0", "a 0 0 ", "a 0  0", "a 0 0 0 ", "a 0 0 0 0", "a  0 0 0", " a 0 0 0", "0 0 0", "a 0 0  0", "a 0 0 0\r", "a\t0 0 0", "a 0 0\t0",
		"a x 0 0", "a 0 x 0", "a 0 0 x", "a b 0 0 0", "a  0 0", "   ", "    ", "a -1 0 0", "a 0 -1 0", "a 0 0 -1", "a -0 0 0", "a 0 -0 0", "a 0 0 -0", "a - 0 0",
		"a +1 0 0", "a 0 +1 0", "a 0 0 +1", "a 00 0 0", "a 0 01 0", "a 0 0 007", "a 12345678 0 0", "a 0 12345678 0", "a 0 0 12345678", "a 0 0 10000000",
		"a 0 0 99999999999999999999", "a 0 0 0x1", "a 0 0 1e1", "a 0 0 1_0", "a 0 0 0.0", "a 0 0 \u0661", "# a 0 0 0", "a 0,0 0",
	} {
		for _, x := range []struct {
			text  string
			wrong int
		}{
			{line + "\n", 1},
			{theStockText + line + "\n", 4},
			{line + "\n" + theStockText, 1},
			{theStockText + line + "\n" + line + "\n", 4},
			{"9 100 4 9999999\n" + line + "\n", 2},                // a wrong entry is told later
			{strings.Repeat("a 0 0 0\n", 201) + line + "\n", 202}, // and that they are too many
		} {
			l, wrong, e := yard.Parse(x.text)
			want(t, "Parse of "+strconv.Quote(x.text), []any{l, wrong}, e, []any{[]api.Stock{}, x.wrong}, api.ErrSyntax)
		}
	}
}

// P8.8: the last line without a line feed is wrong.
func TestParseOfCutTexts(t *testing.T) {
	for i := range len(theStockText) {
		text := theStockText[:i]
		lines := strings.Count(text, "\n")
		l, wrong, e := yard.Parse(text)
		if text != "" && text[i-1] != '\n' {
			want(t, "Parse of "+strconv.Quote(text), []any{l, wrong}, e, []any{[]api.Stock{}, lines + 1}, api.ErrSyntax)
		} else {
			want(t, "Parse of "+strconv.Quote(text), []any{l, wrong}, e, []any{theStock()[:lines], 0}, api.OK)
		}
	}
}

// P8.8: the other errors; there is no line beside them.
func TestParseErrors(t *testing.T) {
	for _, x := range []struct {
		text string
		is   api.Errno
	}{
		{strings.Repeat("\n", 60001), api.ErrLarge},
		{strings.Repeat("a 0 0 0\n", 7500) + "\n", api.ErrLarge},
		{strings.Repeat("a 0 0 0\n", 7500), api.ErrLarge}, // 60000 bytes with 7500 entries
		{strings.Repeat("a 0 0 0\n", 201), api.ErrLarge},
		{strings.Repeat("a", 59993) + " 0 0 0\n", api.ErrName}, // 60000 bytes
		{" 0 0 0\n", api.ErrName},
		{"9 0 0 0\n", api.ErrName},
		{"a\x00 0 0 0\n", api.ErrName},
		{"a\r 0 0 0\n", api.ErrName},
		{"\xff 0 0 0\n", api.ErrName},
		{"abcdefghijklm 0 0 0\n", api.ErrName},
		{"a 100 0 0\n 0 0 0\n", api.ErrRange},
		{"a 9999999 0 0\n", api.ErrRange},
		{"a 0 4 0\n", api.ErrRange},
		{"a 0 9999999 0\n", api.ErrRange},
		{"a 0 0 1000001\n", api.ErrRange},
		{"a 0 0 9999999\n", api.ErrRange},
		{" 0 0 9999999\n", api.ErrName},
	} {
		l, wrong, e := yard.Parse(x.text)
		want(t, "Parse of "+strconv.Quote(x.text[:min(len(x.text), 40)]), []any{l, wrong}, e, []any{[]api.Stock{}, 0}, x.is)
	}
	l, wrong, e := yard.Parse(strings.Repeat("a", 59994) + " 0 0 0\n")
	want(t, "Parse of 60001 bytes", []any{l, wrong}, e, []any{[]api.Stock{}, 0}, api.ErrLarge)
}

// scratched is a text with a few other bytes.
func scratched(d *rand.Rand, s string) string {
	for range d.Intn(4) {
		i := d.Intn(len(s) + 1)
		s = s[:i] + "  \n\n01279-ab\xff"[d.Intn(13):][:1] + s[min(i+d.Intn(2), len(s)):]
	}
	return s
}

// P8.8: texts compared with an expression for a line.
func TestParseByExpression(t *testing.T) {
	d := dice()
	right := regexp.MustCompile(`^[^ \n]*( (0|[1-9][0-9]{0,6})){3}$`)
	wrongs, accepted := 0, 0
	for range 20000 {
		text, e := yard.Print(someStock(d, 5))
		wantError(t, "Print", e, api.OK)
		text = scratched(d, text)
		wrong := 0
		lines := strings.Split(text, "\n")
		for i, line := range lines {
			isEnd := i == len(lines)-1
			if wrong == 0 && (isEnd && line != "" || !isEnd && !right.MatchString(line)) {
				wrong = i + 1
			}
		}
		l, at, e := yard.Parse(text)
		if (e == api.ErrSyntax) != (wrong > 0) || at != wrong {
			t.Errorf("Parse of %q: line %d, error %d; the line %d is wrong", text, at, e, wrong)
		}
		if wrong > 0 {
			wrongs++
		}
		if e == api.OK {
			accepted++
			again, e := yard.Print(l)
			want(t, "Print of Parse", again, e, text, api.OK)
		}
	}
	if wrongs < 2000 || accepted < 2000 {
		t.Errorf("%d texts are wrong, %d are accepted", wrongs, accepted)
	}
}

// P8.8: Parse reads what Print wrote.
func TestParseOfPrint(t *testing.T) {
	d := dice()
	for i := range 1000 {
		l := someStock(d, 40)
		if i == 0 {
			l = manyEntries(200)
		}
		s, e := yard.Print(l)
		wantError(t, "Print", e, api.OK)
		got, line, e := yard.Parse(s)
		want(t, "Parse of Print", []any{got, line}, e, []any{l, 0}, api.OK)
	}
}
