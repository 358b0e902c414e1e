package holding_test

import (
	"strings"
	"testing"

	"putlog/api"
	"putlog/holding"
)

// P6.8: texts; the first one is the chapter's example. Ties may be in any order, and twice.
func TestTexts(t *testing.T) {
	for _, x := range []struct {
		l    []api.Tie
		text string
	}{
		{ties(0, 1, 2, 10), "0.1 2.10"},
		{nil, ""},
		{ties(0, 0), "0.0"},
		{ties(99, 99), "99.99"},
		{ties(9, 10, 5, 0, 5, 0), "9.10 5.0 5.0"},
		{make([]api.Tie, 1800), strings.Repeat("0.0 ", 1799) + "0.0"},
	} {
		s, e := holding.Print(x.l)
		want(t, "Print", s, e, x.text, api.OK)
		l, e := holding.Parse(x.text)
		want(t, "Parse", l, e, x.l, api.OK)
	}
}

// P6.8: the errors of Print.
func TestPrintErrors(t *testing.T) {
	for _, l := range [][]api.Tie{ties(-1, 0), ties(0, -1), ties(100, 0), ties(0, 100), ties(0, 0, 100, 0), ties(0, 0, 0, 100, 0, 0)} {
		s, e := holding.Print(l)
		want(t, "Print", s, e, "", api.ErrRange)
	}
	s, e := holding.Print(make([]api.Tie, 1801))
	want(t, "Print of 1801 ties", s, e, "", api.ErrLarge)
	s, e = holding.Print(append(make([]api.Tie, 1800), ties(100, 0)...))
	want(t, "Print of 1801 ties, one of them wrong", s, e, "", api.ErrLarge)
}

// P6.8: the errors of Parse.
func TestParseErrors(t *testing.T) {
	for _, s := range []string{
		" ", "0", ".", "0.", ".0", "0.0 ", " 0.0", "0.0  0.0", "0.0.0", "0.0.", "00.0", "0.00", "01.0", "0.01", "100.0", "0.100",
		"-1.0", "0.-1", "-0.0", "0.-0", "+1.0", "0.+1", "0,0", "a.0", "0.a", "1_0.0", "0x1.0", "1e1.0", "0.0\n", "0.0\t0.0", "0.0\x00",
		"0 0", "0.0 0", "0.0 0.", "99999999999999999999.0", "0.99999999999999999999", "\u0661.0", "0.1 2.10 x", "१.१",
		strings.Repeat("0.0 ", 1800) + "0.0", strings.Repeat("0.0 ", 1799) + "0.0 ", strings.Repeat(" ", 60000),
	} {
		l, e := holding.Parse(s)
		want(t, "Parse of "+s[:min(len(s), 30)], l, e, ties(), api.ErrSyntax)
	}
	l, e := holding.Parse(strings.Repeat("0", 60001))
	want(t, "Parse of 60001 bytes", l, e, ties(), api.ErrLarge)
}

// P6.8, P6.11: each text of at most four bytes of ties, and each number.
func TestParseByPrinting(t *testing.T) {
	texts := map[string]bool{}
	for i := range 100 {
		for k := range 100 {
			l := ties(i, k)
			s, e := holding.Print(l)
			wantError(t, "Print", e, api.OK)
			got, e := holding.Parse(s)
			want(t, "Parse of "+s, got, e, l, api.OK)
			texts[s] = true
		}
	}
	letters := "0192. -"
	var try func(s string)
	try = func(s string) {
		_, e := holding.Parse(s)
		if is := s == "" || texts[s]; is != (e == api.OK) {
			t.Errorf("Parse of %q: error %d", s, e)
		}
		for i := range letters {
			if len(s) < 4 {
				try(s + letters[i:i+1])
			}
		}
	}
	try("")
}

// P6.11: Parse reads what Print wrote.
func TestParseOfPrint(t *testing.T) {
	d := dice()
	for range 500 {
		l := []api.Tie{}
		for range d.Intn(20) {
			l = append(l, api.Tie{Standard: d.Intn(100), Level: d.Intn(100)})
		}
		s, e := holding.Print(l)
		wantError(t, "Print", e, api.OK)
		got, e := holding.Parse(s)
		want(t, "Parse", got, e, l, api.OK)
	}
}
