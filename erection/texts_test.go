package erection_test

import (
	"math/rand"
	"regexp"
	"strconv"
	"strings"
	"testing"

	"putlog/api"
	"putlog/erection"
)

// thePlanText is the text of thePlan.
const thePlanText = "base scaffolder 0 0 3\npost scaffolder 1 0 10 0\nrail scaffolder 2 1 5 0\ndeck scaffolder 3 0 6 1 2\n"

// P7.9: texts, and what they are the texts of.
func TestTexts(t *testing.T) {
	for _, x := range []struct {
		l    []api.Task
		text string
	}{
		{thePlan(), thePlanText},
		{nil, ""},
		{[]api.Task{task("a", 0, 0)}, "a scaffolder -1 0 0\n"},
		{[]api.Task{{Name: "a-9", Trade: "B", Member: 3999, Place: 999, Minutes: 10000}}, "a-9 B 3999 999 10000\n"},
		{[]api.Task{task("a", 0, 0, 1), task("b", 0, 0)}, "a scaffolder -1 0 0 1\nb scaffolder -1 0 0\n"},
	} {
		s, e := erection.Print(x.l)
		want(t, "Print", s, e, x.text, api.OK)
		l, line, e := erection.Parse(x.text)
		want(t, "Parse", []any{l, line}, e, []any{x.l, 0}, api.OK)
	}
	inOrder(t, "Print", func(x input) api.Errno {
		s, e := erection.Print(x.tasks)
		if e != api.OK {
			want(t, "Print", s, e, "", e)
		}
		return e
	}, planFault())
}

// P7.9: lines that are wrong, behind and before right ones.
func TestParseSyntax(t *testing.T) {
	for _, line := range []string{
		"", " ", "a", "a b", "a b 0", "a b 0 0", "a b 0 0 ", "a b  0 0", "a b 0 0 0 ", "a b 0 0 0  1", "a b 0 0  0", "a  b 0 0 0", " a b 0 0 0",
		"a b 0 0 0\r", "a b\t0 0 0", "a b 0 0 0\t", "a b 0 0 0 \t1", "a b x 0 0", "a b 0 x 0", "a b 0 0 x", "a b 0 0 0 x", "a b 0 0 0 1 x",
		"a b +1 0 0", "a b 0 +1 0", "a b -0 0 0", "a b 0 -0 0", "a b -2 0 0", "a b -10 0 0", "a b -01 0 0", "a b 0 -1 0", "a b 0 0 -1", "a b 0 0 0 -1",
		"a b 00 0 0", "a b 0 01 0", "a b 0 0 007", "a b 0 0 0 00", "a b 12345678 0 0", "a b 0 12345678 0", "a b 0 0 12345678", "a b 0 0 0 12345678",
		"a b 99999999999999999999 0 0", "a b 0 0 0 99999999999999999999", "a b 0x1 0 0", "a b 1e1 0 0", "a b 1_0 0 0", "a b 0 0.0 0", "a b 0 0 - 1",
		"a b 0 0 \u0661", "# a b 0 0 0", "a b -1 0 -1", "a b - 0 0",
	} {
		for _, x := range []struct {
			text  string
			wrong int
		}{
			{line + "\n", 1},
			{thePlanText + line + "\n", 5},
			{line + "\n" + thePlanText, 1},
			{thePlanText + line + "\n" + line + "\n", 5},
			{"1 2 0 0 0\n" + line + "\n", 2}, // a wrong name is told later
		} {
			l, wrong, e := erection.Parse(x.text)
			want(t, "Parse of "+strconv.Quote(x.text), []any{l, wrong}, e, []any{[]api.Task{}, x.wrong}, api.ErrSyntax)
		}
	}
}

// P7.9: the last line without a line feed is wrong.
func TestParseOfCutTexts(t *testing.T) {
	for i := range len(thePlanText) {
		text := thePlanText[:i]
		lines := strings.Count(text, "\n")
		l, wrong, e := erection.Parse(text)
		if text != "" && text[i-1] != '\n' {
			want(t, "Parse of "+strconv.Quote(text), []any{l, wrong}, e, []any{[]api.Task{}, lines + 1}, api.ErrSyntax)
		} else {
			want(t, "Parse of "+strconv.Quote(text), []any{l, wrong}, e, []any{thePlan()[:lines], 0}, api.OK)
		}
	}
}

// P7.9: the other errors; there is no line beside them.
func TestParseErrors(t *testing.T) {
	long := strings.Repeat("a b 0 0 0\n", 6000)
	for _, x := range []struct {
		text string
		is   api.Errno
	}{
		{strings.Repeat("\n", 60001), api.ErrLarge},
		{long + "\n", api.ErrLarge},
		{long, api.ErrLarge},                                           // 6000 tasks
		{strings.Repeat("a b 0 0 0\n", 4000), api.ErrExists},           // 4000 tasks
		{"a" + strings.Repeat("b", 59990) + " b 0 0 0\n", api.ErrName}, // 60000 bytes
		{" b 0 0 0\n", api.ErrName},
		{"a  0 0 0\n", api.ErrName},
		{"  0 0 0\n", api.ErrName},
		{"a\x00 b 0 0 0\n", api.ErrName},
		{"a b\r 0 0 0\n", api.ErrName},
		{"\xff b 0 0 0\n", api.ErrName},
		{"a b 0 0 0\nA b 0 0 0\na b 0 0 0\n", api.ErrExists},
		{"a b 4000 0 0\n", api.ErrRange},
		{"a b 9999999 0 0\n", api.ErrRange},
		{"a b -1 1000 0\n", api.ErrRange},
		{"a b -1 0 10001\n", api.ErrRange},
		{"a b 0 0 0 9999999\n", api.ErrMissing},
		{"a b 0 0 0 1\n", api.ErrMissing},
		{"a b 0 0 0 1 1\nc b 0 0 0\n", api.ErrOrder},
		{"a b 0 0 0 0\n", api.ErrCycle},
	} {
		l, wrong, e := erection.Parse(x.text)
		want(t, "Parse of "+strconv.Quote(x.text[:min(len(x.text), 40)]), []any{l, wrong}, e, []any{[]api.Task{}, 0}, x.is)
	}
}

// scratched is a text with a few other bytes.
func scratched(d *rand.Rand, s string) string {
	for range d.Intn(4) {
		i := d.Intn(len(s) + 1)
		s = s[:i] + "  \n\n01279-ab\xff"[d.Intn(11):][:1] + s[min(i+d.Intn(2), len(s)):]
	}
	return s
}

// P7.9: texts compared with an expression for a line.
func TestParseByExpression(t *testing.T) {
	d := dice()
	right := regexp.MustCompile(`^[^ \n]* [^ \n]* (-1|0|[1-9][0-9]{0,6})( (0|[1-9][0-9]{0,6})){2,}$`)
	wrongs, accepted := 0, 0
	for range 20000 {
		text, e := erection.Print(somePlan(d, 5))
		wantError(t, "Print", e, api.OK)
		text = scratched(d, text)
		wrong := 0
		lines := strings.Split(text, "\n")
		for i, line := range lines {
			isEnd := i == len(lines)-1
			if wrong == 0 && (isEnd && line != "" || !isEnd && !right.MatchString(line)) {
				wrong = i + 1
			}
		}
		l, at, e := erection.Parse(text)
		if (e == api.ErrSyntax) != (wrong > 0) || at != wrong {
			t.Errorf("Parse of %q: line %d, error %d; the line %d is wrong", text, at, e, wrong)
		}
		if wrong > 0 {
			wrongs++
		}
		if e == api.OK {
			accepted++
			again, e := erection.Print(l)
			want(t, "Print of Parse", again, e, text, api.OK)
		}
	}
	if wrongs < 2000 || accepted < 2000 {
		t.Errorf("%d texts are wrong, %d are accepted", wrongs, accepted)
	}
}

// P7.9, P7.11: Parse reads what Print wrote, if it is not too long. Print has no limit.
func TestParseOfPrint(t *testing.T) {
	d := dice()
	for range 1000 {
		l := somePlan(d, 20)
		s, e := erection.Print(l)
		wantError(t, "Print", e, api.OK)
		got, line, e := erection.Parse(s)
		want(t, "Parse of Print", []any{got, line}, e, []any{l, 0}, api.OK)
	}
	l := []api.Task{}
	for i := range 4000 {
		l = append(l, api.Task{Name: "t" + strconv.Itoa(i), Trade: "b", Member: -1})
	}
	s, e := erection.Print(l)
	wantError(t, "Print of 4000 tasks", e, api.OK)
	got, line, e := erection.Parse(s)
	want(t, "Parse of 4000 tasks", []any{got, line}, e, []any{l, 0}, api.OK)
	s, e = erection.Print(chained(1000))
	wantError(t, "Print of many needs", e, api.OK)
	if len(s) < 1000000 || strings.Count(s, "\n") != 1000 || !strings.HasSuffix(s, " 998\n") {
		t.Errorf("Print of many needs has %d bytes", len(s))
	}
	got, line, e = erection.Parse(s)
	want(t, "Parse of a long text", []any{got, line}, e, []any{[]api.Task{}, 0}, api.ErrLarge)
}
