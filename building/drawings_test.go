package building_test

import (
	"math/rand"
	"regexp"
	"strconv"
	"strings"
	"testing"

	"putlog/api"
	"putlog/building"
)

// hutText is the drawing of the hut.
const hutText = `building hut
storey 0 0,0 4000,0 4000,2000 2000,2000 2000,4000 0,4000
storey 3000 0,0 2000,0 2000,4000 0,4000
roof 6000
`

// P2.8: Print: the chapter's example, and one with openings and boxes.
func TestPrint(t *testing.T) {
	s, e := building.Print(theHut())
	want(t, "Print", s, e, hutText, api.OK)
	s, e = building.Print(fullHut())
	want(t, "Print", s, e, hutText+"opening 1 1 100 300 50 80\nopening 0 0 100 300 50 80\nbox -300 50 0 -100 90 500\nbox 4000 1 2 5000 4 3\n", api.OK)
}

// P2.8: Parse: texts that are drawings of the hut.
func TestParse(t *testing.T) {
	for _, s := range []string{
		hutText,
		strings.TrimSuffix(hutText, "\n"),
		strings.ReplaceAll(hutText, " ", " \t  "),
		strings.ReplaceAll(hutText, "\n", " \t\n\n \n"),
		"\n\n# a house\n" + strings.ReplaceAll(hutText, "\n", "# box 1\n") + "#",
		" \t" + strings.ReplaceAll(hutText, "\n", "\n\t ") + "#\xff\x00\r",
		strings.ReplaceAll(hutText, "building hut", "building hut#roof 7 # 8") + strings.Repeat(" ", 1000),
		hutText + strings.Repeat("\n", api.MaxText-len(hutText)),
	} {
		b, line, e := building.Parse(s)
		want(t, "Parse", b, e, theHut(), api.OK)
		want(t, "its line", line, e, 0, api.OK)
	}
	b, line, e := building.Parse(hutText + "opening 1 1 100 300 50 80\nopening 0 0 100 300 50 80\nbox -300 50 0 -100 90 500\nbox 4000 1 2 5000 4 3")
	want(t, "Parse", b, e, fullHut(), api.OK)
	want(t, "its line", line, e, 0, api.OK)
}

// P2.8: texts that are no drawings, and the numbers of their lines.
func TestParseErrors(t *testing.T) {
	const far = "1000001"
	for _, c := range []struct {
		s    string
		line int
		e    api.Errno
	}{
		{strings.Repeat("\n", api.MaxText), api.MaxText + 1, api.ErrSyntax},
		{strings.Repeat("\n", api.MaxText+1), 0, api.ErrLarge},
		{hutText + strings.Repeat("\n", api.MaxText-len(hutText)+1), 0, api.ErrLarge},
		{strings.Repeat("x", api.MaxText), 1, api.ErrSyntax},
		{"", 1, api.ErrSyntax},
		{"\n# x\n", 3, api.ErrSyntax},
		{"building a", 1, api.ErrSyntax},
		{"building a\n", 2, api.ErrSyntax},
		{"building a\nstorey 0", 2, api.ErrSyntax},
		{"building a\nstorey 0\n\n", 4, api.ErrSyntax},
		{"building a\nroof 9", 2, api.ErrSyntax},
		{"storey 0", 1, api.ErrSyntax},
		{"building a\nbuilding a\nstorey 0\nroof 1", 2, api.ErrSyntax},
		{"building a\nstorey 0\nbuilding a\nroof 1", 3, api.ErrSyntax},
		{"building a\nstorey 0\nroof 1\nroof 1", 4, api.ErrSyntax},
		{"building a\nstorey 0\nroof 1\nstorey 0", 4, api.ErrSyntax},
		{"building a\nstorey 0\nopening 0 0 0 1 0 1\nroof 1", 3, api.ErrSyntax},
		{"building a\nstorey 0\nroof 1\nbox 0 0 0 1 1 1\nopening 0 0 0 1 0 1", 5, api.ErrSyntax},
		{"\n\nBuilding a", 3, api.ErrSyntax},
		{"\r\nbuilding a", 1, api.ErrSyntax},
		{"building", 1, api.ErrSyntax},
		{"building a b", 1, api.ErrSyntax},
		{"building a\r\nstorey 0\r\nroof 1", 2, api.ErrSyntax},
		{"building a\nstorey", 2, api.ErrSyntax},
		{"building a\nstorey 0,0", 2, api.ErrSyntax},
		{"building a\nstorey 0 0, 0", 2, api.ErrSyntax},
		{"building a\nstorey 0 0 ,0", 2, api.ErrSyntax},
		{"building a\nstorey 0 0", 2, api.ErrSyntax},
		{"building a\nstorey 0 0,0,0", 2, api.ErrSyntax},
		{"building a\nstorey 0 ,", 2, api.ErrSyntax},
		{"building a\nstorey 0 0,-0", 2, api.ErrSyntax},
		{"building a\nstorey 0 0,0\v1,1", 2, api.ErrSyntax},
		{"building a\nstorey 0 0,0\u00a01,1", 2, api.ErrSyntax},
		{"building a\nstorey 0\nroof", 3, api.ErrSyntax},
		{"building a\nstorey 0\nroof 1 1", 3, api.ErrSyntax},
		{"building a\nstorey 0\nroof 1 1\nx", 3, api.ErrSyntax},
		{"building a\nstorey 0\nroof #1", 3, api.ErrSyntax},
		{"building a\nstorey 0\nroof 1\nopening 0 0 0 1 0", 4, api.ErrSyntax},
		{"building a\nstorey 0\nroof 1\nopening 0 0 0 1 0 1 1", 4, api.ErrSyntax},
		{"building a\nstorey 0\nroof 1\nbox 0 0 0 1 1", 4, api.ErrSyntax},
		{"building a\nstorey 0\nroof 1\nbox 0 0 0 1 1 1 1", 4, api.ErrSyntax},
		{"building a\nstorey 0\nroof 1\nbox 0 0 0 1 1 1,1", 4, api.ErrSyntax},
		{"building a\nstorey 0\nroof 1", 0, api.ErrShape},
		{"building 7\nstorey 0\nroof 1", 0, api.ErrName},
		{"building a,b\nstorey 0 1,1\nroof -1", 0, api.ErrName},
		{"building \xff\nstorey 0\nroof 1", 0, api.ErrName},
		{"building abcdefghijklm\nstorey 0\nroof 1", 0, api.ErrName},
		{strings.Replace(hutText, "0,0", far+",0", 1), 0, api.ErrRange},
		{strings.Replace(hutText, "0,0", "0,1", 1), 0, api.ErrForm},
		{strings.Replace(hutText, "3000", "-3000", 1), 0, api.ErrOrder},
		{strings.Replace(hutText, "6000", "3000", 1), 0, api.ErrRange},
		{strings.Replace(hutText, "6000", "999999999", 1), 0, api.ErrRange},
		{hutText + "opening 0 9 0 1 0 1\nbox 0 0 0 0 0 0", 0, api.ErrMissing},
		{hutText + "box 0 0 0 0 0 0", 0, api.ErrForm},
		{hutText + "box 0 0 0 1 1 1", 0, api.ErrClash},
		{hutText + strings.Repeat("opening 0 0 0 1 0 1\n", 101), 0, api.ErrShape},
	} {
		b, line, e := building.Parse(c.s)
		if e != c.e || line != c.line || !same(b, api.Building{}) {
			t.Errorf("Parse of %.60q: %v, line %d, error %d; want line %d, error %d", c.s, b, line, e, c.line, c.e)
		}
	}
}

// P2.8: numbers of texts.
func TestParseNumbers(t *testing.T) {
	for _, w := range []string{"-0", "+1", "01", "00", "-01", "1234567890", "-1234567890", "--1", "-", "1-", "0x1", "1_0", "1.", "1e3", "１", "9999999999999999999999", "0,0", "\x001"} {
		_, line, e := building.Parse("building a\nstorey " + w + "\nroof 1")
		want(t, "Parse of "+w, line, e, 2, api.ErrSyntax)
		_, line, e = building.Parse(hutText + "box 0 0 0 1 1 " + w)
		want(t, "Parse of "+w, line, e, 5, api.ErrSyntax)
	}
	for _, n := range []int{-1000001, -5, 1, 999999999, -999999999} {
		_, line, e := building.Parse("building a\nstorey " + strconv.Itoa(n) + " 0,0 4,0 4,4 0,4\nroof 1")
		want(t, "Parse of a floor", line, e, 0, api.ErrOrder)
	}
}

// A plainReader is what may stand in the lines of a drawing, as expressions.
type plainReader struct{ kinds []*regexp.Regexp }

func newPlainReader() plainReader {
	const blanks, number = `[ \t]+`, `(?:0|-?[1-9][0-9]{0,8})`
	var r plainReader
	for _, s := range []string{
		`building` + blanks + `[^ \t]+`,
		`storey` + blanks + number + `(?:` + blanks + number + `,` + number + `)*`,
		`roof` + blanks + number,
		`opening(?:` + blanks + number + `){6}`,
		`box(?:` + blanks + number + `){6}`,
	} {
		r.kinds = append(r.kinds, regexp.MustCompile(`^[ \t]*`+s+`[ \t]*$`))
	}
	return r
}

// wrongLine is the number of the line that Parse should return for ErrSyntax, or 0.
func (r plainReader) wrongLine(s string) int {
	beginning, whole := regexp.MustCompile(`^(b(s+(ro*x*)?)?)?$`), regexp.MustCompile(`^bs+ro*x*$`)
	kinds := ""
	lines := strings.Split(s, "\n")
	for i, line := range lines {
		line = regexp.MustCompile(`#(.|\n)*`).ReplaceAllString(line, "")
		if strings.Trim(line, " \t") == "" {
			continue
		}
		kind := "?"
		for k, e := range r.kinds {
			if e.MatchString(line) {
				kind = "bsrox"[k : k+1]
			}
		}
		if kinds += kind; !beginning.MatchString(kinds) {
			return i + 1
		}
	}
	if !whole.MatchString(kinds) {
		return len(lines)
	}
	return 0
}

// P2.8: drawings in which bytes, words and lines are changed.
func TestParseChanged(t *testing.T) {
	d := dice()
	r := newPlainReader()
	wrong := 0
	for range 10000 {
		s, _ := building.Print(someTower(d).building)
		for range d.Intn(3) {
			s = changed(d, s)
		}
		right := r.wrongLine(s)
		b, line, e := building.Parse(s)
		if line != right || (e == api.ErrSyntax) != (right > 0) {
			t.Fatalf("Parse of %q: line %d, error %d; want line %d", s, line, e, right)
		}
		if right > 0 {
			wrong++
		}
		if e == api.OK {
			wantError(t, "what is parsed", building.Check(b), api.OK)
		} else if !same(b, api.Building{}) {
			t.Fatalf("Parse of %q: %v", s, b)
		}
	}
	if wrong < 1000 || wrong > 9000 {
		t.Errorf("%d texts are wrong", wrong)
	}
}

// changed is a text with a change at some place.
func changed(d *rand.Rand, s string) string {
	i := d.Intn(len(s) + 1)
	j := min(len(s), i+d.Intn(6))
	news := []string{"", " ", "\t", "\n", "#", ",", "-", "0", "00", "-0", "\r", "#x\n", "7", " 7", "\xff", "box 1 1 1 2 2 2\n", "\nroof 9\n", " 1,1", "storey", "123456789"}
	switch d.Intn(3) {
	case 0:
		return s[:i] + news[d.Intn(len(news))] + s[i:]
	case 1:
		return s[:i] + news[d.Intn(len(news))] + s[j:]
	}
	lines := strings.SplitAfter(s, "\n")
	a, b := d.Intn(len(lines)), d.Intn(len(lines))
	switch d.Intn(3) {
	case 0:
		lines[a], lines[b] = lines[b], lines[a]
	case 1:
		lines[a] += lines[b]
	default:
		lines[a] = ""
	}
	return strings.Join(lines, "")
}
