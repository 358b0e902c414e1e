package layout_test

import (
	"regexp"
	"strconv"
	"strings"
	"testing"

	"putlog/api"
	"putlog/layout"
)

// P3.9: the text of a system.
func TestPrintSystem(t *testing.T) {
	for _, c := range []struct {
		s    api.System
		text string
	}{
		{theSystem(), "bays 1000 2500\nboards 500\nwidth 700\ngap 300\nlift 2000\n"},
		{bays(10000), "bays 10000\nboards\nwidth 700\ngap 300\nlift 2000\n"},
		{api.System{Bays: many(8), Boards: many(8), Width: 1, Gap: 0, Lift: 1}, "bays 1 2 3 4 5 6 7 8\nboards 1 2 3 4 5 6 7 8\nwidth 1\ngap 0\nlift 1\n"},
	} {
		got, e := layout.PrintSystem(c.s)
		want(t, "PrintSystem", got, e, c.text, api.OK)
		s, e := layout.ParseSystem(c.text)
		want(t, "ParseSystem", s, e, c.s, api.OK)
	}
	got, e := layout.PrintSystem(bays(2, 1))
	want(t, "PrintSystem", got, e, "", api.ErrOrder)
	got, e = layout.PrintSystem(api.System{})
	want(t, "PrintSystem", got, e, "", api.ErrShape)
}

// P3.9: what is no text of a system.
func TestParseSystemErrors(t *testing.T) {
	right := "bays 1000 2500\nboards 500\nwidth 700\ngap 300\nlift 2000\n"
	for _, c := range []string{
		"", "\n", "bays 1\n", right + "\n", right + right, " " + right, right[:len(right)-1], right + "lift 2000\n",
		strings.Replace(right, "bays", "Bays", 1), strings.Replace(right, "bays", "bay", 1), strings.Replace(right, "lift", "lifts", 1),
		strings.Replace(right, " 500", "  500", 1), strings.Replace(right, " 500", " 500 ", 1), strings.Replace(right, " 500", "\t500", 1),
		strings.Replace(right, " 500", " ", 1), strings.Replace(right, " 500", " 0500", 1), strings.Replace(right, " 500", " +500", 1),
		strings.Replace(right, " 500", " x", 1), strings.Replace(right, " 500", " 0", 1), strings.Replace(right, " 500", " 10001", 1),
		strings.Replace(right, " 500", " 500 500", 1), strings.Replace(right, " 500", " 99999999999999999999", 1),
		strings.Replace(right, "700", "700 700", 1), strings.Replace(right, "700", "", 1), strings.Replace(right, " 700", "", 1),
		strings.Replace(right, "300", "-0", 1), strings.Replace(right, "300", "-1", 1), strings.Replace(right, "300", "00", 1), strings.Replace(right, "300", "5001", 1),
		strings.Replace(right, "1000 2500", "2500 1000", 1), strings.Replace(right, " 1000 2500", "", 1),
		strings.Replace(right, "\n", "\r\n", -1), strings.Replace(right, "1000", "1_000", 1), strings.Replace(right, "1000", "0x10", 1),
		"boards 500\nbays 1000 2500\nwidth 700\ngap 300\nlift 2000\n",
		"bays 1000 2500\nboards 500\nwidth 700\nlift 2000\ngap 300\n",
		"bays 1\nbays 1000 2500\nboards 500\nwidth 700\ngap 300\nlift 2000\n",
		"bays 1000 2500\nboards 500\nwidth 700\ngap 300\n",
		strings.Repeat("x", 60000), strings.Repeat("\n", 60000), strings.Repeat("bays\n", 12000),
	} {
		s, e := layout.ParseSystem(c)
		want(t, "ParseSystem of "+strconv.Quote(c[:min(len(c), 90)]), s, e, api.System{}, api.ErrSyntax)
	}
	for _, c := range []string{strings.Repeat("x", 60001), right + strings.Repeat("\n", 60000)} {
		s, e := layout.ParseSystem(c)
		want(t, "a long text", s, e, api.System{}, api.ErrLarge)
	}
	s, e := layout.ParseSystem(strings.Replace(right, "300", "0", 1))
	right0 := theSystem()
	right0.Gap = 0
	want(t, "no gap", s, e, right0, api.OK)
}

// form is the form of the text of a system; which numbers may stand there is told by CheckSystem.
var form = regexp.MustCompile(`^bays((?: [1-9][0-9]{0,4})+)\nboards((?: [1-9][0-9]{0,4})*)\nwidth ([1-9][0-9]{0,3})\ngap (0|[1-9][0-9]{0,3})\nlift ([1-9][0-9]{0,4})\n$`)

// systemOf is the system of a text.
func systemOf(text string) (api.System, api.Errno) {
	m := form.FindStringSubmatch(text)
	if m == nil {
		return api.System{}, api.ErrSyntax
	}
	var lists [6][]int
	for i := 1; i < 6; i++ {
		for _, w := range strings.Fields(m[i]) {
			n, _ := strconv.Atoi(w)
			lists[i] = append(lists[i], n)
		}
	}
	s := api.System{Bays: lists[1], Boards: lists[2], Width: lists[3][0], Gap: lists[4][0], Lift: lists[5][0]}
	if layout.CheckSystem(s) != api.OK {
		return api.System{}, api.ErrSyntax
	}
	return s, api.OK
}

// P3.9: texts that are changed at random places.
func TestParseSystemChanged(t *testing.T) {
	d := dice()
	parsed, refused := 0, 0
	for range 20000 {
		text, e := layout.PrintSystem(someSystem(d, 1+d.Intn(50)))
		wantError(t, "PrintSystem", e, api.OK)
		for range d.Intn(3) {
			i := d.Intn(len(text))
			switch add := string(" \n0123456789bl-"[d.Intn(15)]); d.Intn(3) {
			case 0:
				text = text[:i] + text[i+1:]
			case 1:
				text = text[:i] + add + text[i:]
			case 2:
				text = text[:i] + add + text[i+1:]
			}
		}
		right, f := systemOf(text)
		if f == api.OK {
			parsed++
			again, _ := layout.PrintSystem(right)
			want(t, "PrintSystem", again, api.OK, text, api.OK)
		} else {
			refused++
		}
		got, e := layout.ParseSystem(text)
		want(t, "ParseSystem", got, e, right, f)
	}
	if parsed < 5000 || refused < 5000 {
		t.Errorf("%d parsed, %d refused", parsed, refused)
	}
}
