package building

import (
	"strconv"
	"strings"

	"putlog/api"
	"putlog/spelling"
)

// maxDigits is the number of digits that a number in a drawing may have.
const maxDigits = 9

// Print returns the drawing of a building.
func Print(b api.Building) (string, api.Errno) {
	if e := Check(b); e != api.OK {
		return "", e
	}
	var out strings.Builder
	out.WriteString("building " + b.Name + "\n")
	for _, s := range b.Storeys {
		out.WriteString("storey " + strconv.Itoa(s.Floor))
		for _, p := range s.Outline {
			out.WriteString(" " + strconv.Itoa(p.X) + "," + strconv.Itoa(p.Y))
		}
		out.WriteString("\n")
	}
	out.WriteString(numberLine("roof", b.Roof))
	for _, o := range b.Openings {
		out.WriteString(numberLine("opening", o.Storey, o.Wall, o.From, o.To, o.Bottom, o.Top))
	}
	for _, x := range b.Boxes {
		out.WriteString(numberLine("box", x.X1, x.Y1, x.Z1, x.X2, x.Y2, x.Z2))
	}
	if out.Len() > api.MaxText {
		return "", api.ErrLarge
	}
	return out.String(), api.OK
}

func numberLine(word string, numbers ...int) string {
	for _, n := range numbers {
		word += " " + strconv.Itoa(n)
	}
	return word + "\n"
}

// Parse returns the building of a drawing.
func Parse(s string) (api.Building, int, api.Errno) {
	if len(s) > api.MaxText {
		return api.Building{}, 0, api.ErrLarge
	}
	var r reader
	for i, line := range strings.Split(s, "\n") {
		words := wordsOf(line)
		if len(words) > 0 && !r.read(words[0], words[1:]) {
			return api.Building{}, i + 1, api.ErrSyntax
		}
	}
	if r.last < roofLine {
		return api.Building{}, strings.Count(s, "\n") + 1, api.ErrSyntax
	}
	if e := Check(r.building); e != api.OK {
		return api.Building{}, 0, e
	}
	return r.building, 0, api.OK
}

// The kinds of lines, in their order.
const (
	noLine = iota
	buildingLine
	storeyLine
	roofLine
	openingLine
	boxLine
)

// A reader makes a building of the lines of a drawing; last is the kind of the last one.
type reader struct {
	building api.Building
	last     int
}

// read takes a line with a first word and others, and reports whether it may stand here.
func (r *reader) read(first string, words []string) bool {
	switch first {
	case "building":
		return r.follow(buildingLine, noLine, noLine) && r.readName(words)
	case "storey":
		return r.follow(storeyLine, buildingLine, storeyLine) && r.readStorey(words)
	case "roof":
		return r.follow(roofLine, storeyLine, storeyLine) && readNumbers(words, &r.building.Roof)
	case "opening":
		return r.follow(openingLine, roofLine, openingLine) && r.readOpening(words)
	case "box":
		return r.follow(boxLine, roofLine, boxLine) && r.readBox(words)
	}
	return false
}

// follow takes the kind of a line that may stand behind those of the kinds from low to high.
func (r *reader) follow(kind, low, high int) bool {
	last := r.last
	r.last = kind
	return low <= last && last <= high
}

func (r *reader) readName(words []string) bool {
	if len(words) != 1 {
		return false
	}
	r.building.Name = strings.Clone(words[0]) // so that the text is not kept
	return true
}

func (r *reader) readStorey(words []string) bool {
	var s api.Storey
	if len(words) == 0 || !readNumbers(words[:1], &s.Floor) {
		return false
	}
	for _, w := range words[1:] {
		var p api.Point
		if !readNumbers(strings.Split(w, ","), &p.X, &p.Y) {
			return false
		}
		s.Outline = append(s.Outline, p)
	}
	r.building.Storeys = append(r.building.Storeys, s)
	return true
}

func (r *reader) readOpening(words []string) bool {
	var o api.Opening
	ok := readNumbers(words, &o.Storey, &o.Wall, &o.From, &o.To, &o.Bottom, &o.Top)
	r.building.Openings = append(r.building.Openings, o)
	return ok
}

func (r *reader) readBox(words []string) bool {
	var x api.Box
	ok := readNumbers(words, &x.X1, &x.Y1, &x.Z1, &x.X2, &x.Y2, &x.Z2)
	r.building.Boxes = append(r.building.Boxes, x)
	return ok
}

// wordsOf returns the words of a line.
func wordsOf(line string) []string {
	line, _, _ = strings.Cut(line, "#")
	return strings.FieldsFunc(line, func(c rune) bool { return c == ' ' || c == '\t' })
}

// readNumbers reads as many numbers as there are places for them.
func readNumbers(words []string, places ...*int) bool {
	if len(words) != len(places) {
		return false
	}
	for i, w := range words {
		if !spelling.IsNumber(w, maxDigits) {
			return false
		}
		*places[i], _ = strconv.Atoi(w)
	}
	return true
}
