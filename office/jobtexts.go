package office

import (
	"cmp"
	"slices"
	"strings"

	"putlog/api"
	"putlog/building"
	"putlog/layout"
)

// jobDigits is the number of digits that a number behind the system of a job may have.
const jobDigits = 15

// systemLine is the line ahead of the text of the system, which has so many lines.
const (
	systemLine  = "system\n"
	systemLines = 5
)

// PrintJob returns the text of a job.
func PrintJob(j api.Job) (string, api.Errno) {
	drawing, e := building.Print(j.Building)
	system, f := layout.PrintSystem(j.System)
	if e := cmp.Or(CheckJob(j), e, f); e != api.OK {
		return "", e
	}
	text := joined("job", j.Name) + "\n" + drawing + systemLine + system + listsText(j)
	if len(text) > api.MaxText {
		return "", api.ErrLarge
	}
	return text, api.OK
}

// listsText returns the lines behind the system of a job.
func listsText(j api.Job) string {
	var out strings.Builder
	for _, p := range j.Catalogue.Parts {
		out.WriteString(joined("part", p.Name, p.Kind, p.Square, p.Mass, p.Strength, p.Ends[0], p.Ends[1]) + "\n")
	}
	for _, p := range j.Catalogue.Pairs {
		out.WriteString(joined("pair", p[0], p[1]) + "\n")
	}
	for _, t := range j.Terms {
		out.WriteString(joined("term", t.Part, t.Week, t.Least, t.Price) + "\n")
	}
	return out.String() + "end\n"
}

// ParseJob returns the job with a text.
func ParseJob(text string) (api.Job, int, api.Errno) {
	if len(text) > api.MaxText {
		return api.Job{}, 0, api.ErrLarge
	}
	var j api.Job
	ofBuilding, wrong := readJob(&j, slices.Collect(strings.Lines(text)))
	if wrong > 0 {
		return api.Job{}, wrong, api.ErrSyntax
	}
	if e := jobError(j, ofBuilding); e != api.OK {
		return api.Job{}, 0, e
	}
	return j, 0, api.OK
}

// readJob reads the lines of the text of a job. It returns the error of the building, and the number of the
// first line that has not the form that is required, or 0.
func readJob(j *api.Job, lines []string) (ofBuilding api.Errno, wrong int) {
	if len(lines) == 0 || !readHead(j, lineWords(lines[0])) {
		return api.OK, 1
	}
	at := slices.Index(lines, systemLine)
	if at < 0 {
		return api.OK, 2
	}
	var n int
	j.Building, n, ofBuilding = building.Parse(strings.Join(lines[1:at], ""))
	if ofBuilding == api.ErrSyntax {
		return api.OK, n + 1
	}
	lists := min(at+1+systemLines, len(lines))
	s, e := layout.ParseSystem(strings.Join(lines[at+1:lists], ""))
	if e != api.OK {
		return api.OK, at + 1
	}
	j.System = s
	if n := readLists(j, lines[lists:]); n > 0 {
		return api.OK, lists + n
	}
	return ofBuilding, 0
}

// readHead reads the words of the first line, and reports whether it is right.
func readHead(j *api.Job, words []string) bool {
	return len(words) > 0 && words[0] == "job" && readWords(words[1:], 0, &j.Name)
}

// lineWords returns the words of a line, or none if it does not end with a line feed.
func lineWords(line string) []string {
	line, ended := strings.CutSuffix(line, "\n")
	if !ended {
		return nil
	}
	return wordsOf(line)
}

// The kinds of lines behind the system, in their order.
const (
	partLine = iota
	pairLine
	termLine
	endLine
)

// readLists reads the lines behind the system. It returns the number of the first wrong one, from 1 on, or 0.
func readLists(j *api.Job, lines []string) int {
	last := partLine
	for i, l := range lines {
		kind, ok := readListLine(j, lineWords(l))
		if !ok || kind < last || last == endLine {
			return i + 1
		}
		last = kind
	}
	if last != endLine {
		return len(lines) + 1
	}
	return 0
}

// readListLine reads the words of a line behind the system. It returns its kind, and whether it is right.
func readListLine(j *api.Job, words []string) (kind int, ok bool) {
	if len(words) == 0 {
		return 0, false
	}
	switch words[0] {
	case "part":
		var p api.Part
		ok = readWords(words[1:], jobDigits, &p.Name, &p.Kind, &p.Square, &p.Mass, &p.Strength, &p.Ends[0], &p.Ends[1])
		j.Catalogue.Parts = append(j.Catalogue.Parts, p)
		return partLine, ok
	case "pair":
		var p [2]int
		ok = readWords(words[1:], jobDigits, &p[0], &p[1])
		j.Catalogue.Pairs = append(j.Catalogue.Pairs, p)
		return pairLine, ok
	case "term":
		var t api.Term
		ok = readWords(words[1:], jobDigits, &t.Part, &t.Week, &t.Least, &t.Price)
		j.Terms = append(j.Terms, t)
		return termLine, ok
	case "end":
		return endLine, len(words) == 1
	}
	return 0, false
}
