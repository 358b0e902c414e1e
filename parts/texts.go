package parts

import (
	"strconv"
	"strings"

	"putlog/api"
	"putlog/spelling"
)

// maxDigits is the number of digits that a number in a text may have.
const maxDigits = 7

// Print returns the text of a scaffold.
func Print(s api.Scaffold) (string, api.Errno) {
	a, e := accept(s)
	if e != api.OK {
		return "", e
	}
	var out strings.Builder
	for _, n := range a.Nodes {
		out.WriteString(line("node", n.X, n.Y, n.Z))
	}
	for _, m := range a.Members {
		out.WriteString(line("member", m.Kind, m.A, m.B))
	}
	return out.String(), api.OK
}

// Parse returns the scaffold with a text.
func Parse(text string) (api.Scaffold, int, api.Errno) {
	if len(text) > api.MaxText {
		return api.Scaffold{}, 0, api.ErrLarge
	}
	var s api.Scaffold
	number := 0
	for l := range strings.Lines(text) {
		number++
		if !readLine(&s, l) {
			return api.Scaffold{}, number, api.ErrSyntax
		}
	}
	if e := Check(s); e != api.OK {
		return api.Scaffold{}, 0, e
	}
	return s, 0, api.OK
}

// line returns the line of a word and numbers.
func line(word string, numbers ...int) string {
	for _, n := range numbers {
		word += " " + strconv.Itoa(n)
	}
	return word + "\n"
}

// readLine adds the node or the member of a line, and reports whether there is one that may stand here.
func readLine(s *api.Scaffold, l string) bool {
	l, ended := strings.CutSuffix(l, "\n")
	words := strings.Split(l, " ")
	if !ended || len(words) != 4 {
		return false
	}
	var numbers [3]int
	for i, w := range words[1:] {
		if !spelling.IsNumber(w, maxDigits) {
			return false
		}
		numbers[i], _ = strconv.Atoi(w)
	}
	switch {
	case words[0] == "node" && len(s.Members) == 0:
		s.Nodes = append(s.Nodes, api.Node{X: numbers[0], Y: numbers[1], Z: numbers[2]})
	case words[0] == "member":
		s.Members = append(s.Members, api.Member{Kind: numbers[0], A: numbers[1], B: numbers[2]})
	default:
		return false
	}
	return true
}
