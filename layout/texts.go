package layout

import (
	"strconv"
	"strings"

	"putlog/api"
)

// PrintSystem returns the text of a system.
func PrintSystem(s api.System) (string, api.Errno) {
	if e := CheckSystem(s); e != api.OK {
		return "", e
	}
	return line("bays", s.Bays...) + line("boards", s.Boards...) +
		line("width", s.Width) + line("gap", s.Gap) + line("lift", s.Lift), api.OK
}

// ParseSystem returns the system with a text.
func ParseSystem(t string) (api.System, api.Errno) {
	if len(t) > api.MaxText {
		return api.System{}, api.ErrLarge
	}
	s := read(t)
	// Only the text that is printed for a system is a text of it, so nothing else need be looked at.
	if again, e := PrintSystem(s); e != api.OK || again != t {
		return api.System{}, api.ErrSyntax
	}
	return s, api.OK
}

// line returns the line of a word and numbers.
func line(word string, numbers ...int) string {
	for _, n := range numbers {
		word += " " + strconv.Itoa(n)
	}
	return word + "\n"
}

// read returns what can be read of a text as a system; it passes over the rest.
func read(t string) api.System {
	var s api.System
	for l := range strings.SplitSeq(t, "\n") {
		words := strings.Split(l, " ")
		switch words[0] {
		case "bays":
			s.Bays = numbers(words[1:])
		case "boards":
			s.Boards = numbers(words[1:])
		case "width":
			s.Width = last(words)
		case "gap":
			s.Gap = last(words)
		case "lift":
			s.Lift = last(words)
		}
	}
	return s
}

// numbers returns the numbers that words are, 0 for other words.
func numbers(words []string) []int {
	out := make([]int, len(words))
	for i, w := range words {
		out[i], _ = strconv.Atoi(w)
	}
	return out
}

// last returns the number that the last word is.
func last(words []string) int {
	n, _ := strconv.Atoi(words[len(words)-1])
	return n
}
