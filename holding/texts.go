package holding

import (
	"strconv"
	"strings"

	"putlog/api"
)

// maxNumber is the greatest number of a standard or level in a text.
const maxNumber = 99

// Print returns the text of ties.
func Print(l []api.Tie) (string, api.Errno) {
	if len(l) > maxTies {
		return "", api.ErrLarge
	}
	var out []string
	for _, t := range l {
		if !areFrom(0, maxNumber, t.Standard, t.Level) {
			return "", api.ErrRange
		}
		out = append(out, strconv.Itoa(t.Standard)+"."+strconv.Itoa(t.Level))
	}
	return strings.Join(out, " "), api.OK
}

// Parse returns the ties with a text.
func Parse(s string) ([]api.Tie, api.Errno) {
	if len(s) > api.MaxText {
		return nil, api.ErrLarge
	}
	l := read(s)
	// Only the text that is printed for ties is a text of them, so nothing else need be looked at.
	if again, e := Print(l); e != api.OK || again != s {
		return nil, api.ErrSyntax
	}
	return l, api.OK
}

// read returns the ties that the words of a text are, with wrong numbers for other words.
func read(s string) []api.Tie {
	if s == "" {
		return nil
	}
	var out []api.Tie
	for word := range strings.SplitSeq(s, " ") {
		standard, level, _ := strings.Cut(word, ".")
		var t api.Tie
		t.Standard, _ = strconv.Atoi(standard)
		t.Level, _ = strconv.Atoi(level)
		out = append(out, t)
	}
	return out
}
