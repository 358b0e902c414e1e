package erection

import (
	"strconv"
	"strings"

	"putlog/api"
	"putlog/spelling"
)

// maxDigits is the number of digits that a number in a text may have.
const maxDigits = 7

// Print returns the text of a plan.
func Print(l []api.Task) (string, api.Errno) {
	if e := Check(l); e != api.OK {
		return "", e
	}
	var out strings.Builder
	for _, t := range l {
		out.WriteString(t.Name + " " + t.Trade)
		for _, n := range append([]int{t.Member, t.Place, t.Minutes}, t.Needs...) {
			out.WriteString(" " + strconv.Itoa(n))
		}
		out.WriteString("\n")
	}
	return out.String(), api.OK
}

// Parse returns the plan with a text.
func Parse(s string) ([]api.Task, int, api.Errno) {
	if len(s) > api.MaxText {
		return nil, 0, api.ErrLarge
	}
	var l []api.Task
	for line := range strings.Lines(s) {
		t, ok := readTask(line)
		if !ok {
			return nil, len(l) + 1, api.ErrSyntax
		}
		l = append(l, t)
	}
	if e := Check(l); e != api.OK {
		return nil, 0, e
	}
	return l, 0, api.OK
}

// readTask returns the task of a line, and whether there is one.
func readTask(line string) (api.Task, bool) {
	line, ended := strings.CutSuffix(line, "\n")
	words := strings.Split(line, " ")
	if !ended || len(words) < 5 {
		return api.Task{}, false
	}
	var numbers []int
	for i, w := range words[2:] {
		isNone := i == 0 && w == "-1" // no member
		if !isNone && (!spelling.IsNumber(w, maxDigits) || w[0] == '-') {
			return api.Task{}, false
		}
		n, _ := strconv.Atoi(w)
		numbers = append(numbers, n)
	}
	return api.Task{
		Name: words[0], Trade: words[1],
		Member: numbers[0], Place: numbers[1], Minutes: numbers[2], Needs: append([]int{}, numbers[3:]...),
	}, true
}
