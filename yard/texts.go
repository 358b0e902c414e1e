package yard

import (
	"strconv"
	"strings"

	"putlog/api"
	"putlog/spelling"
)

// maxDigits is the number of digits that a number in a text may have.
const maxDigits = 7

// Print returns the text of a stock.
func Print(l []api.Stock) (string, api.Errno) {
	if e := Check(l); e != api.OK {
		return "", e
	}
	var out strings.Builder
	for _, x := range l {
		out.WriteString(x.Part)
		for _, n := range []int{x.Place, x.State, x.Count} {
			out.WriteString(" " + strconv.Itoa(n))
		}
		out.WriteString("\n")
	}
	return out.String(), api.OK
}

// Parse returns the stock with a text.
func Parse(s string) ([]api.Stock, int, api.Errno) {
	if len(s) > api.MaxText {
		return nil, 0, api.ErrLarge
	}
	var l []api.Stock
	for line := range strings.Lines(s) {
		x, ok := readEntry(line)
		if !ok {
			return nil, len(l) + 1, api.ErrSyntax
		}
		l = append(l, x)
	}
	if e := Check(l); e != api.OK {
		return nil, 0, e
	}
	return l, 0, api.OK
}

// readEntry returns the entry of a line, and whether there is one.
func readEntry(line string) (api.Stock, bool) {
	line, ended := strings.CutSuffix(line, "\n")
	words := strings.Split(line, " ")
	if !ended || len(words) != 4 {
		return api.Stock{}, false
	}
	var numbers [3]int
	for i, w := range words[1:] {
		if !spelling.IsNumber(w, maxDigits) || w[0] == '-' {
			return api.Stock{}, false
		}
		numbers[i], _ = strconv.Atoi(w)
	}
	return api.Stock{Part: words[0], Place: numbers[0], State: numbers[1], Count: numbers[2]}, true
}
