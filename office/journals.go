package office

import (
	"strconv"
	"strings"

	"putlog/api"
)

// numberMark stands ahead of the number of a line in a journal.
const numberMark = " #"

// Journal returns the journal.
func (o *Office) Journal() string {
	if o == nil {
		return ""
	}
	var out strings.Builder
	for i, line := range o.lines {
		out.WriteString(journalLine(i+1, line))
	}
	return out.String()
}

// Recover returns an office with the lines of a journal up to the first one that is not right, and the number
// of their bytes.
func Recover(j api.Job, text string) (*Office, int, api.Errno) {
	o, e := New(j)
	if e != api.OK {
		return nil, 0, e
	}
	size := 0
	for l := range strings.Lines(text) {
		if !o.restore(l) {
			break
		}
		size += len(l)
	}
	return o, size, api.OK
}

// restore enters a line of a journal, and reports whether it is right.
func (o *Office) restore(l string) bool {
	at := strings.LastIndex(l, numberMark)
	return at >= 0 && l == journalLine(len(o.lines)+1, l[:at]) && o.Enter(l[:at]) == api.OK
}

// journalLine returns the line of a journal with line k of a log, from 1 on.
func journalLine(k int, line string) string {
	sum := 31 * k
	for i := range len(line) {
		sum += int(line[i]) * (i%13 + 1)
	}
	return line + numberMark + strconv.Itoa(sum%9973) + "\n"
}
