package office

import (
	"slices"
	"strings"

	"putlog/api"
)

// Office is a job with its log: of the job it has what entries need.
type Office struct {
	terms          []api.Term
	lines, entries []string
	state          api.State // that of the entries
}

// New returns an office with an empty log.
func New(j api.Job) (*Office, api.Errno) {
	if e := CheckJob(j); e != api.OK {
		return nil, e
	}
	return &Office{terms: slices.Clone(j.Terms)}, api.OK
}

// Enter puts a line at the end of the log if it is accepted.
func (o *Office) Enter(line string) api.Errno {
	if o == nil {
		return api.ErrNil
	}
	if len(o.lines) >= api.MaxEntries {
		return api.ErrLarge
	}
	entry, at, e := o.read(line)
	if e != api.OK {
		return e
	}
	entries, s, from := slices.Clone(o.entries), o.state, len(o.entries)
	if at < from {
		entries[at] = entry
		s, from = api.State{}, 0
	} else {
		entries = append(entries, entry)
	}
	s, _, e = replay(o.terms, s, entries[from:])
	if e != api.OK {
		return e
	}
	o.lines, o.entries, o.state = append(o.lines, strings.Clone(line)), entries, s
	return api.OK
}

// read returns the entry of a line, and the number that it gets, or the error of the line's form.
func (o *Office) read(line string) (entry string, at int, e api.Errno) {
	entry, at = strings.Clone(line), len(o.entries)
	correction, isCorrection := strings.CutPrefix(line, "correct ")
	if isCorrection {
		number, corrected, _ := strings.Cut(correction, " ")
		n, ok := numberOf(number, entryDigits)
		if !ok {
			return "", 0, api.ErrSyntax
		}
		entry, at = strings.Clone(corrected), n
	}
	if _, ok := actionOf(entry); !ok {
		return "", 0, api.ErrSyntax
	}
	if isCorrection && (at < 0 || at >= len(o.entries)) {
		return "", 0, api.ErrMissing
	}
	return entry, at, api.OK
}

// Entries returns the entries, as corrected.
func (o *Office) Entries() []string {
	if o == nil {
		return nil
	}
	return slices.Clone(o.entries)
}

// State returns the state of the entries.
func (o *Office) State() api.State {
	if o == nil {
		return api.State{}
	}
	return copied(o.state)
}
