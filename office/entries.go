package office

import "putlog/api"

// entryDigits is the number of digits that a number in a line of the log may have.
const entryDigits = 7

// noPlatform is the word for an empty platform.
const noPlatform = "-"

// FormatEvent returns the text of the entry that adds an event.
func FormatEvent(e api.Event) string {
	platform := e.Platform
	if platform == "" {
		platform = noPlatform
	}
	return joined("event", e.Day, e.Kind, platform, e.Number, e.Passed, e.Grave)
}

// FormatMove returns the text of the entry that adds a move.
func FormatMove(m api.Move) string { return joined("move", m.Day, m.Kind, m.Part, m.Count) }

// FormatPlace returns the text of the entry that adds a member at a place, or that takes it away.
func FormatPlace(added bool, p api.Place) string {
	word := "remove"
	if added {
		word = "add"
	}
	return joined(word, p.Kind, p.From.X, p.From.Y, p.From.Z, p.To.X, p.To.Y, p.To.Z)
}

// An action makes a state of a state, by terms, or has an error. The states may share memory.
type action func(terms []api.Term, s api.State) (api.State, api.Errno)

// actionOf returns the action of an entry, and whether the entry has one of the forms.
func actionOf(entry string) (action, bool) {
	words := wordsOf(entry)
	if len(words) == 0 {
		return nil, false
	}
	switch words[0] {
	case "event":
		x, ok := readEvent(words[1:])
		return func(_ []api.Term, s api.State) (api.State, api.Errno) { return withEvent(s, x) }, ok
	case "move":
		var m api.Move
		ok := readWords(words[1:], entryDigits, &m.Day, &m.Kind, &m.Part, &m.Count)
		return func(terms []api.Term, s api.State) (api.State, api.Errno) { return withMove(terms, s, m) }, ok
	case "add":
		p, ok := readPlace(words[1:])
		return altering(api.Change{Added: []api.Place{p}}), ok
	case "remove":
		p, ok := readPlace(words[1:])
		return altering(api.Change{Removed: []api.Place{p}}), ok
	}
	return nil, false
}

// readEvent returns the event that words tell, and whether they have this form.
func readEvent(words []string) (api.Event, bool) {
	var e api.Event
	ok := readWords(words, entryDigits, &e.Day, &e.Kind, &e.Platform, &e.Number, &e.Passed, &e.Grave)
	if e.Platform == noPlatform {
		e.Platform = ""
	}
	return e, ok
}

// readPlace returns the place that words tell, and whether they have this form.
func readPlace(words []string) (api.Place, bool) {
	var p api.Place
	ok := readWords(words, entryDigits, &p.Kind, &p.From.X, &p.From.Y, &p.From.Z, &p.To.X, &p.To.Y, &p.To.Z)
	return p, ok
}
