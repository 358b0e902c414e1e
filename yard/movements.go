package yard

import (
	"slices"

	"putlog/api"
	"putlog/spelling"
)

// CheckMovement accepts movements that are permitted.
func CheckMovement(m api.Movement) api.Errno {
	switch {
	case !spelling.IsName(m.Part):
		return api.ErrName
	case !areFrom(outside, lastJob, m.From, m.To), !areFrom(good, quarantine, m.Before, m.After), !areFrom(1, api.MaxCount, m.Count):
		return api.ErrRange
	case !isPermitted(m):
		return api.ErrState
	}
	return api.OK
}

// isPermitted reports whether a movement between places and states is permitted.
func isPermitted(m api.Movement) bool {
	states := [2]int{m.Before, m.After}
	switch {
	case m.From == outside:
		return m.To == home && states == [2]int{good, good}
	case m.From == m.To:
		return isChange(states, m.From)
	case m.Before != m.After:
		return false
	}
	return m.To == outside || m.To == home || m.Before == good
}

// isChange reports whether parts at a place may go from the first state to the second one.
func isChange(states [2]int, place int) bool {
	anywhere := [][2]int{{good, damaged}, {good, quarantine}, {damaged, quarantine}}
	atHome := [][2]int{{damaged, inRepair}, {inRepair, good}, {inRepair, damaged}, {quarantine, good}, {quarantine, damaged}}
	return slices.Contains(anywhere, states) || place == home && slices.Contains(atHome, states)
}

// Move returns the stock behind a movement, in normal form.
func Move(l []api.Stock, m api.Movement) ([]api.Stock, api.Errno) {
	out, _, e := Moves(l, []api.Movement{m})
	return out, e
}

// Moves returns the stock behind movements, in normal form, and their number. With an error of a movement
// it returns the number of this one.
func Moves(l []api.Stock, m []api.Movement) ([]api.Stock, int, api.Errno) {
	if len(m) == 0 {
		out, e := Normal(l)
		return out, 0, e
	}
	if e := Check(l); e != api.OK {
		return nil, 0, e
	}
	s := shelvesOf(l)
	for i, x := range m {
		if e := s.move(x); e != api.OK {
			return nil, i, e
		}
	}
	return s.entries(), len(m), api.OK
}

// move makes a movement, or a part of it if it has an error.
func (s shelves) move(m api.Movement) api.Errno {
	if e := CheckMovement(m); e != api.OK {
		return e
	}
	if m.From != outside {
		from := shelf{m.Part, m.From, m.Before}
		if s[from] < m.Count {
			return api.ErrStock
		}
		s.put(from, -m.Count)
	}
	if m.To != outside {
		s.put(shelf{m.Part, m.To, m.After}, m.Count)
	}
	if s.areTooMany() {
		return api.ErrLarge
	}
	return api.OK
}

// Undo returns the opposite of a movement.
func Undo(m api.Movement) (api.Movement, api.Errno) {
	if e := CheckMovement(m); e != api.OK {
		return api.Movement{}, e
	}
	m.From, m.To = m.To, m.From
	m.Before, m.After = m.After, m.Before
	if !isPermitted(m) {
		return api.Movement{}, api.ErrState
	}
	return m, api.OK
}
