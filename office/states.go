package office

import (
	"slices"

	"putlog/api"
	"putlog/parts"
	"putlog/record"
)

// Next returns the state that an entry makes of a state.
func Next(j api.Job, s api.State, entry string) (api.State, api.Errno) {
	if e := CheckJob(j); e != api.OK {
		return api.State{}, e
	}
	out, e := next(j.Terms, s, entry)
	return copied(out), e
}

// Replay returns the state of the entries before the first one that has an error, their number, and this error.
func Replay(j api.Job, entries []string) (api.State, int, api.Errno) {
	if e := CheckJob(j); e != api.OK {
		return api.State{}, 0, e
	}
	if len(entries) > api.MaxEntries {
		return api.State{}, 0, api.ErrLarge
	}
	return replay(j.Terms, api.State{}, entries)
}

// replay is Replay from a state on.
func replay(terms []api.Term, s api.State, entries []string) (api.State, int, api.Errno) {
	for i, entry := range entries {
		after, e := next(terms, s, entry)
		if e != api.OK {
			return s, i, e
		}
		s = after
	}
	return s, len(entries), api.OK
}

// next is Next, by the terms of the job; the states may share memory.
func next(terms []api.Term, s api.State, entry string) (api.State, api.Errno) {
	act, ok := actionOf(entry)
	if !ok {
		return api.State{}, api.ErrSyntax
	}
	return act(terms, s)
}

// withEvent returns a state with another event.
func withEvent(s api.State, x api.Event) (api.State, api.Errno) {
	l, e := record.Add(s.Record, x)
	if e != api.OK {
		return api.State{}, e
	}
	if x.Kind == api.EventDesign {
		if e := freeError(s.Scaffold); e != api.OK {
			return api.State{}, e
		}
	}
	s.Record = l
	return s, api.OK
}

// freeError is ErrFree if a member of a scaffold has a free end.
func freeError(s api.Scaffold) api.Errno {
	free, e := parts.Free(s)
	if len(free) > 0 {
		return api.ErrFree
	}
	return e
}

// withMove returns a state with another move.
func withMove(terms []api.Term, s api.State, m api.Move) (api.State, api.Errno) {
	l := slices.Concat(s.Moves, []api.Move{m})
	if e := record.CheckMoves(terms, l); e != api.OK {
		return api.State{}, e
	}
	s.Moves = l
	return s, api.OK
}

// altering returns the action that changes the scaffold, of which the record tells for all platforms.
func altering(c api.Change) action {
	return func(_ []api.Term, s api.State) (api.State, api.Errno) {
		scaffold, e := parts.Apply(s.Scaffold, c)
		if e != api.OK {
			return api.State{}, e
		}
		l, e := withAlterations(s.Record)
		if e != api.OK {
			return api.State{}, e
		}
		s.Scaffold, s.Record = scaffold, l
		return s, api.OK
	}
}

// withAlterations returns a record with an alteration of each platform, on the day of the last event.
func withAlterations(l []api.Event) ([]api.Event, api.Errno) {
	platforms, e := record.Platforms(l)
	if e != api.OK {
		return nil, e
	}
	for _, p := range platforms {
		l, e = record.Add(l, api.Event{Day: l[len(l)-1].Day, Kind: api.EventAlteration, Platform: p})
		if e != api.OK {
			return nil, e
		}
	}
	return l, api.OK
}

// copied returns a state in memory of its own.
func copied(s api.State) api.State {
	return api.State{
		Record: slices.Clone(s.Record),
		Moves:  slices.Clone(s.Moves),
		Scaffold: api.Scaffold{
			Nodes:   slices.Clone(s.Scaffold.Nodes),
			Members: slices.Clone(s.Scaffold.Members),
		},
	}
}
