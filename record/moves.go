package record

import (
	"putlog/api"
	"putlog/spelling"
)

// The limits of terms and moves.
const (
	maxPrice  = 1000000
	maxLeast  = 520
	maxPieces = 100000
)

// CheckTerms accepts right terms.
func CheckTerms(t []api.Term) api.Errno {
	if len(t) > api.MaxParts {
		return api.ErrLarge
	}
	isNamed := map[string]bool{}
	for _, x := range t {
		switch {
		case !spelling.IsName(x.Part):
			return api.ErrName
		case isNamed[x.Part]:
			return api.ErrExists
		case !areFrom(0, maxPrice, x.Week, x.Price) || !areFrom(0, maxLeast, x.Least):
			return api.ErrRange
		}
		isNamed[x.Part] = true
	}
	return api.OK
}

// CheckMoves accepts right moves.
func CheckMoves(t []api.Term, l []api.Move) api.Errno {
	if e := CheckTerms(t); e != api.OK {
		return e
	}
	if len(l) > api.MaxMoves {
		return api.ErrLarge
	}
	hired := map[string]int{}
	for _, x := range t {
		hired[x.Part] = 0
	}
	day := 0
	for _, m := range l {
		if e := moveError(m, day, hired); e != api.OK {
			return e
		}
		hired[m.Part] += gain(m)
		day = m.Day
	}
	return api.OK
}

// moveError is the first error of a move behind one of a day, where so many pieces of each part are on hire.
func moveError(m api.Move, day int, hired map[string]int) api.Errno {
	count, hasTerm := hired[m.Part]
	switch {
	case !isDay(m.Day) || !areFrom(api.MoveDelivered, api.MoveLost, m.Kind) || !areFrom(1, maxPieces, m.Count):
		return api.ErrRange
	case m.Day < day:
		return api.ErrOrder
	case !hasTerm:
		return api.ErrMissing
	case count+gain(m) < 0:
		return api.ErrStock
	}
	return api.OK
}

// gain returns how many more pieces are on hire by a move.
func gain(m api.Move) int {
	if m.Kind == api.MoveDelivered {
		return m.Count
	}
	return -m.Count
}

// movesUpTo returns the moves up to a day.
func movesUpTo(l []api.Move, day int) []api.Move {
	for i, m := range l {
		if m.Day > day {
			return l[:i]
		}
	}
	return l
}

// onHire is the place of the pieces on hire in a balance, behind those of the kinds of moves.
const onHire = api.MoveLost + 1

// Balance returns for each term how many pieces were delivered, returned and lost, and are on hire.
func Balance(t []api.Term, l []api.Move, day int) ([][4]int, api.Errno) {
	if e := CheckMoves(t, l); e != api.OK {
		return nil, e
	}
	if !isDay(day) {
		return nil, api.ErrRange
	}
	var out [][4]int
	for _, x := range t {
		out = append(out, balanceOf(x.Part, movesUpTo(l, day)))
	}
	return out, api.OK
}

// balanceOf returns the balance of a part.
func balanceOf(part string, l []api.Move) [4]int {
	var b [4]int
	for _, m := range l {
		if m.Part == part {
			b[m.Kind] += m.Count
			b[onHire] += gain(m)
		}
	}
	return b
}

// OnHire returns for each term how many pieces are on hire at the end of a day.
func OnHire(t []api.Term, l []api.Move, day int) ([]int, api.Errno) {
	balances, e := Balance(t, l, day)
	var out []int
	for _, b := range balances {
		out = append(out, b[onHire])
	}
	return out, e
}
