package exact

import (
	"slices"

	"putlog/api"
)

// A tableau is a state of the simplex method. Its unknowns are numbered: 0 is the shortfall, 1 to n
// those of the program, and then comes one slack for each row of the program. A row of cells says of
// an unknown, or of a goal, that it is the last cell less the sum of each other cell times the unknown
// of its column, all divided by den. The unknowns of the columns are 0. The cells are integers, as in
// an echelon, and den is positive.
type tableau struct {
	n      int
	cells  [][]api.Int // the rows of basic, then those of the goals
	basic  []int       // the unknowns of the rows
	rest   []int       // the unknowns of the columns
	den    api.Int
	scales []api.Int // what the rows of the program, then its goal, have been multiplied by
}

// tableauOf returns the tableau of p, before the first step.
func tableauOf(p api.Program) *tableau {
	t := &tableau{n: len(p.C), den: Of(1)}
	for i, row := range p.A {
		t.addRow(Of(-1), row, p.B[i])
		t.basic = append(t.basic, 1+t.n+i)
	}
	t.addRow(Of(0), p.C, api.Rat{})
	for j := range t.n {
		t.cells[t.goal()][1+j] = opposite(t.cells[t.goal()][1+j])
	}
	t.cells = append(t.cells, make([]api.Int, t.n+2))
	t.cells[t.firstGoal()][0] = Of(1)
	for j := range t.n + 1 {
		t.rest = append(t.rest, j)
	}
	return t
}

// addRow adds a row of the cell of the shortfall, those of l, and the last one.
func (t *tableau) addRow(shortfall api.Int, l []api.Rat, last api.Rat) {
	v := vectorOf(append(slices.Clone(l), last))
	t.cells = append(t.cells, append([]api.Int{shortfall}, v.nums...))
	t.scales = append(t.scales, v.den)
}

// goal returns the row of the program's goal.
func (t *tableau) goal() int { return len(t.basic) }

// firstGoal returns the row of the goal of the first phase: no shortfall.
func (t *tableau) firstGoal() int { return len(t.basic) + 1 }

func (t *tableau) last(r int) api.Int { return t.cells[r][len(t.rest)] }

// enter is the first phase: it goes to a state in which no unknown is negative, and takes the
// shortfall out. If there is no such state it returns false, and the goal of the first phase proves it.
// A shortfall of 0 is among the columns: as the first unknown it leaves the rows when it becomes 0.
func (t *tableau) enter() bool {
	if r := t.deepest(); r >= 0 {
		t.pivot(r, 0)
		t.improve(t.firstGoal())
		if !isZero(t.last(t.firstGoal())) {
			return false
		}
	}
	t.cells = t.cells[:t.firstGoal()]
	t.dropColumn(slices.Index(t.rest, 0))
	return true
}

// deepest returns the row of the least value, or -1 if no value is negative.
func (t *tableau) deepest() int {
	least := -1
	for r := range t.basic {
		if signOf(t.last(r)) < 0 && (least < 0 || CmpInt(t.last(r), t.last(least)) < 0) {
			least = r
		}
	}
	return least
}

func (t *tableau) dropColumn(c int) {
	for r, row := range t.cells {
		t.cells[r] = slices.Delete(row, c, c+1)
	}
	t.rest = slices.Delete(t.rest, c, c+1)
}

// patience is the number of steps without gain after which the columns are chosen by Bland's rule,
// which never comes back to a state.
const patience = 500

// improve makes a goal as large as possible and returns -1, or the column that makes it grow without bound.
func (t *tableau) improve(goal int) int {
	idle := 0
	for {
		c := t.steepest(goal)
		if idle > patience {
			c = t.firstGain(goal)
		}
		if c < 0 {
			return -1
		}
		r := t.tightest(c)
		if r < 0 {
			return c
		}
		idle++
		if !isZero(t.last(r)) {
			idle = 0
		}
		t.pivot(r, c)
	}
}

// steepest returns the column of the largest gain for the goal, or -1 if there is no gain.
func (t *tableau) steepest(goal int) int {
	best := -1
	row := t.cells[goal]
	for c := range t.rest {
		if signOf(row[c]) < 0 && (best < 0 || CmpInt(row[c], row[best]) < 0) {
			best = c
		}
	}
	return best
}

// firstGain returns the column of the first unknown with a gain for the goal, or -1.
func (t *tableau) firstGain(goal int) int {
	best := -1
	for c, unknown := range t.rest {
		if signOf(t.cells[goal][c]) < 0 && (best < 0 || unknown < t.rest[best]) {
			best = c
		}
	}
	return best
}

// tightest returns the row that is the first to become 0 when the unknown of column c grows (that of
// the first unknown, if there are several), or -1 if there is none.
func (t *tableau) tightest(c int) int {
	best := -1
	for r := range t.basic {
		if signOf(t.cells[r][c]) > 0 && (best < 0 || t.isTighter(r, best, c)) {
			best = r
		}
	}
	return best
}

// isTighter reports whether row r comes before row s when the unknown of column c grows.
func (t *tableau) isTighter(r, s, c int) bool {
	order := CmpInt(Prod(t.last(r), t.cells[s][c]), Prod(t.last(s), t.cells[r][c]))
	return order < 0 || order == 0 && t.basic[r] < t.basic[s]
}

// pivot exchanges the unknowns of row r and column c, whose cell is not 0.
func (t *tableau) pivot(r, c int) {
	pivotRow := t.cells[r]
	p := pivotRow[c]
	for i, row := range t.cells {
		if i == r {
			continue
		}
		factor := row[c]
		for j := range row {
			if j != c {
				row[j] = cross(p, row[j], factor, pivotRow[j], t.den)
			}
		}
		row[c] = opposite(factor)
	}
	pivotRow[c] = t.den
	t.den = p
	if signOf(p) < 0 {
		t.changeSigns()
	}
	t.basic[r], t.rest[c] = t.rest[c], t.basic[r]
}

// changeSigns makes den positive.
func (t *tableau) changeSigns() {
	t.den = opposite(t.den)
	for _, row := range t.cells {
		for j := range row {
			row[j] = opposite(row[j])
		}
	}
}

// corner returns the values of the program's unknowns.
func (t *tableau) corner() []api.Rat {
	x := zeros(t.n)
	for r, unknown := range t.basic {
		if unknown >= 1 && unknown <= t.n {
			x[unknown-1] = fraction(t.last(r), t.den)
		}
	}
	return x
}

// ray returns how the program's unknowns change when the unknown of column c grows by 1.
func (t *tableau) ray(c int) []api.Rat {
	x := zeros(t.n)
	if t.rest[c] <= t.n {
		x[t.rest[c]-1] = Whole(1)
	}
	for r, unknown := range t.basic {
		if unknown <= t.n {
			x[unknown-1] = fraction(opposite(t.cells[r][c]), t.den)
		}
	}
	return x
}

// prices returns what the slacks cost the goal, for the rows as they were before they were multiplied.
func (t *tableau) prices(goal int) []api.Rat {
	y := zeros(t.goal())
	for c, unknown := range t.rest {
		if i := unknown - t.n - 1; i >= 0 {
			y[i] = fraction(Prod(t.cells[goal][c], t.scales[i]), t.scaledDen())
		}
	}
	return y
}

// value returns the value of the program's goal.
func (t *tableau) value() api.Rat { return fraction(t.last(t.goal()), t.scaledDen()) }

func (t *tableau) scaledDen() api.Int { return Prod(t.den, t.scales[t.goal()]) }
