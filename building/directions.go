package building

import "putlog/api"

// The directions, counterclockwise.
const (
	east = iota
	north
	west
	south
	turns // how many directions there are
)

// noDirection is the direction of a side that is slanting or has no length.
const noDirection = -1

// direction returns the direction of the way from p to q.
func direction(p, q api.Point) int {
	switch {
	case p.Y == q.Y && p.X < q.X:
		return east
	case p.X == q.X && p.Y < q.Y:
		return north
	case p.Y == q.Y && p.X > q.X:
		return west
	case p.X == q.X && p.Y > q.Y:
		return south
	}
	return noDirection
}

// leftOf returns the direction that lies to the left of another.
func leftOf(dir int) int { return (dir + 1) % turns }

// rightOf returns the direction that lies to the right of another.
func rightOf(dir int) int { return (dir + turns - 1) % turns }

// shifted returns the point at the distance d from p.
func shifted(p api.Point, dir, d int) api.Point {
	switch dir {
	case east:
		p.X += d
	case north:
		p.Y += d
	case west:
		p.X -= d
	default:
		p.Y -= d
	}
	return p
}

// measure returns how far p lies along the wall from its beginning, and how far to its left.
func measure(w api.Wall, p api.Point) (along, left int) {
	x, y := p.X-w.From.X, p.Y-w.From.Y
	switch w.Dir {
	case east:
		return x, y
	case north:
		return y, -x
	case west:
		return -x, -y
	}
	return -y, x
}

// inRange reports whether all numbers may be coordinates.
func inRange(numbers ...int) bool {
	for _, n := range numbers {
		if n < -api.MaxPoint || n > api.MaxPoint {
			return false
		}
	}
	return true
}

// placeError is the error of a place in the plan.
func placeError(p api.Point) api.Errno {
	if !inRange(p.X, p.Y) {
		return api.ErrRange
	}
	return api.OK
}

// nodeError is the error of a place in space.
func nodeError(p api.Node) api.Errno {
	if !inRange(p.X, p.Y, p.Z) {
		return api.ErrRange
	}
	return api.OK
}
