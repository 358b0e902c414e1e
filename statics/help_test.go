package statics_test

import (
	"fmt"
	"math/big"
	"math/rand"
	"slices"
	"testing"

	"putlog/api"
	"putlog/statics"
)

// The tests call the exported functions only. They compare with the chapter's definitions, written down
// with math/big, on frames with few nodes; equations are solved step by step by the echelon form.

// bigInt is the value of x.
func bigInt(x api.Int) *big.Int {
	out := new(big.Int)
	for i := len(x.Limbs) - 1; i >= 0; i-- {
		out.Lsh(out, 32)
		out.Or(out, big.NewInt(int64(x.Limbs[i])))
	}
	if x.Neg {
		out.Neg(out)
	}
	return out
}

// intOf is the normal form of x.
func intOf(x *big.Int) api.Int {
	out := api.Int{Neg: x.Sign() < 0}
	for rest := new(big.Int).Abs(x); rest.Sign() > 0; rest.Rsh(rest, 32) {
		out.Limbs = append(out.Limbs, uint32(rest.Uint64()))
	}
	return out
}

// value is the value of x.
func value(x api.Rat) *big.Rat {
	den := bigInt(x.Den)
	if den.Sign() == 0 {
		den = big.NewInt(1)
	}
	return new(big.Rat).SetFrac(bigInt(x.Num), den)
}

func values(l []api.Rat) []*big.Rat {
	out := []*big.Rat{}
	for _, x := range l {
		out = append(out, value(x))
	}
	return out
}

// ratOf is the normal form of x.
func ratOf(x *big.Rat) api.Rat { return api.Rat{Num: intOf(x.Num()), Den: intOf(x.Denom())} }

func ratsOf(l []*big.Rat) []api.Rat {
	out := []api.Rat{}
	for _, x := range l {
		out = append(out, ratOf(x))
	}
	return out
}

// r is the fraction a/b, in normal form.
func r(a, b int64) api.Rat { return ratOf(big.NewRat(a, b)) }

// list is a list of small integers.
func list(l ...int64) []api.Rat {
	out := []api.Rat{}
	for _, n := range l {
		out = append(out, r(n, 1))
	}
	return out
}

// odd is the fraction a/b in another form: both times a number, with zeros at the end of the limbs.
func odd(d *rand.Rand, a, b int64) api.Rat {
	k := int64(1 + d.Intn(3))
	if d.Intn(2) == 0 {
		k = -k
	}
	x := api.Rat{Num: intOf(big.NewInt(k * a)), Den: intOf(big.NewInt(k * b))}
	if b == 1 && d.Intn(3) == 0 {
		x = api.Rat{Num: intOf(big.NewInt(a)), Den: api.Int{Neg: true, Limbs: []uint32{0}}}
	}
	x.Num.Limbs = append(x.Num.Limbs, 0)
	x.Den.Limbs = append(x.Den.Limbs, 0, 0)
	return x
}

// oddly is a list with the same values in other forms.
func oddly(d *rand.Rand, l []api.Rat) []api.Rat {
	out := []api.Rat{}
	for _, x := range l {
		k := api.Int{Limbs: []uint32{0, uint32(1 + d.Intn(9)), 0}, Neg: d.Intn(2) == 0}
		y := value(x)
		num, den := new(big.Int).Mul(y.Num(), bigInt(k)), new(big.Int).Mul(y.Denom(), bigInt(k))
		out = append(out, api.Rat{Num: intOf(num), Den: intOf(den)})
	}
	return out
}

// changed is a list with another value at a place.
func changed(d *rand.Rand, l []api.Rat) []api.Rat {
	out := append([]api.Rat{}, l...)
	i := d.Intn(len(out))
	by := big.NewRat(int64(1-2*d.Intn(2)), int64(1+d.Intn(1000)))
	out[i] = ratOf(by.Add(by, value(out[i])))
	return out
}

// same compares two values by their texts, in which a nil slice is as an empty one.
func same(a, b any) bool { return fmt.Sprint(a) == fmt.Sprint(b) }

// want compares what a call returns with what it should.
func want(t *testing.T, what string, got any, e api.Errno, right any, f api.Errno) {
	t.Helper()
	if !same(got, right) || e != f {
		t.Errorf("%s: %v, error %d; want %v, error %d", what, got, e, right, f)
	}
}

func wantError(t *testing.T, what string, e, right api.Errno) {
	t.Helper()
	if e != right {
		t.Errorf("%s: error %d, want %d", what, e, right)
	}
}

// dice is a repeatable row of chances.
func dice() *rand.Rand { return rand.New(rand.NewSource(7)) }

func node(x, y, z int) api.Node { return api.Node{X: x, Y: y, Z: z} }

func bar(a, b int) api.Bar { return api.Bar{A: a, B: b, Flex: r(1, 1)} }

func rigid(node, axis int) api.Support { return api.Support{Node: node, Axis: axis, Flex: r(0, 1)} }

func load(node, x, y, z int) api.Load { return api.Load{Node: node, X: x, Y: y, Z: z} }

func loads(l ...api.Load) []api.Load { return l }

func limit(low, high api.Rat) api.Range { return api.Range{Low: low, High: high} }

// theBracket is the frame of the chapter's examples.
func theBracket() api.Frame {
	return api.Frame{
		Nodes:    []api.Node{node(0, 0, 0), node(0, 0, 4), node(3, 0, 0)},
		Bars:     []api.Bar{bar(0, 2), bar(1, 2)},
		Supports: []api.Support{rigid(0, 0), rigid(0, 1), rigid(0, 2), rigid(1, 0), rigid(1, 1), rigid(1, 2), rigid(2, 1)},
	}
}

// theLoad is the load of the chapter's examples: 12 newtons downwards at the node 2.
func theLoad() []api.Load { return loads(load(2, 0, 0, -12)) }

// theLimits are the limits of the chapter's examples.
func theLimits() []api.Range {
	return []api.Range{limit(r(-1, 1), r(2, 1)), limit(r(-2, 1), r(2, 1))}
}

// withoutSupport is a frame without one of its supports.
func withoutSupport(f api.Frame, i int) api.Frame {
	f.Supports = append(append([]api.Support{}, f.Supports[:i]...), f.Supports[i+1:]...)
	return f
}

// someFlex is a small positive fraction, in normal form or not.
func someFlex(d *rand.Rand) api.Rat {
	a, b := int64(1+d.Intn(4)), int64(1+d.Intn(3))
	if d.Intn(2) == 0 {
		return odd(d, a, b)
	}
	return r(a, b)
}

// someFrame is a frame of at most so many nodes.
func someFrame(d *rand.Rand, most int) api.Frame {
	f := api.Frame{}
	size := 1 + d.Intn(3)
	for range d.Intn(most) + 1 {
		n := node(d.Intn(2*size+1)-size, d.Intn(2*size+1)-size, d.Intn(2*size+1)-size)
		if !slices.Contains(f.Nodes, n) {
			f.Nodes = append(f.Nodes, n)
		}
	}
	chance := 1 + d.Intn(10)
	for a := range f.Nodes {
		for b := range a {
			if d.Intn(10) < chance {
				f.Bars = append(f.Bars, api.Bar{A: a, B: b, Flex: someFlex(d)})
			}
		}
	}
	d.Shuffle(len(f.Bars), func(i, j int) { f.Bars[i], f.Bars[j] = f.Bars[j], f.Bars[i] })
	f.Supports = someSupports(d, len(f.Nodes))
	return f
}

func someSupports(d *rand.Rand, nodes int) []api.Support {
	out := []api.Support{}
	springs, chance := d.Intn(4), d.Intn(8)
	for _, i := range d.Perm(3 * nodes) {
		if d.Intn(8) >= chance {
			continue
		}
		s := rigid(i/3, i%3)
		if d.Intn(5) < springs {
			s.Flex = someFlex(d)
		}
		out = append(out, s)
	}
	return out
}

// firmFrame is a frame of at most so many nodes that is firm.
func firmFrame(d *rand.Rand, most int) api.Frame {
	for {
		if f := someFrame(d, most); len(kernelOf(turned(matrixOf(f), elements(f)), places(f))) == 0 {
			return f
		}
	}
}

// someLoads are at most so many loads of a frame.
func someLoads(d *rand.Rand, f api.Frame, most int) []api.Load {
	out := []api.Load{}
	for range d.Intn(most + 1) {
		l := load(d.Intn(len(f.Nodes)), d.Intn(7)-3, d.Intn(7)-3, d.Intn(7)-3)
		if d.Intn(3) == 0 {
			l.X, l.Y = 0, 0
		}
		out = append(out, l)
	}
	return out
}

// carriedLoads are loads that a frame carries: what is left of forces that are whole numbers.
func carriedLoads(d *rand.Rand, f api.Frame) []api.Load {
	x := []*big.Rat{}
	for range elements(f) {
		x = append(x, big.NewRat(int64(d.Intn(5)-2), 1))
	}
	p := scale(times(matrixOf(f), x), big.NewRat(-1, 1))
	out := []api.Load{}
	for n := range f.Nodes {
		of := func(k int) int { return int(p[3*n+k].Num().Int64()) }
		out = append(out, load(n, of(0), of(1), of(2)))
	}
	return out
}

func elements(f api.Frame) int { return len(f.Bars) + len(f.Supports) }

func places(f api.Frame) int { return 3 * len(f.Nodes) }

// coordinates are those of a node, in the order of the axes.
func coordinates(n api.Node) [3]int { return [3]int{n.X, n.Y, n.Z} }

// matrixOf is the matrix of a frame, by its definition.
func matrixOf(f api.Frame) [][]*big.Rat {
	m := [][]*big.Rat{}
	for n := range f.Nodes {
		for k := range 3 {
			row := []*big.Rat{}
			for _, b := range f.Bars {
				d := int64(coordinates(f.Nodes[b.B])[k] - coordinates(f.Nodes[b.A])[k])
				switch n {
				case b.A:
					row = append(row, big.NewRat(d, 1))
				case b.B:
					row = append(row, big.NewRat(-d, 1))
				default:
					row = append(row, new(big.Rat))
				}
			}
			for _, s := range f.Supports {
				if s.Node == n && s.Axis == k {
					row = append(row, big.NewRat(1, 1))
				} else {
					row = append(row, new(big.Rat))
				}
			}
			m = append(m, row)
		}
	}
	return m
}

// vectorOf is the load vector, by its definition.
func vectorOf(f api.Frame, l []api.Load) []*big.Rat {
	p := []*big.Rat{}
	for n := range f.Nodes {
		sum := [3]int{}
		for _, load := range l {
			if load.Node == n {
				sum[0], sum[1], sum[2] = sum[0]+load.X, sum[1]+load.Y, sum[2]+load.Z
			}
		}
		for _, x := range sum {
			p = append(p, big.NewRat(int64(x), 1))
		}
	}
	return p
}

// flexes are the flexibilities of the elements.
func flexes(f api.Frame) []*big.Rat {
	out := []*big.Rat{}
	for _, b := range f.Bars {
		out = append(out, value(b.Flex))
	}
	for _, s := range f.Supports {
		out = append(out, value(s.Flex))
	}
	return out
}

// lengtheningOf is the lengthening of a bar by a motion.
func lengtheningOf(f api.Frame, b api.Bar, u []*big.Rat) *big.Rat {
	sum := new(big.Rat)
	from, to := coordinates(f.Nodes[b.A]), coordinates(f.Nodes[b.B])
	for k := range 3 {
		by := new(big.Rat).Sub(u[3*b.B+k], u[3*b.A+k])
		sum.Add(sum, by.Mul(by, big.NewRat(int64(to[k]-from[k]), 1)))
	}
	return sum
}

func dot(l, k []*big.Rat) *big.Rat {
	sum := new(big.Rat)
	for i, x := range l {
		sum.Add(sum, new(big.Rat).Mul(x, k[i]))
	}
	return sum
}

func scale(l []*big.Rat, by *big.Rat) []*big.Rat {
	out := []*big.Rat{}
	for _, x := range l {
		out = append(out, new(big.Rat).Mul(x, by))
	}
	return out
}

func plus(l, k []*big.Rat) []*big.Rat {
	out := []*big.Rat{}
	for i, x := range l {
		out = append(out, new(big.Rat).Add(x, k[i]))
	}
	return out
}

// times is a matrix times a list.
func times(m [][]*big.Rat, x []*big.Rat) []*big.Rat {
	out := []*big.Rat{}
	for _, row := range m {
		out = append(out, dot(row, x))
	}
	return out
}

// turned is the transposed matrix of a matrix with n columns.
func turned(m [][]*big.Rat, n int) [][]*big.Rat {
	out := make([][]*big.Rat, n)
	for j := range out {
		for _, row := range m {
			out[j] = append(out[j], row[j])
		}
	}
	return out
}

// reduced is the echelon form of a matrix with n columns, and its pivots.
func reduced(m [][]*big.Rat, n int) (rows [][]*big.Rat, pivots []int) {
	for _, row := range m {
		rows = append(rows, append([]*big.Rat{}, row...))
	}
	for c := range n {
		r := len(pivots)
		at := r
		for at < len(rows) && rows[at][c].Sign() == 0 {
			at++
		}
		if at == len(rows) {
			continue
		}
		rows[r], rows[at] = rows[at], rows[r]
		rows[r] = scale(rows[r], new(big.Rat).Inv(rows[r][c]))
		for i := range rows {
			if i != r && rows[i][c].Sign() != 0 {
				rows[i] = plus(rows[i], scale(rows[r], new(big.Rat).Neg(rows[i][c])))
			}
		}
		pivots = append(pivots, c)
	}
	return rows, pivots
}

// kernelOf is the kernel basis of a matrix with n columns.
func kernelOf(m [][]*big.Rat, n int) [][]*big.Rat {
	rows, pivots := reduced(m, n)
	basis := [][]*big.Rat{}
	for free := range n {
		if slices.Contains(pivots, free) {
			continue
		}
		x := zeros(n)
		x[free] = big.NewRat(1, 1)
		for i, c := range pivots {
			x[c] = new(big.Rat).Neg(rows[i][free])
		}
		basis = append(basis, x)
	}
	return basis
}

// solutionOf is the basic solution of equations with n unknowns, or nil.
func solutionOf(m [][]*big.Rat, b []*big.Rat, n int) []*big.Rat {
	joined := [][]*big.Rat{}
	for i, row := range m {
		joined = append(joined, append(append([]*big.Rat{}, row...), b[i]))
	}
	rows, pivots := reduced(joined, n+1)
	x := zeros(n)
	for i, c := range pivots {
		if c == n {
			return nil
		}
		x[c] = rows[i][n]
	}
	return x
}

// forcesOf is the forces of a frame under loads, by their definition, or nil.
func forcesOf(f api.Frame, l []api.Load) []*big.Rat {
	n := elements(f)
	m := matrixOf(f)
	b := scale(vectorOf(f, l), big.NewRat(-1, 1))
	for _, s := range kernelOf(m, n) {
		row := []*big.Rat{}
		for i, flex := range flexes(f) {
			row = append(row, new(big.Rat).Mul(flex, s[i]))
		}
		m, b = append(m, row), append(b, new(big.Rat))
	}
	return solutionOf(m, b, n)
}

func zeros(n int) []*big.Rat {
	out := []*big.Rat{}
	for range n {
		out = append(out, new(big.Rat))
	}
	return out
}

func areZero(l []*big.Rat) bool {
	for _, x := range l {
		if x.Sign() != 0 {
			return false
		}
	}
	return true
}

// isBalanced tells whether forces are in equilibrium with a load vector.
func isBalanced(f api.Frame, x, p []*big.Rat) bool {
	return len(x) == elements(f) && areZero(plus(times(matrixOf(f), x), p))
}

// isFree tells whether a motion is free.
func isFree(f api.Frame, u []*big.Rat) bool {
	return len(u) == places(f) && areZero(times(turned(matrixOf(f), elements(f)), u))
}

// bigFrame has the most nodes, bars and supports.
func bigFrame(d *rand.Rand, size int) api.Frame {
	f := api.Frame{}
	for len(f.Nodes) < api.MaxJoints {
		if n := node(d.Intn(size), d.Intn(size), d.Intn(size)); !slices.Contains(f.Nodes, n) {
			f.Nodes = append(f.Nodes, n)
		}
	}
	seen := map[[2]int]bool{}
	for len(f.Bars) < api.MaxBars {
		a, b := d.Intn(api.MaxJoints), d.Intn(api.MaxJoints)
		if a == b || seen[[2]int{min(a, b), max(a, b)}] {
			continue
		}
		seen[[2]int{min(a, b), max(a, b)}] = true
		f.Bars = append(f.Bars, api.Bar{A: a, B: b, Flex: someFlex(d)})
	}
	for i := range api.MaxSupports {
		f.Supports = append(f.Supports, api.Support{Node: i / 3, Axis: i % 3, Flex: someFlex(d)})
	}
	return f
}

// wantValid checks that a frame is one.
func wantValid(t *testing.T, f api.Frame) {
	t.Helper()
	if e := statics.Check(f); e != api.OK {
		t.Fatalf("Check(%v): error %d", f, e)
	}
}
