package building_test

import (
	"math"
	"strings"
	"testing"

	"putlog/api"
	"putlog/building"
)

// A flaw makes a building wrong.
type flaw struct {
	what string
	make func(*api.Building)
	e    api.Errno
}

// openings is a flaw of openings.
func openings(what string, e api.Errno, l ...api.Opening) flaw {
	return flaw{what, func(b *api.Building) { b.Openings = l }, e}
}

// boxes is a flaw of boxes.
func boxes(what string, e api.Errno, l ...api.Box) flaw {
	return flaw{what, func(b *api.Building) { b.Boxes = l }, e}
}

// upper is a flaw of the second storey.
func upper(what string, floor int, l []api.Point, e api.Errno) flaw {
	return flaw{what, func(b *api.Building) { b.Storeys[1] = api.Storey{Floor: floor, Outline: l} }, e}
}

// flaws are those of the hut, in the order of P2.4: of two of them that change different parts, the earlier counts.
func flaws() []flaw {
	const far = api.MaxPoint
	named := func(s string) flaw {
		return flaw{"the name " + s, func(b *api.Building) { b.Name = s }, api.ErrName}
	}
	roof := func(n int) flaw {
		return flaw{"the roof", func(b *api.Building) { b.Roof = n }, api.ErrRange}
	}
	floor := func(n int) flaw {
		return flaw{"the lowest floor", func(b *api.Building) { b.Storeys[0].Floor = n }, api.ErrOrder}
	}
	return []flaw{
		named(""), named("1a"), named("-a"), named("a b"), named("a_b"), named("abcdefghijklm"), named("h\xfct"), named("a\n"), named("a\x00"), named("hü"),
		{"no storeys", func(b *api.Building) { b.Storeys = nil }, api.ErrShape},
		{"21 storeys", func(b *api.Building) { b.Storeys = make([]api.Storey, 21) }, api.ErrShape},
		openings("101 openings", api.ErrShape, make([]api.Opening, 101)...),
		boxes("51 boxes", api.ErrShape, make([]api.Box, 51)...),
		{"no outline", func(b *api.Building) { b.Storeys[0].Outline = nil }, api.ErrShape},
		{"a clockwise outline", func(b *api.Building) { b.Storeys[0].Outline = reversed(theL()) }, api.ErrOrder},
		floor(1), floor(-1), floor(math.MinInt), floor(math.MaxInt),
		upper("a clockwise upper outline", 3000, reversed(theL()), api.ErrOrder),
		upper("an upper outline of nothing", 0, nil, api.ErrShape),
		upper("an upper floor at the lowest", 0, rectangle(9, 9, 9999, 9999), api.ErrOrder),
		upper("an upper floor below", -1, theL(), api.ErrOrder),
		upper("an upper floor far below", math.MinInt, theL(), api.ErrOrder),
		upper("an upper floor too high", far+1, rectangle(9, 9, 9999, 9999), api.ErrOrder),
		upper("an upper floor at the greatest int", math.MaxInt, theL(), api.ErrOrder),
		upper("an upper floor at the limit, below no roof", far, rectangle(1, 1, 2, 2), api.ErrRange),
		upper("an upper region that is greater", 3000, rectangle(0, 0, 4000, 4000), api.ErrClash),
		upper("an upper region one beyond", 3000, rectangle(0, 0, 2001, 4000), api.ErrClash),
		upper("an upper region elsewhere", 3000, rectangle(2000, 2000, 4000, 4000), api.ErrClash),
		roof(3000), roof(2999), roof(far + 1), roof(math.MinInt), roof(math.MaxInt), roof(0),
		openings("a storey -1", api.ErrMissing, opening(-1, 0, 0, 1, 0, 1)),
		openings("a storey 2", api.ErrMissing, opening(2, 0, 1, 0, 1, 0)),
		openings("the greatest storey", api.ErrMissing, opening(math.MaxInt, 0, 0, 1, 0, 1)),
		openings("the wall -1", api.ErrMissing, opening(0, -1, 1, 0, 0, 1)),
		openings("the wall 6", api.ErrMissing, opening(0, 6, 0, 1, 0, 1)),
		openings("the wall 4 of the upper storey", api.ErrMissing, opening(1, 4, 0, 1, 0, 1)),
		openings("the least wall", api.ErrMissing, opening(1, math.MinInt, 0, 1, 0, 1)),
		openings("From -1", api.ErrRange, opening(0, 0, -1, 1, 0, 1)),
		openings("From at To", api.ErrRange, opening(0, 0, 1, 1, 0, 1)),
		openings("From behind To", api.ErrRange, opening(0, 0, 2, 1, 0, 1)),
		openings("To beyond the wall", api.ErrRange, opening(0, 1, 0, 2001, 0, 1)),
		openings("To at the greatest int", api.ErrRange, opening(0, 1, 0, math.MaxInt, 0, 1)),
		openings("From at the least int", api.ErrRange, opening(0, 1, math.MinInt, 1, 0, 1)),
		openings("Bottom -1", api.ErrRange, opening(0, 0, 0, 1, -1, 1)),
		openings("Bottom at Top", api.ErrRange, opening(0, 0, 0, 1, 1, 1)),
		openings("Bottom above Top", api.ErrRange, opening(0, 0, 0, 1, 2, 1)),
		openings("Top above the storey", api.ErrRange, opening(0, 0, 0, 1, 0, 3001)),
		openings("Top above the roof", api.ErrRange, opening(1, 0, 0, 1, 0, 3001)),
		openings("Top at the greatest int", api.ErrRange, opening(1, 0, 0, 1, 0, math.MaxInt)),
		openings("Bottom at the least int", api.ErrRange, opening(1, 0, 0, 1, math.MinInt, 1)),
		openings("the same twice", api.ErrClash, opening(1, 0, 0, 1, 0, 1), opening(1, 0, 0, 1, 0, 1)),
		openings("an inside in common", api.ErrClash, opening(0, 0, 5, 9, 5, 9), opening(0, 1, 5, 9, 5, 9), opening(0, 0, 8, 12, 8, 12)),
		openings("a clash, then nothing", api.ErrClash, opening(0, 0, 0, 9, 0, 9), opening(0, 0, 8, 9, 0, 3), opening(9, 0, 0, 0, 0, 0)),
		openings("a wrong one, then a clash", api.ErrMissing, opening(0, 0, 0, 9, 0, 9), opening(0, 9, 8, 9, 0, 3), opening(0, 0, 0, 9, 0, 9)),
		boxes("a box without inside", api.ErrForm, box(0, 0, 0, 0, 0, 0)),
		boxes("a box out of range", api.ErrRange, box(0, 0, 0, 0, 0, far+1)),
		boxes("a box in the body", api.ErrClash, box(0, 0, 0, 1, 1, 1)),
		boxes("a box round the body", api.ErrClash, box(-9, -9, -9, 9999, 9999, 9999)),
		boxes("a box through the body", api.ErrClash, box(-9, 100, 100, 9999, 200, 200)),
		boxes("a box in the upper storey", api.ErrClash, box(1999, 3999, 5999, 3000, 5000, 9999)),
		boxes("a box on the roof of the lower storey, one too deep", api.ErrClash, box(3000, 0, 2999, 3001, 1, 3001)),
		boxes("a good box, then two wrong ones", api.ErrClash, box(-9, 0, 0, 0, 9, 9), box(0, 0, 0, 1, 1, 1), api.Box{}),
	}
}

// P2.4: the errors of buildings, also of all functions with one; of two of them the first one.
func TestCheck(t *testing.T) {
	list := flaws()
	for i, f := range list {
		b := theHut()
		f.make(&b)
		wantError(t, f.what, building.Check(b), f.e)
		wantErrorOfAll(t, b, f.e)
		for _, g := range list[:i] {
			b := theHut()
			f.make(&b)
			g.make(&b)
			wantError(t, f.what+", and "+g.what, building.Check(b), g.e)
		}
	}
}

// wantErrorOfAll checks the error of a building of the functions with one, with wrong arguments beside it.
func wantErrorOfAll(t *testing.T, b api.Building, right api.Errno) {
	t.Helper()
	n, e := building.Top(b, -1)
	want(t, "Top", n, e, 0, right)
	n, e = building.Volume(b)
	want(t, "Volume", n, e, 0, right)
	is, e := building.Blocks(b, api.Box{})
	want(t, "Blocks", is, e, false, right)
	n, e = building.Forbidden(b, api.Box{})
	want(t, "Forbidden", n, e, 0, right)
	n, e = building.Depth(b, -1, -1, -1)
	want(t, "Depth", n, e, 0, right)
	w, e := building.Windows(b, -1)
	want(t, "Windows", w, e, []api.Window{}, right)
	n, e = building.OpeningAt(b, api.Node{X: math.MaxInt})
	want(t, "OpeningAt", n, e, 0, right)
	c, e := building.Move(b, math.MaxInt, 0)
	want(t, "Move", c, e, api.Building{}, right)
	c, e = building.Turn(b)
	want(t, "Turn", c, e, api.Building{}, right)
	s, e := building.Print(b)
	want(t, "Print", s, e, "", right)
}

// P2.4: what Check accepts.
func TestCheckAccepts(t *testing.T) {
	for _, f := range []flaw{
		{what: "the hut", make: func(b *api.Building) {}},
		{what: "a name of 12", make: func(b *api.Building) { b.Name = "Zz-09azAZ--9" }},
		{what: "a name of one letter", make: func(b *api.Building) { b.Name = "z" }},
		{what: "the highest roof", make: func(b *api.Building) { b.Roof = api.MaxPoint }},
		{what: "the lowest roof", make: func(b *api.Building) { b.Roof = 3001 }},
		{what: "one storey", make: func(b *api.Building) { b.Storeys = b.Storeys[:1] }},
		upper("the same outline from another corner", 1, append(theL()[1:], theL()[0]), api.OK),
		upper("a small upper outline", 5999, rectangle(1999, 1999, 2000, 2000), api.OK),
		openings("openings that touch", api.OK, opening(0, 0, 5, 9, 5, 9), opening(0, 0, 9, 12, 5, 9), opening(0, 0, 5, 9, 9, 12), opening(0, 0, 9, 12, 9, 12)),
		openings("openings of other sides and storeys", api.OK, opening(0, 0, 5, 9, 5, 9), opening(0, 1, 5, 9, 5, 9), opening(1, 0, 5, 9, 5, 9)),
		openings("whole walls", api.OK, opening(0, 0, 0, 4000, 0, 3000), opening(1, 3, 0, 4000, 0, 3000), opening(0, 2, 0, 2000, 0, 3000)),
		boxes("boxes that touch the body", api.OK, box(-9, 0, 0, 0, 9, 9), box(0, 0, 6000, 9, 9, 6001), box(0, 0, -1, 9, 9, 0),
			box(2000, 2000, 0, 4000, 4000, 9999), box(2000, 0, 3000, 4000, 4000, 9999)),
		boxes("boxes that overlap", api.OK, box(-9, 0, 0, 0, 9, 9), box(-9, 0, 0, 0, 9, 9)),
	} {
		b := theHut()
		f.make(&b)
		wantError(t, f.what, building.Check(b), api.OK)
	}
	wantError(t, "the greatest building", building.Check(greatest()), api.OK)
}

// greatest is a building with as many parts as may be.
func greatest() api.Building {
	b := api.Building{Name: "abcdefghijkl", Roof: 20000}
	for i := range api.MaxStoreys {
		b.Storeys = append(b.Storeys, api.Storey{Floor: 1000 * i, Outline: comb(10)})
	}
	for i := range api.MaxOpenings {
		b.Openings = append(b.Openings, opening(19, 0, 10*i, 10*i+10, 0, 1000))
	}
	for i := range api.MaxBoxes {
		b.Boxes = append(b.Boxes, box(-100-i, -100, -100, 9999, 0, 99999))
	}
	return b
}

// P2.4: one part more than may be.
func TestCheckTooMany(t *testing.T) {
	b := greatest()
	b.Roof, b.Storeys = 30000, append(b.Storeys, api.Storey{Floor: 20000, Outline: comb(10)})
	wantError(t, "21 storeys", building.Check(b), api.ErrShape)
	b = greatest()
	b.Openings = append(b.Openings, opening(0, 0, 0, 1, 0, 1))
	wantError(t, "101 openings", building.Check(b), api.ErrShape)
	b = greatest()
	b.Boxes = append(b.Boxes, b.Boxes[0])
	wantError(t, "51 boxes", building.Check(b), api.ErrShape)
	b = greatest()
	b.Name = strings.Repeat("x", 13)
	wantError(t, "13 letters", building.Check(b), api.ErrName)
}

// P2.4: towers are accepted, and not with a box or an opening that clashes.
func TestCheckTowers(t *testing.T) {
	d := dice()
	found := map[api.Errno]int{}
	for range 1000 {
		w := someTower(d)
		b := w.building
		wantError(t, "a tower", building.Check(b), api.OK)
		x := someBox(d, 9)
		right := map[bool]api.Errno{true: api.ErrClash, false: api.OK}[w.holds(x)]
		b.Boxes = append(b.Boxes, x)
		wantError(t, "a tower with a box more", building.Check(b), right)
		found[right]++
		b = w.building
		o := someOpening(d, b)
		right = api.OK
		if o.From == o.To || o.Bottom == o.Top {
			right = api.ErrRange
		} else if clashes(b.Openings, o) {
			right = api.ErrClash
		}
		b.Openings = append(b.Openings, o)
		wantError(t, "a tower with an opening more", building.Check(b), right)
	}
	if found[api.OK] < 100 || found[api.ErrClash] < 100 {
		t.Errorf("errors found: %v", found)
	}
}

// P2.4: Top and Volume: the chapter's example, missing storeys, and the greatest volume.
func TestTopAndVolume(t *testing.T) {
	const far = api.MaxPoint
	b := theHut()
	for i, right := range []int{3000, 6000} {
		top, e := building.Top(b, i)
		want(t, "Top", top, e, right, api.OK)
	}
	for _, i := range []int{-1, 2, 20, math.MinInt, math.MaxInt} {
		top, e := building.Top(b, i)
		want(t, "Top of no storey", top, e, 0, api.ErrMissing)
	}
	volume, e := building.Volume(b)
	want(t, "Volume", volume, e, 60000000000, api.OK)
	great := api.Building{Name: "g", Roof: far, Storeys: []api.Storey{{Outline: rectangle(-far, -far, far, far)}}}
	volume, e = building.Volume(great)
	want(t, "the greatest volume", volume, e, 4*far*far*far, api.OK)
}

// P2.4: Top and Volume of towers.
func TestTopAndVolumeOfTowers(t *testing.T) {
	d := dice()
	for range 200 {
		w := someTower(d)
		sum := 0
		for i, s := range w.building.Storeys {
			top, e := building.Top(w.building, i)
			want(t, "Top", top, e, w.top(i), api.OK)
			sum += w.shapes[i].area() * (w.top(i) - s.Floor)
		}
		volume, e := building.Volume(w.building)
		want(t, "Volume", volume, e, sum, api.OK)
	}
}
