package cell_test

import (
	"slices"
	"testing"

	"collet/api"
	"collet/cell"
	"collet/plane"
	"collet/ratio"
)

// checkWrong complains unless Check returns the error, and all other functions nothing.
func checkWrong(t *testing.T, c []api.Plane, want api.Errno) {
	t.Helper()
	if got := cell.Check(c); got != want {
		t.Errorf("Check of %d planes, %v: %d instead of %d", len(c), c[:min(len(c), 50)], got, want)
	}
	lo, hi, ok := cell.Bound(c)
	if len(cell.Points(c)) > 0 || cell.Full(c) || len(cell.Lean(c)) > 0 || lo != vec(0, 0, 0) || hi != vec(0, 0, 0) || ok {
		t.Errorf("of %v, which has an error: Points %v, Full %v, Lean %v, Bound %v, %v, %v", c[:min(len(c), 50)], cell.Points(c), cell.Full(c), cell.Lean(c), lo, hi, ok)
	}
	for _, v := range []api.Vec{vec(0, 0, 0), vec(1, 1, 1), vec(-24, 0, 24)} {
		if cell.Has(c, v) {
			t.Errorf("Has of %v, which has an error, and %v: true", c[:min(len(c), 50)], v)
		}
	}
	for _, d := range [][]api.Plane{nil, unit(), c} {
		if !cell.Apart(c, d) || !cell.Apart(d, c) {
			t.Errorf("Apart of %v, which has an error, and %v: false", c[:min(len(c), 50)], d[:min(len(d), 50)])
		}
		if cell.Within(c, d) || cell.Within(d, c) {
			t.Errorf("Within of %v, which has an error, and %v: true", c[:min(len(c), 50)], d[:min(len(d), 50)])
		}
	}
}

func TestCheckOfValidCells(t *testing.T) { // P9.1
	for _, c := range slices.Concat(solids(), flats(), thin(), many()) {
		if e := cell.Check(c); e != api.OK {
			t.Errorf("Check of %v: %d", c, e)
		}
	}
	for _, c := range [][]api.Plane{nil, {}, make([]api.Plane, 0, 100), {half(4608, -4608, 4607, 1<<21)}, {half(-4608, 4607, 4608, -1<<21)}, slices.Repeat([]api.Plane{half(1, 0, 0, -1<<21)}, 48)} {
		if e := cell.Check(c); e != api.OK {
			t.Errorf("Check of %v: %d", c, e)
		}
	}
}

func TestCheckOfWrongCells(t *testing.T) { // P9.1, and what the others return for these cells
	for _, c := range wrong() {
		want := api.ErrPlane
		if len(c) > 48 {
			want = api.ErrMany // before ErrPlane
		}
		checkWrong(t, c, want)
	}
	checkWrong(t, with(unit(), half(2, 2, 2, 1)), api.ErrPlane)
	full := ball(48, 9, source(10))
	for k := range full {
		c := slices.Clone(full)
		c[k] = half(2, 0, 0, 9)
		checkWrong(t, c, api.ErrPlane)
	}
	checkWrong(t, with(full, full...), api.ErrMany)
	checkWrong(t, with(full, full[0]), api.ErrMany) // also if it occurs twice
}

// whole returns points with W 1.
func whole(l ...int) []api.Point {
	var out []api.Point
	for c := range slices.Chunk(l, 3) {
		out = append(out, point(c[0], c[1], c[2], 1))
	}
	return out
}

func TestPointsOfExamples(t *testing.T) { // P9.2
	cube := whole(1, 1, 1, 1, 1, 0, 1, 0, 1, 1, 0, 0, 0, 1, 1, 0, 1, 0, 0, 0, 1, 0, 0, 0)
	block := whole(24, 24, 24, 24, 24, -24, 24, -24, 24, 24, -24, -24, -24, 24, 24, -24, 24, -24, -24, -24, 24, -24, -24, -24)
	for _, x := range []struct {
		c    []api.Plane
		want []api.Point
	}{
		{unit(), cube}, {with(unit(), half(2, 2, 2, 1)), nil}, {corner(), []api.Point{point(0, 0, 0, 1), point(0, 0, 1, 4), point(0, 1, 0, 3), point(1, 0, 0, 2)}},
		{nil, block}, {[]api.Plane{}, block}, {workspace(), block}, {with(unit(), workspace()...), cube}, {with(unit(), unit()...), cube}, {with(unit(), half(1, 0, 0, 2), half(1, 1, 1, 3), half(1, 0, 0, 1<<21)), cube},
		{box(vec(-24, -24, -24), vec(30, 24, 24)), whole(-24, 24, 24, -24, 24, -24, -24, -24, 24, -24, -24, -24, 24, 24, 24, 24, 24, -24, 24, -24, 24, 24, -24, -24)}, // X 30 is outside, so the plane of the workspace comes in, at the end
		{with([]api.Plane{half(1, 1, 1, 3)}, unit()...), append(cube[:1:1], whole(1, 1, 0, 1, 0, 1, 1, 0, 0, 0, 1, 1, 0, 1, 0, 0, 0, 1, 0, 0, 0)...)},
		{with([]api.Plane{half(1, 1, 1, 1)}, unit()...), whole(1, 0, 0, 0, 1, 0, 0, 0, 1, 0, 0, 0)},
		{with(unit(), half(-1, 0, 0, -1)), cube[:4]}, {with(unit(), half(1, 1, 1, 0)), cube[7:]}, {with(unit(), half(1, 1, 1, -1)), nil}, {with(unit(), half(-1, -1, 0, -2)), cube[:2]}, {box(vec(1, 2, 3), vec(1, 2, 3)), whole(1, 2, 3)}, {[]api.Plane{half(1, 1, 1, -72)}, whole(-24, -24, -24)}, {[]api.Plane{half(1, 1, 1, -73)}, nil}, {[]api.Plane{half(0, 1, 0, -25)}, nil},
		{[]api.Plane{half(3, 0, 1, 2), half(-3, 0, 1, 2), half(0, 3, 1, 2), half(0, -3, 1, 2), half(0, 0, -1, 1)}, []api.Point{point(0, 0, 2, 1), point(1, 1, -1, 1), point(1, -1, -1, 1), point(-1, 1, -1, 1), point(-1, -1, -1, 1)}},
		{[]api.Plane{half(7, 0, 0, -3), half(0, -5, 0, 1), half(0, 0, 6, 4), half(-1, 0, 0, 1), half(0, 1, 0, 0), half(0, 0, -1, 0)}, nil}, // planes that are not primitive
		{[]api.Plane{half(7, 1, 0, -3), half(-1, 0, 0, 1), half(0, 1, 0, 0), half(0, -1, 0, 0), half(0, 0, 1, 0), half(0, 0, -1, 0)}, []api.Point{point(-3, 0, 0, 7), point(-1, 0, 0, 1)}},
	} {
		if got := cell.Points(x.c); !slices.Equal(got, x.want) {
			t.Errorf("Points of %v: %v instead of %v", x.c, got, x.want)
		}
	}
}

// checkPoints complains unless Points of a valid cell is as it must be.
func checkPoints(t *testing.T, c []api.Plane) {
	t.Helper()
	if got, want := cell.Points(c), wantedPoints(c); !slices.Equal(got, want) {
		t.Errorf("Points of %v: %v instead of %v", c, got, want)
	}
}

func TestPointsOfCells(t *testing.T) { // P9.2
	cells(11, 2500, 7, func(c []api.Plane) { checkPoints(t, c) })
	r := source(12)
	for range 150 {
		checkPoints(t, someCell(r, 20))
	}
	for _, c := range many() {
		checkPoints(t, c)
	}
}

func TestPointsInAnotherOrder(t *testing.T) { // P9.2
	r := source(13)
	cells(14, 600, 9, func(c []api.Plane) {
		other := slices.Clone(c)
		for len(other) < 10 && len(c) > 0 && r.IntN(3) > 0 {
			p := c[r.IntN(len(c))]
			p.B = min(p.B+r.IntN(2), 1<<21)
			other = append(other, p)
		}
		r.Shuffle(len(other), func(i, k int) { other[i], other[k] = other[k], other[i] })
		if len(other) > 30 {
			return
		}
		checkPoints(t, other)
		if got, want := sorted(cell.Points(other)), sorted(cell.Points(c)); !slices.Equal(got, want) {
			t.Errorf("Points of %v: %v, but of %v, which are the same: %v", other, got, c, want)
		}
	})
}

func TestFullOfExamples(t *testing.T) { // P9.3
	if cell.Full(with(unit(), half(-1, 0, 0, -1))) || !cell.Full(nil) || !cell.Full([]api.Plane{}) || !cell.Full(unit()) {
		t.Error("Full of the examples")
	}
	for _, c := range slices.Concat(solids(), many()) {
		if !cell.Full(c) {
			t.Errorf("Full of %v: false", c)
		}
	}
	for _, c := range flats() {
		if cell.Full(c) {
			t.Errorf("Full of %v: true", c)
		}
	}
}

func TestFullOfCells(t *testing.T) { // P9.3
	counts := map[bool]int{}
	check := func(c []api.Plane) {
		want := leavesBall(t, c)
		if got := cell.Full(c); got != want {
			t.Errorf("Full of %v: %v instead of %v", c, got, want)
		}
		counts[want]++
	}
	cells(15, 2000, 10, check)
	r := source(16)
	for range 100 {
		check(someCell(r, 42))
	}
	if counts[true] < 700 || counts[false] < 250 {
		t.Errorf("cells by what they are: %v", counts)
	}
}

func TestHas(t *testing.T) { // P9.3
	r := source(17)
	counts := map[bool]int{}
	cells(18, 2000, 12, func(c []api.Plane) {
		points := []api.Vec{vec(0, 0, 0), near(r, 2), near(r, 24), near(r, 24), near(r, 26), vec(24, -24, 24)}
		for _, v := range cell.Points(c) {
			points = append(points, plane.Add(vec(v.X/v.W, v.Y/v.W, v.Z/v.W), near(r, 1)), vec(v.X/v.W, v.Y/v.W, v.Z/v.W))
		}
		for _, v := range points {
			want := isInAll(with(c, workspace()...), point(v.X, v.Y, v.Z, 1))
			if got := cell.Has(c, v); got != want {
				t.Errorf("Has of %v and %v: %v instead of %v", c, v, got, want)
			}
			counts[want]++
		}
	})
	if counts[true] < 5000 || counts[false] < 5000 {
		t.Errorf("points by where they are: %v", counts)
	}
}

func TestHasOfExamples(t *testing.T) { // P9.3
	for _, x := range []struct {
		c    []api.Plane
		v    api.Vec
		want bool
	}{
		{unit(), vec(1, 1, 1), true}, {unit(), vec(0, 1, 0), true}, {unit(), vec(2, 0, 0), false}, {unit(), vec(0, -1, 0), false}, {corner(), vec(0, 0, 0), true}, {corner(), vec(0, 0, 1), false}, {box(vec(1, 2, 3), vec(1, 2, 3)), vec(1, 2, 3), true}, {box(vec(1, 2, 3), vec(1, 2, 3)), vec(1, 2, 4), false},
		{nil, vec(24, -24, 24), true}, {nil, vec(25, 0, 0), false}, {nil, vec(0, -25, 0), false}, {nil, vec(0, 0, 25), false}, {box(vec(-30, -30, -30), vec(30, 30, 30)), vec(25, 0, 0), false}, {[]api.Plane{half(1, 0, 0, -1)}, vec(minInt, 0, 0), false}, {[]api.Plane{half(4, 1, 0, 9)}, vec(1<<62, 0, 0), false}, {[]api.Plane{half(4608, 4607, 1, 1<<21)}, vec(maxInt, maxInt, maxInt), false},
		{with(unit(), half(-1, 0, 0, -1)), vec(1, 0, 1), true}, {with(unit(), half(2, 0, 0, 2)), vec(0, 0, 0), false},
	} {
		if got := cell.Has(x.c, x.v); got != x.want {
			t.Errorf("Has of %v and %v: %v", x.c, x.v, got)
		}
	}
}

func TestLeanOfExamples(t *testing.T) { // P9.4
	lean := []api.Plane{half(-1, 0, 0, 0), half(0, -1, 0, 0), half(0, 0, -1, 0), half(0, 0, 1, 1), half(0, 1, 0, 1), half(1, 0, 0, 1)}
	for _, x := range []struct{ c, want []api.Plane }{
		{with(unit(), half(1, 0, 0, 1), half(1, 1, 1, 3), half(1, 0, 0, 7)), lean}, {unit(), lean}, {slices.Repeat(unit(), 8), lean}, {with(unit(), workspace()...), lean}, {nil, nil}, {with(unit(), half(-1, 0, 0, -1)), nil}, {octahedron(0), nil}, {octahedron(-1), nil},
		{corner(), []api.Plane{half(-1, 0, 0, 0), half(0, -1, 0, 0), half(0, 0, -1, 0), half(2, 3, 4, 1)}},
		{workspace(), []api.Plane{half(-1, 0, 0, 24), half(0, -1, 0, 24), half(0, 0, -1, 24), half(0, 0, 1, 24), half(0, 1, 0, 24), half(1, 0, 0, 24)}},
		{[]api.Plane{half(1, 0, 0, 3)}, []api.Plane{half(1, 0, 0, 3)}}, {[]api.Plane{half(1, 0, 0, 24)}, []api.Plane{half(1, 0, 0, 24)}}, {[]api.Plane{half(1, 0, 0, 25)}, nil}, {[]api.Plane{half(1, 1, 0, 48)}, nil}, {[]api.Plane{half(1, 1, 0, 47)}, []api.Plane{half(1, 1, 0, 47)}}, {[]api.Plane{half(0, 0, 1, 24), half(0, 0, -1, 25), half(0, 1, 0, 5)}, []api.Plane{half(0, 0, 1, 24), half(0, 1, 0, 5)}},
		{with(unit(), half(1, 1, 0, 2), half(1, 1, 1, 2), half(-1, -1, 0, 0)), []api.Plane{half(-1, 0, 0, 0), half(0, -1, 0, 0), half(0, 0, -1, 0), half(0, 0, 1, 1), half(0, 1, 0, 1), half(1, 0, 0, 1), half(1, 1, 1, 2)}},
	} {
		if got := cell.Lean(x.c); !slices.Equal(got, x.want) {
			t.Errorf("Lean of %v: %v instead of %v", x.c, got, x.want)
		}
	}
}

// wantedLean returns what Lean is to return for a full cell.
func wantedLean(c []api.Plane) []api.Plane {
	vertices := wantedPoints(c)
	var out []api.Plane
	for _, p := range c {
		on := slices.DeleteFunc(slices.Clone(vertices), func(v api.Point) bool { return sideOf(p, v) != 0 })
		if len(on) >= 3 && !slices.Contains(out, p) {
			out = append(out, p)
		}
	}
	slices.SortFunc(out, func(p, q api.Plane) int {
		return slices.Compare([]int{p.N.X, p.N.Y, p.N.Z, p.B}, []int{q.N.X, q.N.Y, q.N.Z, q.B})
	})
	return out
}

func TestLeanOfCells(t *testing.T) { // P9.4
	left := 0
	check := func(c []api.Plane) {
		var want []api.Plane
		if leavesBall(t, c) {
			want = wantedLean(c)
		}
		if got := cell.Lean(c); !slices.Equal(got, want) {
			t.Errorf("Lean of %v: %v instead of %v", c, got, want)
		}
		left += len(c) - len(want)
	}
	cells(19, 800, 9, check)
	r := source(20)
	for range 60 {
		check(someCell(r, 30))
	}
	if left < 2000 {
		t.Errorf("only %d planes were left out", left)
	}
}

func TestLeanOfManyPlanes(t *testing.T) { // P9.4
	for _, c := range many() {
		if got, want := cell.Lean(c), wantedLean(c); !slices.Equal(got, want) {
			t.Errorf("Lean of %v: %v instead of %v", c, got, want)
		}
	}
}

// checkPair complains unless Apart and Within of two valid cells, in both orders, are as they must be; it returns this.
func checkPair(t *testing.T, a, b []api.Plane) (apart, within bool) {
	t.Helper()
	apart = !leavesBall(t, with(a, b...))
	if cell.Apart(a, b) != apart || cell.Apart(b, a) != apart {
		t.Errorf("Apart of %v and %v: %v, in the other order %v, instead of %v", a, b, cell.Apart(a, b), cell.Apart(b, a), apart)
	}
	within = leavesBall(t, a)
	for _, p := range b {
		within = within && ratio.Cmp(farthest(t, a, p.N), ratio.Int(p.B)) <= 0
	}
	if cell.Within(a, b) != within {
		t.Errorf("Within of %v and %v: %v instead of %v", a, b, cell.Within(a, b), within)
	}
	return apart, within
}

func TestApartAndWithinOfExamples(t *testing.T) { // P9.5
	for _, x := range []struct {
		a, b          []api.Plane
		apart, within bool
	}{
		{unit(), []api.Plane{half(-1, 0, 0, -1)}, true, false}, {unit(), []api.Plane{half(-1, -1, 0, -1)}, false, false}, {unit(), []api.Plane{half(1, 1, 1, 3)}, false, true}, {unit(), []api.Plane{half(1, 1, 1, 2)}, false, false},
		{unit(), unit(), false, true}, {unit(), nil, false, true}, {nil, unit(), false, false}, {nil, nil, false, true}, {nil, workspace(), false, true}, {workspace(), nil, false, true}, {nil, []api.Plane{half(1, 0, 0, 24)}, false, true}, {nil, []api.Plane{half(1, 0, 0, 23)}, false, false}, {nil, box(vec(-30, -25, -24), vec(24, 25, 30)), false, true}, {nil, []api.Plane{half(1, 1, 1, 72)}, false, true}, {nil, []api.Plane{half(1, 1, 1, 71)}, false, false},
		{unit(), box(vec(1, 0, 0), vec(2, 1, 1)), true, false}, {unit(), box(vec(1, 1, 0), vec(2, 2, 1)), true, false}, {unit(), box(vec(1, 1, 1), vec(2, 2, 2)), true, false}, {unit(), box(vec(3, 0, 0), vec(4, 1, 1)), true, false}, {unit(), box(vec(0, 0, 0), vec(2, 1, 1)), false, true}, {unit(), box(vec(-5, -1, -3), vec(2, 2, 1)), false, true},
		{corner(), unit(), false, true}, {unit(), corner(), false, false}, {corner(), []api.Plane{half(2, 3, 4, 1)}, false, true}, {corner(), []api.Plane{half(-2, -3, -4, -1)}, true, false}, {corner(), []api.Plane{half(3, 0, 1, 1)}, false, false}, {corner(), []api.Plane{half(2, 0, 1, 1)}, false, true},
		{box(vec(1, 2, 3), vec(1, 2, 3)), nil, true, false}, {box(vec(0, 0, 0), vec(1, 0, 1)), unit(), true, false}, {unit(), box(vec(0, 0, 0), vec(1, 0, 1)), true, false}, {octahedron(-1), octahedron(-1), true, false}, {octahedron(0), octahedron(0), true, false}, {unit(), octahedron(0), true, false}, {unit(), octahedron(-1), true, false},
		{box(vec(24, 0, 0), vec(30, 1, 1)), box(vec(24, 0, 0), vec(40, 1, 1)), true, false}, {box(vec(23, 0, 0), vec(30, 1, 1)), box(vec(23, 0, 0), vec(24, 1, 1)), false, true}, // outside of the workspace there is nothing
		{unit(), with(unit(), half(2, 2, 2, 7)), true, false}, {with(unit(), half(0, 0, 0, 0)), unit(), true, false}, {unit(), slices.Repeat(unit(), 9), true, false}, {slices.Repeat(unit(), 9), unit(), true, false},
		{[]api.Plane{half(4608, 4607, 4605, 0)}, []api.Plane{half(-4608, -4607, -4605, 0)}, true, false}, {[]api.Plane{half(4608, 4607, 4605, 0)}, []api.Plane{half(-4608, -4607, -4605, 1)}, false, false}, {[]api.Plane{half(4608, 4607, 4605, 0)}, []api.Plane{half(4608, 4607, 4605, 1)}, false, true}, {[]api.Plane{half(4608, 4607, 4605, 0)}, []api.Plane{half(4608, 4607, 4605, -1)}, false, false},
	} {
		if got := cell.Apart(x.a, x.b); got != x.apart {
			t.Errorf("Apart of %v and %v: %v", x.a, x.b, got)
		}
		if got := cell.Apart(x.b, x.a); got != x.apart {
			t.Errorf("Apart of %v and %v: %v", x.b, x.a, got)
		}
		if got := cell.Within(x.a, x.b); got != x.within {
			t.Errorf("Within of %v and %v: %v", x.a, x.b, got)
		}
	}
}

func TestApartAndWithinOfCells(t *testing.T) { // P9.5
	r := source(21)
	apart, within, neither := 0, 0, 0
	for range 1500 {
		a, b := someCell(r, 12), someCell(r, 6)
		if r.IntN(3) == 0 {
			b = with(b, a...)
		}
		if r.IntN(2) == 0 {
			a, b = b, a
		}
		switch x, y := checkPair(t, a, b); {
		case x:
			apart++
		case y:
			within++
		default:
			neither++
		}
	}
	if apart < 400 || within < 100 || neither < 100 {
		t.Errorf("%d pairs are apart, of %d one is within the other, and of %d neither", apart, within, neither)
	}
}

func TestApartAndWithinOfSolids(t *testing.T) { // P9.5
	all := slices.DeleteFunc(slices.Concat(solids()[:22], flats()[:12], thin()[:9]), func(c []api.Plane) bool { return len(c) > 21 && len(different(c)) > 12 })
	for i, a := range all {
		for _, b := range all[i:] {
			checkPair(t, a, b)
		}
	}
}

func TestApartOfManyPlanes(t *testing.T) { // P9.5
	for _, a := range many() {
		if cell.Apart(a, a) || !cell.Within(a, a) {
			t.Errorf("%v is apart from itself, or not within itself", a)
		}
		vertices := wantedPoints(a)
		for _, b := range many() {
			want := !slices.ContainsFunc(vertices, func(v api.Point) bool { return !isInAll(b, v) })
			if cell.Within(a, b) != want {
				t.Errorf("Within of %v and %v: %v", a, b, !want)
			}
		}
		for _, p := range cell.Lean(a) {
			if !cell.Apart(a, []api.Plane{plane.Flip(p)}) || cell.Apart(a, []api.Plane{{N: vec(-p.N.X, -p.N.Y, -p.N.Z), B: 1 - p.B}}) {
				t.Errorf("Apart of %v and what is above its facet %v, or a bit below it", a, p)
			}
		}
	}
	left, right := with(ball(47, 9, source(22)), half(1, 0, 0, 0)), with(ball(47, 9, source(23)), half(-1, 0, 0, 0))
	if !cell.Apart(left, right) || cell.Apart(left, with(right[:47:47], half(-1, 0, 0, 1))) {
		t.Error("Apart of two cells of 48 planes on both sides of X 0, or not quite")
	}
}

func TestBoundOfExamples(t *testing.T) { // P9.6
	for _, x := range []struct {
		c      []api.Plane
		lo, hi api.Vec
		ok     bool
	}{
		{corner(), vec(0, 0, 0), vec(1, 1, 1), true}, {unit(), vec(0, 0, 0), vec(1, 1, 1), true}, {nil, vec(-24, -24, -24), vec(24, 24, 24), true}, {box(vec(-7, -30, 5), vec(-6, 7, 30)), vec(-7, -24, 5), vec(-6, 7, 24), true}, {octahedron(5), vec(-5, -5, -5), vec(5, 5, 5), true},
		{[]api.Plane{half(2, 3, 4, 1), half(-1, 0, 0, 1), half(0, -1, 0, 1), half(0, 0, -1, 1)}, vec(-1, -1, -1), vec(4, 3, 2), true}, {[]api.Plane{half(-2, -3, -4, 1), half(1, 0, 0, 0), half(0, 1, 0, 0), half(0, 0, 1, 0)}, vec(-1, -1, -1), vec(0, 0, 0), true}, {[]api.Plane{half(-2, -3, -4, 11), half(1, 0, 0, 0), half(0, 1, 0, 0), half(0, 0, 1, -1)}, vec(-4, -3, -3), vec(0, 0, -1), true},
		{[]api.Plane{half(7, 1, 0, 0), half(-7, 1, 0, 0), half(0, -1, 0, 3), half(0, 0, 1, -2), half(0, 0, -1, 5)}, vec(-1, -3, -5), vec(1, 0, -2), true}, {[]api.Plane{half(7, 1, 0, 0), half(-7, -1, 0, 1), half(0, 1, 0, -1), half(0, -1, 0, 2), half(0, 0, 1, -2), half(0, 0, -1, 5)}, vec(0, -2, -5), vec(1, -1, -2), true},
		{with(unit(), half(-1, 0, 0, -1)), vec(0, 0, 0), vec(0, 0, 0), false}, {box(vec(1, 2, 3), vec(1, 2, 3)), vec(0, 0, 0), vec(0, 0, 0), false}, {octahedron(-1), vec(0, 0, 0), vec(0, 0, 0), false},
	} {
		if lo, hi, ok := cell.Bound(x.c); lo != x.lo || hi != x.hi || ok != x.ok {
			t.Errorf("Bound of %v: %v, %v, %v instead of %v, %v, %v", x.c, lo, hi, ok, x.lo, x.hi, x.ok)
		}
	}
}

// ends returns the corners of the least box with integer corners that has all points of a full cell.
func ends(t *testing.T, c []api.Plane) (api.Vec, api.Vec) {
	t.Helper()
	var l []int
	for _, n := range []api.Vec{vec(-1, 0, 0), vec(0, -1, 0), vec(0, 0, -1), vec(1, 0, 0), vec(0, 1, 0), vec(0, 0, 1)} {
		up, _ := ratio.Ceil(farthest(t, c, n))
		l = append(l, up)
	}
	return vec(-l[0], -l[1], -l[2]), vec(l[3], l[4], l[5])
}

func TestBoundOfCells(t *testing.T) { // P9.6
	counts := map[bool]int{}
	cells(24, 1200, 12, func(c []api.Plane) {
		var a, b api.Vec
		want := leavesBall(t, c)
		if want {
			a, b = ends(t, c)
		}
		if lo, hi, ok := cell.Bound(c); lo != a || hi != b || ok != want {
			t.Errorf("Bound of %v: %v, %v, %v instead of %v, %v, %v", c, lo, hi, ok, a, b, want)
		}
		counts[want]++
	})
	if counts[true] < 400 || counts[false] < 200 {
		t.Errorf("cells by what they are: %v", counts)
	}
}
