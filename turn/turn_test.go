package turn_test

import (
	"slices"
	"testing"

	"collet/api"
	"collet/turn"
)

// checkValid complains unless Valid returns just this.
func checkValid(t *testing.T, u api.Turn, want bool) {
	t.Helper()
	if got := turn.Valid(u); got != want {
		t.Errorf("Valid of %v: %v", u, got)
	}
}

func TestValidOfExamples(t *testing.T) { // P11.1
	checkValid(t, one(), true)
	checkValid(t, quarter(), true)
	checkValid(t, fifths(), true)
	checkValid(t, over(25, rows{{-7, -24, 0}, {24, -7, 0}, {0, 0, 25}}), true)
	checkValid(t, over(3, rows{{2, -1, 2}, {2, 2, -1}, {-1, 2, 2}}), true)
	checkValid(t, over(2, quarter().M), false)
	checkValid(t, over(2, rows{{0, -2, 0}, {2, 0, 0}, {0, 0, 2}}), false)
	checkValid(t, api.Turn{}, false)
	for _, u := range wrongTurns() {
		checkValid(t, u, false)
	}
}

func TestValidOfSmallMatrices(t *testing.T) { // P11.1
	for n := range 19683 {
		var m rows
		for k := range 9 {
			m[k/3][k%3] = n%3 - 1
			n /= 3
		}
		for d := -1; d <= 3; d++ {
			u := over(d, m)
			if got := turn.Valid(u); got != isTurn(u) {
				t.Fatalf("Valid of %v: %v", u, got)
			}
		}
	}
}

// ofLength returns the vectors of integers with the length d.
func ofLength(d int) [][3]int {
	var out [][3]int
	for x := -d; x <= d; x++ {
		for y := -d; y <= d; y++ {
			for z := -d; z <= d; z++ {
				if x*x+y*y+z*z == d*d {
					out = append(out, [3]int{x, y, z})
				}
			}
		}
	}
	return out
}

// orthogonal calls f with the matrices of d that have orthogonal rows of the length d, with their determinant's sign.
func orthogonal(d int, f func(m rows, sign int)) {
	l := ofLength(d)
	for _, a := range l {
		for _, b := range l {
			if a[0]*b[0]+a[1]*b[1]+a[2]*b[2] != 0 {
				continue
			}
			c := [3]int{a[1]*b[2] - a[2]*b[1], a[2]*b[0] - a[0]*b[2], a[0]*b[1] - a[1]*b[0]}
			if c[0]%d == 0 && c[1]%d == 0 && c[2]%d == 0 {
				f(rows{a, b, {c[0] / d, c[1] / d, c[2] / d}}, 1)
				f(rows{a, b, {-c[0] / d, -c[1] / d, -c[2] / d}}, -1)
			}
		}
	}
}

func TestValidOfAllRotations(t *testing.T) { // P11.1: all matrices with orthogonal rows of one length, up to the denominator 28
	expected := map[api.Turn]bool{}
	for _, u := range validTurns(25) {
		expected[u] = true
	}
	reflections, doubled := 0, 0
	for d := 1; d <= 28; d++ {
		orthogonal(d, func(m rows, sign int) {
			u := over(d, m)
			if sign < 0 {
				reflections++
			} else if d <= 25 && !expected[u] {
				doubled++
			}
			checkValid(t, u, sign > 0 && expected[u])
			checkValid(t, over(-d, m), false)
		})
	}
	if len(expected) != 4920 || reflections < 4920 || doubled < 2000 {
		t.Errorf("%d rotations, %d reflections, and %d that are not in lowest terms", len(expected), reflections, doubled)
	}
}

func TestValidOfChangedTurns(t *testing.T) { // P11.1
	r := source(1)
	for range 4000 {
		u := someTurn(r)
		checkValid(t, u, true)
		for k := range 9 {
			for _, n := range []int{u.M[k/3][k%3] + 1, u.M[k/3][k%3] - 1, -u.M[k/3][k%3], 0, u.D, u.M[k/3][k%3] + 1<<32, u.M[k/3][k%3] + minInt, anyInt(r)} {
				w := changed(u, k/3, k%3, n)
				checkValid(t, w, isTurn(w))
			}
		}
		for _, d := range []int{0, -u.D, u.D + 1, u.D - 1, 2 * u.D, u.D + 1<<32, u.D + minInt, anyInt(r)} {
			w := over(d, u.M)
			checkValid(t, w, isTurn(w))
		}
		for _, c := range [][3]int{{1, 2, 0}, {2, 0, 1}, {1, 0, 2}, {0, 2, 1}, {2, 1, 0}, {0, 0, 2}, {0, 1, 1}, {2, 1, 2}} { // other orders of the rows; only cycles keep the determinant
			w := over(u.D, rows{u.M[c[0]], u.M[c[1]], u.M[c[2]]})
			checkValid(t, w, isTurn(w))
		}
	}
}

func TestAll(t *testing.T) { // P11.2
	var want []api.Turn
	for n := range 19683 { // by their elements, the first one in front
		var m rows
		for k := range 9 {
			m[2-k/3][2-k%3] = n%3 - 1
			n /= 3
		}
		if u := over(1, m); isTurn(u) {
			want = append(want, u)
		}
	}
	got := turn.All()
	if !slices.Equal(got, want) || len(got) != 24 {
		t.Errorf("All: %v", got)
	}
	if !slices.IsSortedFunc(got, compareRows) || got[0] != over(1, rows{{-1, 0, 0}, {0, -1, 0}, {0, 0, 1}}) || !slices.Contains(got, one()) || !slices.Contains(got, quarter()) {
		t.Errorf("All: %v", got)
	}
}

// checkApply complains unless Apply returns just this.
func checkApply(t *testing.T, f api.Frame, v, want api.Vec, wantOk bool) {
	t.Helper()
	if got, ok := turn.Apply(f, v); got != want || ok != wantOk {
		t.Errorf("Apply of %v and %v: %v, %v instead of %v, %v", f, v, got, ok, want, wantOk)
	}
}

func TestApplyOfExamples(t *testing.T) { // P11.3
	z, q := quarter(), fifths()
	for _, x := range []struct {
		f     api.Frame
		v, to api.Vec
		ok    bool
	}{
		{moved(z, 1, 2, 3), vec(4, 5, 6), vec(-4, 6, 9), true}, {moved(z, 0, 0, 0), vec(25, 0, 0), vec(0, 0, 0), false},
		{moved(q, 0, 0, 0), vec(5, 10, 2), vec(-5, 10, 2), true}, {moved(q, 0, 0, 0), vec(5, 9, 2), vec(0, 0, 0), false},
		{moved(one(), 0, 0, 0), vec(24, -24, 24), vec(24, -24, 24), true}, {moved(one(), 0, 0, 0), vec(0, 0, 0), vec(0, 0, 0), true},
		{moved(one(), 48, -48, 0), vec(-24, 24, 7), vec(24, -24, 7), true}, {moved(one(), 48, -48, 0), vec(-23, 24, 7), vec(0, 0, 0), false}, {moved(one(), 48, -48, 0), vec(-24, 23, 7), vec(0, 0, 0), false}, {moved(one(), 0, 0, 1), vec(0, 0, 24), vec(0, 0, 0), false}, {moved(one(), 0, 0, -1), vec(0, 0, -24), vec(0, 0, 0), false},
		{moved(one(), -1, 0, 0), vec(25, 0, 0), vec(0, 0, 0), false}, {moved(one(), 0, 1, 0), vec(0, -25, 0), vec(0, 0, 0), false}, {moved(one(), 0, 0, -2), vec(0, 0, 26), vec(0, 0, 0), false}, // the image would be in the workspace
		{moved(q, 0, 0, 0), vec(-5, 10, -24), vec(-11, 2, -24), true}, {moved(q, -24, 24, 24), vec(5, -5, 0), vec(-17, 25, 24), false}, {moved(q, -24, 20, 24), vec(5, -5, 0), vec(-17, 21, 24), true},
		{moved(q, 0, 0, 0), vec(4, 3, 1), vec(0, 5, 1), true}, {moved(q, 0, 0, 0), vec(3, 4, 1), vec(0, 0, 0), false}, {moved(q, 1, 1, 1), vec(1, 0, 0), vec(0, 0, 0), false},
	} {
		want := api.Vec{}
		if x.ok {
			want = x.to
		}
		checkApply(t, x.f, x.v, want, x.ok)
	}
}

func TestApply(t *testing.T) { // P11.3
	r := source(2)
	yes, no := 0, 0
	for range 40000 {
		f, v := someFrame(r), somePoint(r)
		want, ok := wantedPoint(f, v)
		checkApply(t, f, v, want, ok)
		if ok && f.Turn.D > 1 {
			yes++
		} else if !ok {
			no++
		}
	}
	if yes < 1000 || no < 1000 {
		t.Errorf("%d points were sent by frames that are no turns of All, and %d points were not sent", yes, no)
	}
}

func TestApplyAtTheEdges(t *testing.T) { // P11.3: the coordinates next to the limits, before and after
	ends := []int{-26, -25, -24, -23, 0, 23, 24, 25, 26}
	for _, u := range append(turn.All(), fifths(), validTurns(3)[30], validTurns(9)[300]) {
		for _, shift := range []api.Vec{{}, vec(1, -1, 2), vec(-48, 0, 48), vec(-1, 47, -49)} {
			f := api.Frame{Turn: u, Shift: shift}
			for k := range 729 {
				v := vec(ends[k%9], ends[k/9%9], ends[k/81])
				want, ok := wantedPoint(f, v)
				checkApply(t, f, v, want, ok)
			}
		}
	}
}

// checkPlane complains unless Plane returns just this.
func checkPlane(t *testing.T, f api.Frame, p, want api.Plane, wantOk bool) {
	t.Helper()
	if got, ok := turn.Plane(f, p); got != want || ok != wantOk {
		t.Errorf("Plane of %v and %v: %v, %v instead of %v, %v", f, p, got, ok, want, wantOk)
	}
}

func TestPlaneOfExamples(t *testing.T) { // P11.4
	z, q := moved(quarter(), 1, 2, 3), moved(fifths(), 0, 0, 0)
	checkPlane(t, z, half(1, 0, 0, 4), half(0, 1, 0, 6), true)
	checkPlane(t, q, half(1, 0, 0, 4), half(3, 4, 0, 20), true)
	checkPlane(t, q, half(1, 2, 0, 1), half(-1, 2, 0, 1), true)
	checkPlane(t, q, half(2, 0, 1, 3), half(6, 8, 5, 15), true)
	checkPlane(t, q, half(3, -4, 0, 5), half(1, 0, 0, 1), true) // g is 25, which divides D B, but not B
	checkPlane(t, q, half(3, -4, 0, 1), api.Plane{}, false)
	checkPlane(t, q, half(-3, 4, 0, -35), half(-1, 0, 0, -7), true)
	checkPlane(t, moved(fifths(), 2, 1, -1), half(-3, 4, 0, -35), half(-1, 0, 0, -9), true)
}

func TestPlane(t *testing.T) { // P11.4
	r := source(3)
	yes, no, shorter := 0, 0, 0
	for range 40000 {
		f := someFrame(r)
		p := somePlane(r, f.Turn)
		want, ok := wantedPlane(f, p)
		checkPlane(t, f, p, want, ok)
		switch {
		case !ok:
			no++
		case f.Turn.D > 1 && max(p.N.X, -p.N.X)+max(p.N.Y, -p.N.Y)+max(p.N.Z, -p.N.Z) > max(want.N.X, -want.N.X)+max(want.N.Y, -want.N.Y)+max(want.N.Z, -want.N.Z):
			shorter++
		case f.Turn.D > 1:
			yes++
		}
	}
	if yes < 1000 || no < 1000 || shorter < 1000 {
		t.Errorf("%d planes were sent with a g of at most D, %d with a greater one, and %d were not", yes, shorter, no)
	}
}

func TestPlaneAtTheLimits(t *testing.T) { // P11.4
	unit, top := one(), 1<<21
	checkPlane(t, moved(unit, 0, 0, 0), half(4608, -4607, 1, top), half(4608, -4607, 1, top), true)
	checkPlane(t, moved(unit, 1, 0, 0), half(1, 0, 0, top-1), half(1, 0, 0, top), true)
	checkPlane(t, moved(unit, 1, 0, 0), half(1, 0, 0, top), api.Plane{}, false)
	checkPlane(t, moved(unit, 0, 1, 0), half(0, -1, 0, 1-top), half(0, -1, 0, -top), true)
	checkPlane(t, moved(unit, 0, 1, 0), half(0, -1, 0, -top), api.Plane{}, false)
	checkPlane(t, moved(unit, 0, 0, -1), half(0, 0, 1, top+1), api.Plane{}, false) // the plane would be valid, but p is not
	checkPlane(t, moved(unit, 0, 0, 1), half(0, 0, 1, -top-1), api.Plane{}, false)
	checkPlane(t, moved(unit, 96, -96, 96), half(4608, -4607, 4601, 0), half(4608, -4607, 4601, 96*(4608+4607+4601)), true)
	checkPlane(t, moved(unit, -96, 96, 96), half(1, 2, 3, 4), half(1, 2, 3, 4+96*4), true)
	checkPlane(t, moved(unit, 97, 0, 0), half(1, 2, 3, 4), api.Plane{}, false)
	checkPlane(t, moved(unit, 0, 0, -97), half(1, 0, 0, 4), api.Plane{}, false)
	q := moved(fifths(), 0, 0, 0)
	checkPlane(t, q, half(0, 1, 921, 0), half(-4, 3, 4605, 0), true)
	checkPlane(t, q, half(0, 1, 922, 0), api.Plane{}, false) // 4610
	checkPlane(t, q, half(1, 0, 0, top/5), half(3, 4, 0, top/5*5), true)
	checkPlane(t, q, half(1, 0, 0, top/5+1), api.Plane{}, false)
	checkPlane(t, q, half(-1, 0, 0, -top/5-1), api.Plane{}, false)
	checkPlane(t, q, half(13828, -18429, 0, 0), api.Plane{}, false) // where (4608, 1, 0) would come from
	checkPlane(t, q, half(0, 0, 1, top), half(0, 0, 1, top), true)
}

func TestPlaneOfEnds(t *testing.T) { // P11.4: those with a normal of which one component is at the limit
	r := source(4)
	in, out := 0, 0
	for range 20000 {
		u := someTurn(r)
		to := near(r, 4610)
		to.X = (4607 + r.IntN(3)) * (1 - 2*r.IntN(2))
		v := motionOf(api.Frame{Turn: u}).back().of(rational(to))
		from, _ := primitive(v).integers(1 << 30)
		f, p := api.Frame{Turn: u, Shift: near(r, 96)}, api.Plane{N: from, B: u.D * (r.IntN(2001) - 1000)}
		want, ok := wantedPlane(f, p)
		checkPlane(t, f, p, want, ok)
		if ok {
			in++
		} else {
			out++
		}
	}
	if in < 500 || out < 500 {
		t.Errorf("%d planes were sent, and %d were not", in, out)
	}
}

func TestPlaneOfWrongPlanes(t *testing.T) { // P11.4
	for _, f := range []api.Frame{moved(one(), 0, 0, 0), moved(quarter(), 1, 2, 3), moved(fifths(), 0, 0, 0)} {
		for _, p := range []api.Plane{{}, half(0, 0, 0, 1), half(2, 0, 0, 2), half(6, -8, 0, 10), half(5, 0, 0, 1), half(3, 6, -9, 0), half(4609, 1, 0, 0), half(0, -4609, 1, 0), half(1, 1, 4609, 0), half(1, 0, 0, 1<<21+1), half(1, 0, 0, -1<<21-1), half(1, 0, 0, minInt), half(1, 0, 0, maxInt), half(minInt, 1, 0, 0), half(1, maxInt, 0, 0), half(1<<32, 1, 0, 0), half(1, 0, 1<<63/5+1, 0), half(minInt, minInt, minInt, minInt)} {
			checkPlane(t, f, p, api.Plane{}, false)
		}
	}
}

// checkCell complains unless Cell returns just this.
func checkCell(t *testing.T, f api.Frame, c, want []api.Plane, wantOk bool) {
	t.Helper()
	if got, ok := turn.Cell(f, c); !slices.Equal(got, want) || ok != wantOk {
		t.Errorf("Cell of %v and %d planes: %d planes, %v instead of %d, %v", f, len(c), len(got), ok, len(want), wantOk)
	}
}

func TestCell(t *testing.T) { // P11.5
	r := source(5)
	yes, no := 0, 0
	for range 8000 {
		f := someFrame(r)
		var c []api.Plane
		for range r.IntN(6) {
			p := somePlane(r, f.Turn)
			if _, ok := wantedPlane(f, p); ok || r.IntN(8) == 0 {
				c = append(c, p)
			}
		}
		want, ok := wantedCell(f, c)
		checkCell(t, f, c, want, ok)
		if ok && len(c) > 1 {
			yes++
		} else if !ok {
			no++
		}
	}
	if yes < 1000 || no < 500 {
		t.Errorf("%d cells were sent, and %d were not", yes, no)
	}
}

func TestCellOfAnyLength(t *testing.T) { // P11.5: in order, also if planes occur twice, and beyond the limit of a cell
	f := moved(fifths(), 1, 2, 3)
	var c []api.Plane
	for k := range 1000 {
		c = append(c, half(1, 2*(k%7), 1, k))
	}
	c = append(c, c[:5]...)
	for _, n := range []int{0, 1, 47, 48, 49, 1005} {
		want, _ := wantedCell(f, c[:n])
		checkCell(t, f, c[:n], want, true)
		for _, bad := range []api.Plane{{}, half(2, 0, 0, 1), half(3, -4, 0, 1)} { // the last one goes nowhere
			for _, k := range []int{0, n / 2, n} {
				checkCell(t, f, slices.Insert(slices.Clone(c[:n]), k, bad), nil, false)
			}
		}
	}
}

func TestCellOfNothing(t *testing.T) { // P11.5
	for _, u := range validTurns(9) {
		checkCell(t, api.Frame{Turn: u}, nil, nil, true)
		checkCell(t, moved(u, 96, -96, 0), []api.Plane{}, nil, true)
	}
	for _, f := range wrongFrames() {
		checkCell(t, f, nil, nil, false)
		checkCell(t, f, []api.Plane{}, nil, false)
	}
}

// checkBack complains unless Back returns just this.
func checkBack(t *testing.T, f, want api.Frame, wantOk bool) {
	t.Helper()
	if got, ok := turn.Back(f); got != want || ok != wantOk {
		t.Errorf("Back of %v: %v, %v instead of %v, %v", f, got, ok, want, wantOk)
	}
}

func TestBackOfExamples(t *testing.T) { // P11.6
	z, q := quarter(), fifths()
	zBack, qBack := over(1, rows{{0, 1, 0}, {-1, 0, 0}, {0, 0, 1}}), over(5, rows{{3, 4, 0}, {-4, 3, 0}, {0, 0, 5}})
	checkBack(t, moved(z, 1, 2, 3), moved(zBack, -2, 1, -3), true)
	checkBack(t, moved(one(), 96, -96, 0), moved(one(), -96, 96, 0), true)
	checkBack(t, moved(q, 0, 0, 0), moved(qBack, 0, 0, 0), true)
	checkBack(t, moved(q, 5, 10, 2), moved(qBack, -11, -2, -2), true)
	checkBack(t, moved(q, 3, 4, 2), moved(qBack, -5, 0, -2), true)
	checkBack(t, moved(q, 4, 3, 2), api.Frame{}, false) // no integers
	checkBack(t, moved(q, 1, 0, 0), api.Frame{}, false) // nor these
	checkBack(t, moved(q, 0, 0, 1), moved(qBack, 0, 0, -1), true)
	checkBack(t, moved(q, 60, 80, 0), api.Frame{}, false) // the shift would be -100
	checkBack(t, moved(q, 57, 76, 0), moved(qBack, -95, 0, 0), true)
	checkBack(t, moved(q, -57, -76, 1), moved(qBack, 95, 0, -1), true)
}

func TestBack(t *testing.T) { // P11.6
	r := source(6)
	yes, no := 0, 0
	for range 40000 {
		f := someFrame(r)
		want, ok := wantedBack(f)
		checkBack(t, f, want, ok)
		if ok && f.Turn.D > 1 && f.Shift != (api.Vec{}) {
			yes++
		} else if !ok {
			no++
		}
	}
	if yes < 1000 || no < 1000 {
		t.Errorf("%d frames were undone, and %d were not", yes, no)
	}
}

func TestBackAtTheLimits(t *testing.T) { // P11.6: shifts of 95 to 97, before and after
	r := source(7)
	in, out := 0, 0
	for in < 200 || out < 200 {
		u := someTurn(r)
		s := near(r, 97)
		s.X = (95 + r.IntN(3)) * (1 - 2*r.IntN(2))
		f := motionOf(api.Frame{Turn: u, Shift: s}).back() // of which the frame's Back has this shift
		shift, whole := f.origin.integers(97)
		if !whole {
			continue
		}
		back, _ := motionOf(api.Frame{Turn: u}).back().frame()
		back.Shift = shift
		want, ok := wantedBack(back)
		checkBack(t, back, want, ok)
		if ok {
			in++
		} else {
			out++
		}
	}
}

// checkAfter complains unless After returns just this.
func checkAfter(t *testing.T, f, g, want api.Frame, wantOk bool) {
	t.Helper()
	if got, ok := turn.After(f, g); got != want || ok != wantOk {
		t.Errorf("After of %v and %v: %v, %v instead of %v, %v", f, g, got, ok, want, wantOk)
	}
}

func TestAfterOfExamples(t *testing.T) { // P11.7
	z, q := quarter(), fifths()
	twice := over(25, rows{{-7, -24, 0}, {24, -7, 0}, {0, 0, 25}})
	checkAfter(t, moved(q, 0, 0, 0), moved(q, 0, 0, 0), moved(twice, 0, 0, 0), true)
	checkAfter(t, moved(q, 0, 0, 0), moved(twice, 0, 0, 0), api.Frame{}, false) // the denominator would be 125
	checkAfter(t, moved(twice, 0, 0, 0), moved(q, 0, 0, 0), api.Frame{}, false)
	checkAfter(t, moved(z, 1, 2, 3), moved(z, 0, 0, 0), moved(over(1, rows{{-1, 0, 0}, {0, -1, 0}, {0, 0, 1}}), -2, 1, 3), true)
	checkAfter(t, moved(z, 0, 0, 0), moved(z, 1, 2, 3), moved(over(1, rows{{-1, 0, 0}, {0, -1, 0}, {0, 0, 1}}), 1, 2, 3), true)
	checkAfter(t, moved(q, 1, 0, 0), moved(z, 0, 0, 0), moved(over(5, rows{{-4, -3, 0}, {3, -4, 0}, {0, 0, 5}}), 0, 1, 0), true)
	checkAfter(t, moved(z, 1, 0, 0), moved(q, 0, 0, 0), api.Frame{}, false) // the shift would be 3/5, 4/5
	checkAfter(t, moved(z, 4, 3, 0), moved(q, 1, 1, 1), moved(over(5, rows{{-4, -3, 0}, {3, -4, 0}, {0, 0, 5}}), 1, 6, 1), true)
	checkAfter(t, moved(one(), 48, 0, -90), moved(one(), 48, 0, -6), moved(one(), 96, 0, -96), true)
	checkAfter(t, moved(one(), 49, 0, 0), moved(one(), 48, 0, 0), api.Frame{}, false)
	checkAfter(t, moved(one(), 0, -96, 0), moved(one(), 0, -1, 0), api.Frame{}, false)
	checkAfter(t, moved(q, 0, 0, 0), moved(over(5, rows{{3, 4, 0}, {-4, 3, 0}, {0, 0, 5}}), 0, 0, 0), moved(one(), 0, 0, 0), true)                                                     // 25 / 25
	checkAfter(t, moved(q, 0, 0, 0), moved(over(3, rows{{2, -1, 2}, {2, 2, -1}, {-1, 2, 2}}), 0, 0, 0), moved(over(15, rows{{2, -11, 10}, {14, -2, -5}, {5, 10, 10}}), 0, 0, 0), true) // first q
	checkAfter(t, moved(over(3, rows{{2, -1, 2}, {2, 2, -1}, {-1, 2, 2}}), 0, 0, 0), moved(q, 0, 0, 0), moved(over(15, rows{{-2, -11, 10}, {14, 2, 5}, {-5, 10, 10}}), 0, 0, 0), true)
}

func TestAfter(t *testing.T) { // P11.7
	r := source(8)
	yes, no, lower := 0, 0, 0
	for range 30000 {
		f, g := someFrame(r), someFrame(r)
		switch r.IntN(4) {
		case 0: // such that the denominator becomes lower
			if back, ok := wantedBack(g); ok {
				f = back
				f.Shift = near(r, 96)
			}
		case 1: // such that the shift is of integers
			f.Shift = vec(f.Shift.X/g.Turn.D*g.Turn.D, f.Shift.Y/g.Turn.D*g.Turn.D, f.Shift.Z/g.Turn.D*g.Turn.D)
		}
		want, ok := wantedAfter(f, g)
		checkAfter(t, f, g, want, ok)
		switch {
		case !ok:
			no++
		case want.Turn.D < f.Turn.D*g.Turn.D:
			lower++
		case f.Turn.D > 1 && g.Turn.D > 1:
			yes++
		}
	}
	if yes < 500 || no < 1000 || lower < 1000 {
		t.Errorf("%d frames had another one after them, %d with a lower denominator, and %d did not", yes, lower, no)
	}
}

func TestAfterOfAllTurns(t *testing.T) { // P11.7: all pairs of small denominators, and those whose product is 15 to 27
	small := validTurns(3)
	var both [][2]api.Turn
	for _, s := range small {
		for _, u := range small {
			both = append(both, [2]api.Turn{s, u})
		}
		for _, u := range validTurns(9)[200:] {
			if (s.M[0][0]+u.M[1][1])%5 == 0 { // some of them
				both = append(both, [2]api.Turn{s, u}, [2]api.Turn{u, s})
			}
		}
	}
	for _, p := range both {
		f, g := api.Frame{Turn: p[0]}, api.Frame{Turn: p[1]}
		want, ok := wantedAfter(f, g)
		checkAfter(t, f, g, want, ok)
	}
}

func TestWrongFrames(t *testing.T) { // P11.3 to P11.7
	for _, f := range wrongFrames() {
		for _, v := range []api.Vec{{}, vec(1, 2, 3), vec(-24, 24, 0), vec(5, 10, 2)} {
			checkApply(t, f, v, api.Vec{}, false)
		}
		for _, p := range []api.Plane{half(1, 0, 0, 0), half(1, 2, 3, 4), half(3, -4, 0, 25), half(0, 0, -1, 1000)} {
			checkPlane(t, f, p, api.Plane{}, false)
			checkCell(t, f, []api.Plane{p}, nil, false)
		}
		checkBack(t, f, api.Frame{}, false)
		for _, g := range []api.Frame{moved(one(), 0, 0, 0), moved(quarter(), -1, -2, -3), moved(fifths(), 0, 0, 0), f} {
			checkAfter(t, f, g, api.Frame{}, false)
			checkAfter(t, g, f, api.Frame{}, false)
		}
	}
	for _, n := range []int{1, 90, 96} { // the shift would be within the limit
		for _, f := range []api.Frame{moved(one(), 97, 0, 0), moved(one(), 96+n, 0, 0)} {
			checkAfter(t, f, moved(one(), -n, 0, 0), api.Frame{}, false)
			checkAfter(t, moved(one(), -n, 0, 0), f, api.Frame{}, false)
		}
	}
	for _, d := range []int{27, 29} { // the denominator would be 1
		u := turns()[slices.IndexFunc(turns(), func(u api.Turn) bool { return u.D == d })]
		var back api.Turn
		back.D = d
		for k := range 9 {
			back.M[k/3][k%3] = u.M[k%3][k/3]
		}
		checkAfter(t, api.Frame{Turn: u}, api.Frame{Turn: back}, api.Frame{}, false)
	}
}
