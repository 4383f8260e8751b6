package sum_test

import (
	"slices"
	"testing"

	"collet/api"
	"collet/hull"
	"collet/sum"
)

func TestGrowAndShrinkExamples(t *testing.T) { // P12.1
	c := []api.Plane{half(1, 1, 1, 3), half(-1, 0, 0, 0)}
	if got, ok := sum.Grow(c, vec(1, 0, 2)); !ok || !slices.Equal(got, []api.Plane{half(1, 1, 1, 6), half(-1, 0, 0, 1)}) {
		t.Errorf("Grow: %v, %v", got, ok)
	}
	if got, ok := sum.Shrink(c, vec(1, 0, 2)); !ok || !slices.Equal(got, []api.Plane{half(1, 1, 1, 0), half(-1, 0, 0, -1)}) {
		t.Errorf("Shrink: %v, %v", got, ok)
	}
	for _, x := range []struct {
		c []api.Plane
		e api.Vec
	}{{c, vec(13, 0, 0)}, {c, vec(0, -1, 0)}, {[]api.Plane{half(1, 0, 0, 1<<21)}, vec(1, 0, 0)}} {
		if got, ok := sum.Grow(x.c, x.e); ok || len(got) > 0 {
			t.Errorf("Grow of %v by %v: %v, %v", x.c, x.e, got, ok)
		}
	}
	if got, ok := sum.Shrink([]api.Plane{half(1, 0, 0, 1<<21)}, vec(1, 0, 0)); !ok || !slices.Equal(got, []api.Plane{half(1, 0, 0, 1<<21-1)}) {
		t.Errorf("Shrink of the outermost plane: %v, %v", got, ok)
	}
}

func TestOnlyErrorBoundsPush(t *testing.T) { // P12.1
	ends := []int{0, 1, 5, 11, 12, 13, 14, 24, 4608, 1 << 31, 1 << 32, 1<<32 + 1, maxInt}
	for _, n := range ends[1:] {
		ends = append(ends, -n)
	}
	for _, e := range grid(append(ends, minInt)...) {
		for _, c := range [][]api.Plane{nil, {}, unit(), {half(1, -2, 3, 7)}, {half(0, 0, 1, 0), half(-3, 5, 0, 1)}} {
			if grows, shrinks := checkBoth(t, c, e); grows != isBound(e) || shrinks != isBound(e) {
				t.Fatalf("Grow and Shrink of %v by %v: %v, %v", c, e, grows, shrinks)
			}
		}
	}
}

func TestEachNormalAndErrorBound(t *testing.T) { // P12.1
	r := source(1)
	for _, n := range grid(-3, -2, -1, 0, 1, 2, 3) {
		for _, e := range grid(0, 1, 2, 12) {
			checkBoth(t, []api.Plane{{N: n, B: r.IntN(41) - 20}}, e) // false for normals that are not primitive
		}
	}
	for range 20000 {
		c := someCell(r, 14)
		grows, shrinks := checkBoth(t, c, someBound(r))
		if !grows || !shrinks {
			t.Errorf("Grow and Shrink of %v, whose planes are all far within their limits: %v, %v", c, grows, shrinks)
		}
	}
}

func TestPushedToTheLimits(t *testing.T) { // P12.1
	for _, n := range []api.Vec{vec(1, 0, 0), vec(0, -1, 0), vec(0, 0, 1), vec(1, -1, 1), vec(3, 4, -5), vec(4608, 4607, -4608), vec(-4608, 1, 0), vec(0, 0, -1)} {
		for _, e := range grid(0, 1, 7, 12) {
			by := max(n.X, -n.X)*e.X + max(n.Y, -n.Y)*e.Y + max(n.Z, -n.Z)*e.Z
			for more := -2; more <= 2; more++ {
				top, bottom := api.Plane{N: n, B: 1<<21 - by + more}, api.Plane{N: n, B: -1<<21 + by + more}
				for k := range 7 {
					if grows, _ := checkBoth(t, slices.Insert(unit(), k, top), e); grows != (more <= 0) {
						t.Errorf("Grow of %v by %v: %v", top, e, grows)
					}
					if _, shrinks := checkBoth(t, slices.Insert(unit(), k, bottom), e); shrinks != (more >= 0) {
						t.Errorf("Shrink of %v by %v: %v", bottom, e, shrinks)
					}
				}
			}
		}
	}
}

func TestPlanesThatAreNotValid(t *testing.T) { // P12.1
	for _, p := range []api.Plane{
		{}, half(0, 0, 0, 5), half(2, 0, 0, 1), half(2, -4, 6, 0), half(0, -3, 0, 3), half(4609, 1, 0, 0), half(1, -4609, 0, 0), half(1, 0, 4609, 0), half(1, 0, 0, 1<<21+1), half(1, 0, 0, -1<<21-1), half(1, 0, 0, maxInt), half(1, 0, 0, minInt), half(minInt, 0, 0, 0), half(minInt, 1, 0, minInt), half(1, maxInt, maxInt, maxInt), half(1<<62, 1<<62, 1<<62+1, 1<<62), half(1, 0, 1<<32, 0),
	} {
		for k := range 7 {
			c := slices.Insert(unit(), k, p)
			for _, e := range []api.Vec{vec(0, 0, 0), vec(1, 0, 0), vec(2, 2, 2), vec(12, 12, 12)} { // also where the pushed plane were valid
				if grows, shrinks := checkBoth(t, c, e); grows || shrinks {
					t.Errorf("Grow and Shrink of %v by %v: %v, %v", c, e, grows, shrinks)
				}
			}
		}
	}
}

func TestNoPlaneIsLeftOut(t *testing.T) { // P12.1
	r := source(2)
	long := slices.Repeat(unit(), 2000)
	for _, c := range [][]api.Plane{
		nil, {}, append(unit(), unit()...), append(unit(), half(1, 0, 0, 7), half(1, 1, 1, 3), half(1, 1, 1, 9)), append(unit(), half(-1, 0, 0, -1)), append(unit(), half(-1, 0, 0, -2), half(0, 0, 1, -100)), slices.Repeat(unit(), 9), {half(1, 0, 0, 5), half(1, 0, 0, 4), half(1, 0, 0, 5)}, {half(0, 0, 1, -300)}, long,
	} {
		for range 6 {
			e := someBound(r)
			checkBoth(t, c, e)
			for _, f := range []func([]api.Plane, api.Vec) ([]api.Plane, bool){sum.Grow, sum.Shrink} {
				got, ok := f(c, e)
				if !ok || len(got) != len(c) {
					t.Fatalf("%d planes became %d, %v", len(c), len(got), ok)
				}
				for k, p := range got {
					if p.N != c[k].N {
						t.Fatalf("the plane %d of %v became %v", k, c[k], p)
					}
				}
			}
		}
	}
}

func TestSumExamples(t *testing.T) { // P12.2
	for _, x := range []struct {
		a, b, want []api.Vec
		e          api.Errno
	}{
		{tetra(), vecs(0, 0, 0, 2, 0, 0), vecs(0, 0, 0, 0, 0, 1, 0, 1, 0, 2, 0, 1, 2, 1, 0, 3, 0, 0), api.OK}, {tetra(), nil, nil, api.ErrFlat}, {tetra(), vecs(24, 0, 0), nil, api.ErrRange},
		{tetra(), vecs(23, -24, 0), vecs(23, -24, 0, 23, -24, 1, 23, -23, 0, 24, -24, 0), api.OK}, {grid(0, 1), grid(0, 1), grid(0, 2), api.OK}, {tetra(), tetra(), vecs(0, 0, 0, 0, 0, 2, 0, 2, 0, 2, 0, 0), api.OK}, {vecs(0, 0, 0, 1, 0, 0, 0, 1, 0), vecs(0, 0, 0, 0, 0, 1), vecs(0, 0, 0, 0, 0, 1, 0, 1, 0, 0, 1, 1, 1, 0, 0, 1, 0, 1), api.OK},
		{tetra(), vecs(0, 0, 0, -1, -1, -1), vecs(-1, -1, -1, -1, -1, 0, -1, 0, -1, 0, -1, -1, 0, 0, 1, 0, 1, 0, 1, 0, 0), api.OK}, {nil, nil, nil, api.ErrFlat}, {vecs(0, 0, 0, 5, 0, 0), vecs(0, 0, 0, 0, 5, 0), nil, api.ErrFlat}, {vecs(0, 0, 0, 25, 0, 0), vecs(0, 0, 0), nil, api.ErrRange}, {nil, vecs(25, 0, 0), nil, api.ErrFlat},
	} {
		if got, e := sum.Sum(x.a, x.b); e != x.e || !slices.Equal(got, x.want) {
			t.Errorf("Sum of %v and %v: %v, %d", x.a, x.b, got, e)
		}
	}
}

func TestSum(t *testing.T) { // P12.2
	count := map[api.Errno]int{}
	listPairs(3, 6000, func(a, b []api.Vec) {
		_, e := checkSum(t, a, b)
		count[e]++
	})
	for _, e := range []api.Errno{api.OK, api.ErrMany, api.ErrRange, api.ErrFlat} {
		if count[e] < 100 {
			t.Errorf("only %d sums with the error %d", count[e], e)
		}
	}
}

func TestSumOfTooManyPoints(t *testing.T) { // P12.2
	repeated := slices.Repeat(tetra(), 12) // 48 points
	for _, l := range [][]api.Vec{repeated, slices.Repeat(vecs(25, 0, 0), 48), slices.Repeat(vecs(0, 0, 0), 48), make([]api.Vec, 100000)} {
		more := append(slices.Clone(l), vec(0, 0, 0))
		for _, other := range [][]api.Vec{nil, vecs(0, 0, 0), tetra(), repeated, vecs(maxInt, 25, 0), slices.Repeat(vecs(1, 1, 1), 49)} {
			if got, e := sum.Sum(more, other); e != api.ErrMany || len(got) > 0 {
				t.Errorf("Sum of %d points and %v: %v, %d", len(more), other, got, e)
			}
			if got, e := sum.Sum(other, more); e != api.ErrMany || len(got) > 0 {
				t.Errorf("Sum of %v and %d points: %v, %d", other, len(more), got, e)
			}
		}
	}
	if got, e := sum.Sum(repeated, repeated); e != api.OK || !slices.Equal(got, vecs(0, 0, 0, 0, 0, 2, 0, 2, 0, 2, 0, 0)) { // of 48 * 48 sums, of which ten are different
		t.Errorf("Sum of %v with itself: %v, %d", repeated, got, e)
	}
	if got, e := sum.Sum(slices.Repeat(vecs(20, 4, -20), 48), slices.Repeat(octahedron(4), 8)); e != api.OK || !slices.Equal(got, vecs(16, 4, -20, 20, 0, -20, 20, 4, -24, 20, 4, -16, 20, 8, -20, 24, 4, -20)) {
		t.Errorf("Sum of a point and an octahedron, 48 times each: %v, %d", got, e)
	}
}

func TestOnlyDifferentSumsCount(t *testing.T) { // P12.2
	line := row(24, vec(-12, 0, 0), vec(1, 0, 0))
	for _, x := range []struct {
		a, b []api.Vec
		want api.Errno
	}{
		{line, vecs(0, 0, 0, 0, 1, 0), api.ErrFlat},                                             // 48 different sums
		{append(slices.Clone(line), vec(0, 0, 5)), vecs(0, 0, 0, 0, 1, 0), api.ErrMany},         // 50
		{row(12, vec(0, 0, 0), vec(1, 0, 0)), vecs(0, 0, 0, 0, 1, 0, 0, 0, 1, 0, 1, 1), api.OK}, // 48
		{row(12, vec(13, 0, 0), vec(1, 0, 0)), vecs(0, 0, 0, 0, 1, 0, 0, 0, 1, 0, 1, 1), api.OK},
		{row(12, vec(14, 0, 0), vec(1, 0, 0)), vecs(0, 0, 0, 0, 1, 0, 0, 0, 1, 0, 1, 1), api.ErrRange},
		{row(13, vec(0, 0, 0), vec(1, 0, 0)), vecs(0, 0, 0, 0, 1, 0, 0, 0, 1, 0, 1, 1), api.ErrMany},
		{row(25, vec(-24, 0, 0), vec(1, 0, 0)), row(24, vec(0, 0, 0), vec(1, 0, 0)), api.ErrFlat},              // 48: in a line
		{row(25, vec(-24, 0, 0), vec(1, 0, 0)), row(25, vec(0, 0, 0), vec(1, 0, 0)), api.ErrMany},              // 49
		{row(25, vec(0, 0, 0), vec(1, 0, 0)), row(24, vec(0, 0, 0), vec(1, 0, 0)), api.ErrRange},               // 48
		{row(25, vec(0, 0, 0), vec(1, 0, 0)), row(25, vec(0, 0, 0), vec(1, 0, 0)), api.ErrMany},                // 49
		{row(7, vec(0, 0, 0), vec(1, 2, 3)), row(7, vec(0, 0, 0), vec(1, 0, 0)), api.ErrMany},                  // 49 without any repetition
		{row(8, vec(0, 0, 0), vec(1, 2, 3)), row(6, vec(0, 0, 0), vec(1, 0, 0)), api.ErrFlat},                  // 48 without any
		{slices.Repeat(grid(0, 2), 6), slices.Repeat(grid(0, 2), 6), api.OK},                                   // 27
		{grid(0, 1, 2), grid(0, 1), api.ErrMany},                                                               // 64
		{slices.Repeat(vecs(30, 0, 0, 0, 0, 0), 24), slices.Repeat(vecs(0, 30, 0, 1, 1, 1), 24), api.ErrRange}, // 4
	} {
		if got, e := checkSum(t, x.a, x.b); e != x.want || e != api.OK && len(got) > 0 {
			t.Errorf("Sum of %v and %v: %v, %d instead of %d", x.a, x.b, got, e, x.want)
		}
	}
}

func TestSumsCountAndNotTheirPoints(t *testing.T) { // P12.2
	for _, far := range []api.Vec{vec(25, 0, 0), vec(0, -60, 1000), vec(1<<32, 1<<62, -1<<62), vec(maxInt, minInt, maxInt), vec(minInt, minInt, minInt)} {
		away, back := moved(tetra(), far), []api.Vec{{X: -far.X, Y: -far.Y, Z: -far.Z}} // the least int is its own opposite: its double wraps around to 0
		if got, e := sum.Sum(away, back); e != api.OK || !slices.Equal(got, vecs(0, 0, 0, 0, 0, 1, 0, 1, 0, 1, 0, 0)) {
			t.Errorf("Sum of %v and %v: %v, %d", away, back, got, e)
		}
		if got, e := sum.Sum(back, away); e != api.OK || !slices.Equal(got, vecs(0, 0, 0, 0, 0, 1, 0, 1, 0, 1, 0, 0)) {
			t.Errorf("Sum of %v and %v: %v, %d", back, away, got, e)
		}
		if got, e := sum.Sum(away, vecs(0, 0, 0)); e != api.ErrRange || len(got) > 0 {
			t.Errorf("Sum of %v and the origin: %v, %d", away, got, e)
		}
	}
	flat := vecs(0, 0, 0, 3, 0, 0, 0, 3, 0)
	if got, e := sum.Sum(flat, vecs(0, 0, -2, 0, 0, 2)); e != api.OK || len(got) != 6 {
		t.Errorf("Sum of a triangle and a segment, which are flat: %v, %d", got, e)
	}
}

func TestSupport(t *testing.T) { // P12.3
	for _, x := range []struct {
		l    []api.Vec
		n    api.Vec
		want int
		ok   bool
	}{
		{tetra(), vec(3, -1, 2), 3, true}, {nil, vec(3, -1, 2), 0, false}, {[]api.Vec{}, vec(1, 0, 0), 0, false}, {tetra(), vec(-1, -2, -3), 0, true}, {tetra()[1:], vec(-1, -2, -3), -1, true}, {tetra()[2:], vec(-1, -2, -3), -2, true}, {tetra()[3:], vec(-1, -2, -3), -3, true}, {tetra(), vec(0, 0, 0), 0, true}, {vecs(-5, -5, -5), vec(1, 1, 1), -15, true}, {vecs(-5, -5, -5, -4, -5, -6, -3, -9, -9), vec(1, 1, 1), -15, true},
		{vecs(1, 0, 0, 5, 0, 0, 2, 0, 0), vec(1, 7, 7), 5, true}, {vecs(5, 0, 0, 1, 0, 0, 2, 0, 0), vec(1, 7, 7), 5, true}, {vecs(1, 0, 0, 2, 0, 0, 5, 0, 0), vec(1, 7, 7), 5, true}, {slices.Repeat(vecs(2, 3, 4), 100), vec(1, 10, 100), 432, true},
		{vecs(maxInt, 0, 0), vec(2, 0, 0), -2, true}, {vecs(minInt, 0, 0), vec(-1, 0, 0), minInt, true}, {vecs(minInt, 0, 0, 0, 1<<62, 0), vec(1, 2, 0), minInt, true}, {vecs(maxInt, 1, 0, 3, 0, 0), vec(1, 1, 0), 3, true}, {vecs(1<<32, 0, 0), vec(1<<32, 5, 5), 0, true}, // products and sums wrap around
	} {
		if got, ok := sum.Support(x.l, x.n); got != x.want || ok != x.ok {
			t.Errorf("Support of %v in the direction %v: %d, %v", x.l, x.n, got, ok)
		}
	}
}

func TestSupportOfAnyPoints(t *testing.T) { // P12.3
	r := source(4)
	number := func() int {
		if r.IntN(2) == 0 {
			return r.IntN(49) - 24
		}
		return int(r.Uint64()) >> r.IntN(64)
	}
	for range 40000 {
		n, l := vec(number(), number(), number()), []api.Vec{vec(number(), number(), number())}
		for range r.IntN(70) {
			l = append(l, vec(number(), number(), number()))
		}
		if got, ok := sum.Support(l, n); !ok || got != wantedSupport(l, n) {
			t.Fatalf("Support of %v in the direction %v: %d, %v", l, n, got, ok)
		}
	}
	long := row(1000000, vec(5, 5, 5), vec(-1, 0, 2))
	if got, ok := sum.Support(long, vec(1, 2, 3)); !ok || got != wantedSupport(long, vec(1, 2, 3)) {
		t.Errorf("Support of %d points: %d, %v", len(long), got, ok)
	}
}

func TestNilAndEmpty(t *testing.T) { // R1 of DOC.md, for P12.1 to P12.3
	for _, e := range []api.Vec{vec(0, 0, 0), vec(12, 12, 12), vec(12, 0, 13), vec(-1, 0, 0)} {
		for _, c := range [][]api.Plane{nil, {}} {
			if got, ok := sum.Grow(c, e); ok != isBound(e) || len(got) > 0 {
				t.Errorf("Grow of no planes by %v: %v, %v", e, got, ok)
			}
			if got, ok := sum.Shrink(c, e); ok != isBound(e) || len(got) > 0 {
				t.Errorf("Shrink of no planes by %v: %v, %v", e, got, ok)
			}
		}
	}
	for _, none := range [][]api.Vec{nil, {}} {
		for _, l := range append(lists(), none) {
			want := api.ErrFlat
			if len(l) > 48 {
				want = api.ErrMany
			}
			if got, e := sum.Sum(l, none); e != want || len(got) > 0 {
				t.Errorf("Sum of %v and nothing: %v, %d", l, got, e)
			}
			if got, e := sum.Sum(none, l); e != want || len(got) > 0 {
				t.Errorf("Sum of nothing and %v: %v, %d", l, got, e)
			}
		}
	}
}

func TestErrorsAreThoseOfHull(t *testing.T) { // P12.2
	listPairs(5, 2000, func(a, b []api.Vec) {
		got, e := sum.Sum(a, b)
		if e != api.OK {
			if len(got) > 0 {
				t.Errorf("Sum of %v and %v: %v with the error %d", a, b, got, e)
			}
			return
		}
		if again, f := hull.Extreme(got); f != api.OK || !slices.Equal(again, got) {
			t.Errorf("Sum of %v and %v: %v, of which only %v are vertices (%d)", a, b, got, again, f)
		}
	})
}
