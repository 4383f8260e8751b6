package plane_test

import (
	"cmp"
	"math/big"
	"slices"
	"testing"

	"collet/api"
	"collet/plane"
)

func TestIn(t *testing.T) { // P7.1
	every(append(ends(), -26, -23, 23, 26), func(v api.Vec) {
		if got := plane.In(v); got != isPoint(v) {
			t.Errorf("In of %v: %v", v, got)
		}
	})
	for _, x := range []struct {
		v    api.Vec
		want bool
	}{
		{vec(24, -24, 0), true}, {vec(0, 25, 0), false}, {vec(0, 0, 0), true}, {vec(24, 24, 24), true}, {vec(-24, -24, -24), true},
		{vec(25, 0, 0), false}, {vec(-25, 0, 0), false}, {vec(0, -25, 0), false}, {vec(0, 0, 25), false}, {vec(0, 0, -25), false}, {vec(minInt, minInt, minInt), false}, {vec(0, 0, maxInt), false},
	} {
		if got := plane.In(x.v); got != x.want {
			t.Errorf("In of %v: %v", x.v, got)
		}
	}
}

// pairs calls f with pairs of vectors, of which many are so long that products and sums wrap around.
func pairs(f func(a, b api.Vec)) {
	r := source(1)
	for range 60000 {
		f(point(r), point(r))
		f(anyVec(r), anyVec(r))
		f(anyVec(r), point(r))
	}
}

func TestAddAndSub(t *testing.T) { // P7.1
	pairs(func(a, b api.Vec) {
		sum, difference := components(plane.Add(a, b)), components(plane.Sub(a, b))
		for i, n := range components(a) {
			m := integer(components(b)[i])
			if sum[i] != wrapped(new(big.Int).Add(integer(n), m)) || difference[i] != wrapped(new(big.Int).Sub(integer(n), m)) {
				t.Fatalf("Add and Sub of %v and %v: %v, %v", a, b, sum, difference)
			}
		}
	})
	if got := plane.Add(vec(1, 2, 3), vec(10, -20, 30)); got != vec(11, -18, 33) {
		t.Errorf("Add: %v", got)
	}
	if got := plane.Sub(vec(1, 2, 3), vec(10, -20, 30)); got != vec(-9, 22, -27) {
		t.Errorf("Sub: %v", got)
	}
	if got := plane.Add(vec(maxInt, minInt, 0), vec(1, -1, 0)); got != vec(minInt, maxInt, 0) {
		t.Errorf("Add wraps around to %v", got)
	}
	if got := plane.Sub(vec(0, minInt, maxInt), vec(minInt, 1, -1)); got != vec(minInt, maxInt, minInt) {
		t.Errorf("Sub wraps around to %v", got)
	}
}

func TestDot(t *testing.T) { // P7.1
	pairs(func(a, b api.Vec) {
		if got, want := plane.Dot(a, b), wrapped(inner(a, b)); got != want {
			t.Fatalf("Dot of %v and %v: %d instead of %d", a, b, got, want)
		}
	})
	for _, x := range []struct {
		a, b api.Vec
		want int
	}{
		{vec(1, 2, 3), vec(4, -5, 6), 12}, {vec(0, 0, 0), vec(maxInt, minInt, 9), 0}, {vec(4608, 4608, 4608), vec(24, 24, 24), 331776}, {vec(1<<32, 0, 0), vec(1<<32, 0, 0), 0}, {vec(1<<31, 0, 0), vec(1<<32, 7, 7), minInt}, {vec(minInt, 0, 0), vec(-1, 0, 0), minInt},
	} {
		if got := plane.Dot(x.a, x.b); got != x.want {
			t.Errorf("Dot of %v and %v: %d instead of %d", x.a, x.b, got, x.want)
		}
	}
}

func TestCross(t *testing.T) { // P7.1
	pairs(func(a, b api.Vec) {
		want := vec(wrapped(minor(a.Y, a.Z, b.Y, b.Z)), wrapped(minor(a.Z, a.X, b.Z, b.X)), wrapped(minor(a.X, a.Y, b.X, b.Y)))
		if got := plane.Cross(a, b); got != want {
			t.Fatalf("Cross of %v and %v: %v instead of %v", a, b, got, want)
		}
	})
	for _, x := range []struct{ a, b, want api.Vec }{
		{vec(1, 0, 0), vec(0, 1, 0), vec(0, 0, 1)}, {vec(0, 1, 0), vec(0, 0, 1), vec(1, 0, 0)}, {vec(0, 0, 1), vec(1, 0, 0), vec(0, 1, 0)}, {vec(0, 1, 0), vec(1, 0, 0), vec(0, 0, -1)},
		{vec(1, 2, 3), vec(4, 5, 6), vec(-3, 6, -3)}, {vec(2, 4, 6), vec(3, 6, 9), vec(0, 0, 0)}, {vec(48, -48, 0), vec(0, 48, 48), vec(-2304, -2304, 2304)}, {vec(48, 48, 0), vec(-48, 48, 0), vec(0, 0, 4608)},
		{vec(1<<32, 0, 0), vec(0, 1<<31, 1<<32), vec(0, 0, minInt)},
	} {
		if got := plane.Cross(x.a, x.b); got != x.want {
			t.Errorf("Cross of %v and %v: %v instead of %v", x.a, x.b, got, x.want)
		}
	}
}

// checkPrim complains unless Prim of v is as it must be.
func checkPrim(t *testing.T, v api.Vec) {
	t.Helper()
	got, d := plane.Prim(v)
	if v == vec(0, 0, 0) || slices.Contains(components(v), minInt) {
		if got != vec(0, 0, 0) || d != 0 {
			t.Errorf("Prim of %v: %v, %d", v, got, d)
		}
		return
	}
	if divisorOf(v).Cmp(integer(d)) != 0 {
		t.Errorf("Prim of %v divides by %d instead of %d", v, d, divisorOf(v))
	}
	for i, n := range components(v) {
		if new(big.Int).Mul(integer(d), integer(components(got)[i])).Cmp(integer(n)) != 0 {
			t.Errorf("Prim of %v: %v, %d", v, got, d)
		}
	}
}

func TestPrim(t *testing.T) { // P7.2
	every(from(-12, 12), func(v api.Vec) { checkPrim(t, v) })
	every(ends(), func(v api.Vec) { checkPrim(t, v) })
	r := source(2)
	for range 100000 {
		v := anyVec(r)
		checkPrim(t, v)
		factor := anyInt(r)
		checkPrim(t, vec(factor*v.X, factor*v.Y, factor*v.Z)) // wraps around, and has a divisor more often
	}
	for _, x := range []struct {
		v, want api.Vec
		by      int
	}{
		{vec(4, -6, 0), vec(2, -3, 0), 2}, {vec(0, 0, -5), vec(0, 0, -1), 5}, {vec(0, 0, 0), vec(0, 0, 0), 0}, {vec(1, 0, 0), vec(1, 0, 0), 1}, {vec(-6, -10, -15), vec(-6, -10, -15), 1}, {vec(-6, -10, -14), vec(-3, -5, -7), 2}, {vec(6, 0, 4), vec(3, 0, 2), 2}, {vec(0, 12, 18), vec(0, 2, 3), 6},
		{vec(maxInt, 0, 0), vec(1, 0, 0), maxInt}, {vec(maxInt, -maxInt, maxInt), vec(1, -1, 1), maxInt}, {vec(-maxInt, 0, 7), vec(-maxInt/7, 0, 1), 7}, {vec(1<<62, 3<<61, 0), vec(2, 3, 0), 1 << 61},
		{vec(minInt, 0, 0), vec(0, 0, 0), 0}, {vec(1, minInt, 0), vec(0, 0, 0), 0}, {vec(2, 4, minInt), vec(0, 0, 0), 0}, {vec(minInt, minInt, minInt), vec(0, 0, 0), 0},
	} {
		if got, by := plane.Prim(x.v); got != x.want || by != x.by {
			t.Errorf("Prim of %v: %v, %d", x.v, got, by)
		}
	}
}

// planes calls f with planes, many of which just are valid, or just are not.
func planes(f func(p api.Plane)) {
	offsets := []int{0, 1, 1 << 21, 1<<21 - 1, 1<<21 + 1, -1 << 21, -1<<21 - 1, minInt, maxInt}
	every([]int{0, 1, -1, 2, -3, 4607, 4608, -4608, 4609, -4609, maxInt, minInt}, func(n api.Vec) {
		for _, b := range offsets {
			f(api.Plane{N: n, B: b})
		}
	})
	r := source(3)
	for range 20000 {
		f(api.Plane{N: normal(r), B: r.IntN(1<<22+7) - 1<<21 - 3})
		f(api.Plane{N: normal(r), B: anyInt(r)})
		f(api.Plane{N: anyVec(r), B: r.IntN(9) - 4})
		f(api.Plane{N: point(r), B: offsets[r.IntN(3)]})
	}
}

func TestValid(t *testing.T) { // P7.3
	planes(func(p api.Plane) {
		if got := plane.Valid(p); got != isValid(p) {
			t.Fatalf("Valid of %v: %v", p, got)
		}
	})
	for _, x := range []struct {
		p    api.Plane
		want bool
	}{
		{half(2, 4, 0, 1), false}, {half(1, 4609, 0, 0), false}, {half(1, 0, 0, 1<<21), true}, {half(1, 0, 0, -1<<21), true}, {half(1, 0, 0, 1<<21+1), false}, {half(1, 0, 0, -1<<21-1), false},
		{half(0, 0, 0, 0), false}, {half(0, 0, 0, 1), false}, {half(0, -1, 0, 0), true}, {half(0, 0, 2, 0), false}, {half(0, 0, 2, 1), false}, {half(6, 10, 15, 30), true}, {half(6, 10, 14, 30), false}, {half(-3, -9, 3, 1), false},
		{half(4608, 1, 0, 0), true}, {half(1, -4608, 0, 0), true}, {half(0, 1, 4608, 0), true}, {half(4608, 4607, 4608, 0), true}, {half(4609, 1, 0, 0), false}, {half(-4609, 1, 0, 0), false}, {half(0, 1, -4609, 0), false}, {half(4608, 4608, 4608, 0), false},
		{half(minInt, 1, 0, 0), false}, {half(1, maxInt, 0, 0), false}, {half(1, 0, 0, minInt), false}, {half(1, 0, 0, maxInt), false},
	} {
		if got := plane.Valid(x.p); got != x.want {
			t.Errorf("Valid of %v: %v", x.p, got)
		}
	}
}

// checkThrough complains unless Through of three points of the workspace is as it must be: there is only one such plane.
func checkThrough(t *testing.T, a, b, c api.Vec) {
	t.Helper()
	p, ok := plane.Through(a, b, c)
	if onLine(a, b, c) {
		if ok || p != (api.Plane{}) {
			t.Errorf("Through %v, %v, %v: %v, %v, but they lie on a line", a, b, c, p, ok)
		}
		return
	}
	if !ok || !isValid(p) {
		t.Fatalf("Through %v, %v, %v: %v, %v", a, b, c, p, ok)
	}
	for _, v := range []api.Vec{a, b, c} {
		if inner(p.N, v).Cmp(integer(p.B)) != 0 {
			t.Errorf("Through %v, %v, %v: %v, which %v is not on", a, b, c, p, v)
		}
	}
	if determinant(plane.Sub(b, a), plane.Sub(c, a), p.N) <= 0 {
		t.Errorf("Through %v, %v, %v: %v has the wrong direction", a, b, c, p)
	}
}

func TestThrough(t *testing.T) { // P7.3
	every([]int{-1, 0, 1}, func(a api.Vec) {
		every([]int{-1, 0, 1}, func(b api.Vec) {
			every([]int{-1, 0, 1}, func(c api.Vec) { checkThrough(t, a, b, c) })
		})
	})
	every([]int{-24, 24}, func(a api.Vec) {
		every([]int{-24, 0, 24}, func(b api.Vec) {
			every([]int{-24, 5, 23, 24}, func(c api.Vec) { checkThrough(t, a, b, c) })
		})
	})
	r := source(4)
	for range 200000 {
		checkThrough(t, point(r), point(r), point(r))
	}
	for range 20000 { // three points of a line, in any order
		a, v := point(r), vec(r.IntN(7)-3, r.IntN(7)-3, r.IntN(7)-3)
		b := plane.Add(a, v)
		l := []api.Vec{a, b, plane.Add(plane.Add(b, v), v)}
		r.Shuffle(3, func(i, k int) { l[i], l[k] = l[k], l[i] })
		if isPoint(l[0]) && isPoint(l[1]) && isPoint(l[2]) {
			if p, ok := plane.Through(l[0], l[1], l[2]); ok || p != (api.Plane{}) {
				t.Errorf("Through %v: %v, %v", l, p, ok)
			}
		}
	}
}

func TestThroughExamples(t *testing.T) { // P7.3
	for _, x := range []struct {
		a, b, c api.Vec
		want    api.Plane
		ok      bool
	}{
		{vec(1, 0, 0), vec(0, 1, 0), vec(0, 0, 1), half(1, 1, 1, 1), true}, {vec(0, 1, 0), vec(1, 0, 0), vec(0, 0, 1), half(-1, -1, -1, -1), true}, {vec(0, 0, 0), vec(1, 1, 1), vec(2, 2, 2), half(0, 0, 0, 0), false}, {vec(5, 5, 5), vec(5, 5, 5), vec(5, 5, 5), half(0, 0, 0, 0), false}, {vec(1, 2, 3), vec(1, 2, 3), vec(4, 5, 7), half(0, 0, 0, 0), false}, {vec(1, 2, 3), vec(4, 5, 7), vec(1, 2, 3), half(0, 0, 0, 0), false}, {vec(4, 5, 7), vec(1, 2, 3), vec(1, 2, 3), half(0, 0, 0, 0), false},
		{vec(0, 0, 7), vec(2, 0, 7), vec(0, 2, 7), half(0, 0, 1, 7), true}, {vec(24, 24, 24), vec(-24, 24, 24), vec(24, -24, 24), half(0, 0, 1, 24), true}, {vec(24, 0, 0), vec(0, 8, 0), vec(0, 0, 6), half(1, 3, 4, 24), true}, {vec(-24, -24, 23), vec(24, 23, -24), vec(-24, 24, 24), half(2303, -48, 2304, -1128), true},
	} {
		if got, ok := plane.Through(x.a, x.b, x.c); got != x.want || ok != x.ok {
			t.Errorf("Through %v, %v, %v: %v, %v", x.a, x.b, x.c, got, ok)
		}
	}
}

func TestThroughOutside(t *testing.T) { // P7.3
	r := source(5)
	for range 4000 {
		l := []api.Vec{point(r), point(r), point(r)}
		for _, n := range ends() {
			if isWithin(24, n) {
				continue
			}
			place, wrong := r.IntN(3), components(l[0])
			wrong[r.IntN(3)] = n
			outside := slices.Clone(l)
			outside[place] = vec(wrong[0], wrong[1], wrong[2])
			if p, ok := plane.Through(outside[0], outside[1], outside[2]); ok || p != (api.Plane{}) {
				t.Fatalf("Through %v: %v, %v", outside, p, ok)
			}
		}
	}
}

func TestSide(t *testing.T) { // P7.4
	r := source(6)
	planes(func(p api.Plane) {
		for range 3 {
			v := point(r)
			near := api.Plane{N: p.N, B: plane.Dot(p.N, v) + r.IntN(3) - 1} // v lies on its boundary, or just not
			for _, q := range []api.Plane{p, near} {
				want := 0
				if isValid(q) {
					want = inner(q.N, v).Cmp(integer(q.B))
				}
				if got := plane.Side(q, v); got != want {
					t.Fatalf("Side of %v and %v: %d instead of %d", q, v, got, want)
				}
			}
		}
	})
	for _, x := range []struct {
		p    api.Plane
		v    api.Vec
		want int
	}{
		{half(1, 1, 1, 1), vec(0, 0, 0), -1}, {half(1, 1, 1, 1), vec(1, 0, 0), 0}, {half(1, 1, 1, 1), vec(1, 1, 0), 1}, {half(4608, -4607, 4608, 331752), vec(24, -24, 24), 0}, {half(4608, -4607, 4608, 331751), vec(24, -24, 24), 1}, {half(-4608, 4607, -4608, -331751), vec(24, -24, 24), -1},
		{half(1, 0, 0, 1<<21), vec(24, 0, 0), -1}, {half(1, 0, 0, -1<<21), vec(-24, 0, 0), 1}, {half(1, 0, 0, 1<<21+1), vec(0, 0, 0), 0}, {half(1, 0, 0, -1<<21-1), vec(0, 0, 0), 0}, {half(0, 0, 0, 1), vec(0, 0, 0), 0}, {half(2, 0, 0, 1), vec(0, 0, 0), 0}, {half(4609, 1, 0, 5), vec(0, 0, 0), 0},
		{half(1, 0, 0, 5), vec(25, 0, 0), 0}, {half(1, 0, 0, 5), vec(0, -25, 0), 0}, {half(1, 0, 0, 5), vec(0, 0, maxInt), 0}, {half(1, 0, 0, 5), vec(minInt, 0, 0), 0},
	} {
		if got := plane.Side(x.p, x.v); got != x.want {
			t.Errorf("Side of %v and %v: %d instead of %d", x.p, x.v, got, x.want)
		}
	}
}

func TestSideOutside(t *testing.T) { // P7.4
	r := source(7)
	every(append(ends(), -26, 26), func(v api.Vec) {
		p := api.Plane{N: normal(r), B: r.IntN(9) - 4}
		want := 0
		if isPoint(v) {
			want = inner(p.N, v).Cmp(integer(p.B))
		}
		if got := plane.Side(p, v); got != want {
			t.Errorf("Side of %v and %v: %d instead of %d", p, v, got, want)
		}
	})
}

func TestFlip(t *testing.T) { // P7.5
	planes(func(p api.Plane) {
		want := half(wrapped(new(big.Int).Neg(integer(p.N.X))), wrapped(new(big.Int).Neg(integer(p.N.Y))), wrapped(new(big.Int).Neg(integer(p.N.Z))), wrapped(new(big.Int).Neg(integer(p.B))))
		if got := plane.Flip(p); got != want || plane.Flip(got) != p {
			t.Fatalf("Flip of %v: %v instead of %v", p, got, want)
		}
	})
	for _, x := range []struct{ p, want api.Plane }{
		{half(1, -2, 3, 4), half(-1, 2, -3, -4)}, {half(0, 0, 0, 0), half(0, 0, 0, 0)}, {half(2, 4, 0, 9), half(-2, -4, 0, -9)}, {half(minInt, maxInt, 0, minInt), half(minInt, -maxInt, 0, minInt)}, {half(0, 0, minInt, maxInt), half(0, 0, minInt, -maxInt)},
	} {
		if got := plane.Flip(x.p); got != x.want {
			t.Errorf("Flip of %v: %v", x.p, got)
		}
	}
}

// checkPush complains unless Push of p by a number is as it must be.
func checkPush(t *testing.T, p api.Plane, by int) {
	t.Helper()
	sum := new(big.Int).Add(integer(p.B), integer(by))
	got, ok := plane.Push(p, by)
	if !isValid(p) || sum.CmpAbs(integer(1<<21)) > 0 {
		if ok || got != (api.Plane{}) {
			t.Fatalf("Push of %v by %d: %v, %v", p, by, got, ok)
		}
		return
	}
	if !ok || got != (api.Plane{N: p.N, B: int(sum.Int64())}) {
		t.Fatalf("Push of %v by %d: %v, %v", p, by, got, ok)
	}
}

func TestPush(t *testing.T) { // P7.5
	r := source(8)
	planes(func(p api.Plane) {
		for _, by := range []int{0, r.IntN(9) - 4, 1<<21 - p.B, 1<<21 - p.B + 1, -1<<21 - p.B, -1<<21 - p.B - 1, maxInt, minInt, anyInt(r)} {
			checkPush(t, p, by)
		}
	})
	for _, x := range []struct {
		p    api.Plane
		by   int
		want api.Plane
		ok   bool
	}{
		{half(1, 0, 0, 5), -7, half(1, 0, 0, -2), true}, {half(1, 0, 0, 1<<21), 1, half(0, 0, 0, 0), false}, {half(1, 0, 0, 1<<21), 0, half(1, 0, 0, 1<<21), true}, {half(1, 0, 0, 1<<21), -1 << 22, half(1, 0, 0, -1<<21), true}, {half(1, 0, 0, 1<<21), -1<<22 - 1, half(0, 0, 0, 0), false}, {half(1, 0, 0, -1<<21), 1 << 22, half(1, 0, 0, 1<<21), true}, {half(1, 0, 0, -1<<21), -1, half(0, 0, 0, 0), false},
		{half(1, 0, 0, 1<<21+1), -1, half(0, 0, 0, 0), false}, {half(1, 0, 0, -1<<21-1), 1, half(0, 0, 0, 0), false}, {half(2, 0, 0, 4), 2, half(0, 0, 0, 0), false}, {half(0, 0, 0, 0), 0, half(0, 0, 0, 0), false}, {half(4609, 1, 0, 0), 0, half(0, 0, 0, 0), false},
		{half(1, 0, 0, 1), maxInt, half(0, 0, 0, 0), false}, {half(1, 0, 0, -1), minInt, half(0, 0, 0, 0), false}, {half(1, 0, 0, maxInt), -maxInt, half(0, 0, 0, 0), false}, {half(1, 0, 0, minInt), minInt, half(0, 0, 0, 0), false},
	} {
		if got, ok := plane.Push(x.p, x.by); got != x.want || ok != x.ok {
			t.Errorf("Push of %v by %d: %v, %v", x.p, x.by, got, ok)
		}
	}
}

func TestReach(t *testing.T) { // P7.6
	pairs(func(n, e api.Vec) {
		want := new(big.Int)
		for i, a := range components(n) {
			want.Add(want, new(big.Int).Mul(new(big.Int).Abs(integer(a)), integer(components(e)[i])))
		}
		if got := plane.Reach(n, e); got != wrapped(want) {
			t.Fatalf("Reach of %v and %v: %d instead of %d", n, e, got, wrapped(want))
		}
	})
	for _, x := range []struct {
		n, e api.Vec
		want int
	}{
		{vec(1, -2, 3), vec(1, 1, 2), 9}, {vec(0, 0, 0), vec(12, 12, 12), 0}, {vec(-4608, 4608, -4608), vec(12, 12, 12), 165888}, {vec(-5, 7, 0), vec(0, 0, 12), 0}, {vec(-5, 7, 2), vec(-1, 2, -3), 3}, {vec(5, 7, 2), vec(-1, -1, -1), -14},
		{vec(minInt, 0, 0), vec(1, 0, 0), minInt}, {vec(0, minInt, 0), vec(0, -1, 0), minInt}, {vec(0, 0, minInt), vec(0, 0, 2), 0}, {vec(1<<32, 0, 0), vec(1<<32, 1, 1), 0}, {vec(-1<<31, 0, 0), vec(1<<32, 0, 0), minInt},
	} {
		if got := plane.Reach(x.n, x.e); got != x.want {
			t.Errorf("Reach of %v and %v: %d instead of %d", x.n, x.e, got, x.want)
		}
	}
}

// wantedOrder returns what Compare is to return.
func wantedOrder(p, q api.Plane) int {
	return cmp.Or(cmp.Compare(p.N.X, q.N.X), cmp.Compare(p.N.Y, q.N.Y), cmp.Compare(p.N.Z, q.N.Z), cmp.Compare(p.B, q.B))
}

func TestCompare(t *testing.T) { // P7.7
	var all []api.Plane
	every([]int{minInt, -1, 0, 2, maxInt}, func(n api.Vec) {
		for _, b := range []int{minInt, -1, 0, maxInt} {
			all = append(all, api.Plane{N: n, B: b})
		}
	})
	for _, p := range all {
		for _, q := range all {
			if got := plane.Compare(p, q); got != wantedOrder(p, q) || got != -plane.Compare(q, p) || (got == 0) != (p == q) {
				t.Fatalf("Compare of %v and %v: %d", p, q, got)
			}
		}
	}
	for _, x := range []struct {
		p, q api.Plane
		want int
	}{
		{half(1, 0, 0, 5), half(1, 0, 0, 7), -1}, {half(1, 0, 0, 5), half(0, 9, 9, 9), 1}, {half(1, 2, 3, 4), half(1, 2, 3, 4), 0}, {half(0, 0, 0, 0), half(0, 0, 0, 0), 0}, {half(1, 2, 9, 9), half(1, 3, 0, 0), -1}, {half(1, 2, 4, 0), half(1, 2, 3, 9), 1}, {half(2, 4, 0, 0), half(1, 2, 0, 0), 1}, {half(-1, 0, 0, 0), half(0, 0, 0, -9), -1},
		{half(minInt, 0, 0, 0), half(maxInt, 0, 0, 0), -1}, {half(0, maxInt, 0, 0), half(0, minInt, 0, 0), 1}, {half(0, 0, -2, 0), half(0, 0, maxInt, 0), -1}, {half(0, 0, 0, maxInt), half(0, 0, 0, minInt), 1},
	} {
		if got := plane.Compare(x.p, x.q); got != x.want {
			t.Errorf("Compare of %v and %v: %d instead of %d", x.p, x.q, got, x.want)
		}
	}
}

func TestCompareAsAnOrder(t *testing.T) { // P7.7
	r := source(9)
	var all []api.Plane
	for range 20000 {
		all = append(all, api.Plane{N: point(r), B: r.IntN(5)})
	}
	slices.SortFunc(all, plane.Compare)
	for i := range all[1:] {
		if wantedOrder(all[i], all[i+1]) > 0 {
			t.Fatalf("%v before %v", all[i], all[i+1])
		}
	}
}
