package plane_test

import (
	"testing"

	"collet/api"
	"collet/plane"
)

// triples calls f with many triples of points of the workspace, few of which lie on a line, and with all triples of its corners.
func triples(f func(a, b, c api.Vec)) {
	every([]int{-24, 24}, func(a api.Vec) {
		every([]int{-24, 24}, func(b api.Vec) {
			every([]int{-24, 24}, func(c api.Vec) { f(a, b, c) })
		})
	})
	r := source(10)
	for range 100000 {
		f(point(r), point(r), point(r))
	}
}

func TestThroughIsThere(t *testing.T) { // P7.8
	triples(func(a, b, c api.Vec) {
		p, ok := plane.Through(a, b, c)
		if ok == onLine(a, b, c) || ok != plane.Valid(p) || !isWithin(4608, components(p.N)...) {
			t.Fatalf("Through %v, %v, %v: %v, %v", a, b, c, p, ok)
		}
	})
}

func TestThroughInAnotherOrder(t *testing.T) { // P7.8
	triples(func(a, b, c api.Vec) {
		p, ok := plane.Through(a, b, c)
		for _, l := range [][3]api.Vec{{b, c, a}, {c, a, b}} {
			if q, same := plane.Through(l[0], l[1], l[2]); q != p || same != ok {
				t.Fatalf("Through %v, %v, %v: %v, but through %v: %v", a, b, c, p, l, q)
			}
		}
		for _, l := range [][3]api.Vec{{b, a, c}, {a, c, b}, {c, b, a}} {
			if q, same := plane.Through(l[0], l[1], l[2]); q != plane.Flip(p) || same != ok {
				t.Fatalf("Through %v, %v, %v: %v, but through %v: %v", a, b, c, p, l, q)
			}
		}
	})
}

func TestThroughMovedPoints(t *testing.T) { // P7.8
	r := source(11)
	moved := 0
	triples(func(a, b, c api.Vec) {
		s := vec(r.IntN(49)-24, r.IntN(49)-24, r.IntN(49)-24)
		p, ok := plane.Through(a, b, c)
		x, y, z := plane.Add(a, s), plane.Add(b, s), plane.Add(c, s)
		if !ok || !plane.In(x) || !plane.In(y) || !plane.In(z) {
			return
		}
		moved++
		if q, same := plane.Through(x, y, z); !same || q.N != p.N || q.B != p.B+plane.Dot(p.N, s) {
			t.Fatalf("Through %v, %v, %v: %v, moved by %v: %v", a, b, c, p, s, q)
		}
	})
	if moved < 1000 {
		t.Errorf("only %d triples were moved", moved)
	}
}

// bounds calls f with planes, points of their half-spaces, and error bounds; every other point lies on the boundary.
func bounds(f func(p api.Plane, v, e api.Vec)) {
	r := source(12)
	for range 100000 {
		n, v := normal(r), point(r)
		p := api.Plane{N: n, B: plane.Dot(n, v)}
		e := vec(r.IntN(13), r.IntN(13), r.IntN(13))
		f(p, v, e)
		p.B += r.IntN(1 << 10)
		f(p, v, e)
	}
}

func TestPushedByReach(t *testing.T) { // P7.9
	r := source(13)
	bounds(func(p api.Plane, v, e api.Vec) {
		pushed, ok := plane.Push(p, plane.Reach(p.N, e))
		if !ok || pushed.N != p.N {
			t.Fatalf("Push of %v by Reach of %v: %v, %v", p, e, pushed, ok)
		}
		for range 4 {
			d := vec(r.IntN(2*e.X+1)-e.X, r.IntN(2*e.Y+1)-e.Y, r.IntN(2*e.Z+1)-e.Z)
			w := plane.Add(v, d)
			if inner(p.N, w).Cmp(integer(pushed.B)) > 0 || plane.Side(pushed, w) > 0 {
				t.Fatalf("%v is in %v, but with the error %v it is outside of %v", v, p, d, pushed)
			}
		}
	})
}

func TestReachIsReached(t *testing.T) { // P7.9
	bounds(func(p api.Plane, v, e api.Vec) {
		if plane.Side(p, v) != 0 {
			return
		}
		d := components(e)
		for i, n := range components(p.N) {
			if n < 0 {
				d[i] = -d[i]
			}
		}
		w := plane.Add(v, vec(d[0], d[1], d[2]))
		if pushed, _ := plane.Push(p, plane.Reach(p.N, e)); inner(p.N, w).Cmp(integer(pushed.B)) != 0 {
			t.Fatalf("%v is on the boundary of %v, but %v is not on that of %v", v, p, w, pushed)
		}
	})
}

func TestCrossIsOrthogonal(t *testing.T) { // P7.10
	pairs(func(a, b api.Vec) {
		if c := plane.Cross(a, b); plane.Dot(a, c) != 0 || plane.Dot(b, c) != 0 {
			t.Fatalf("Cross of %v and %v: %v", a, b, c)
		}
	})
}

func TestTripleProducts(t *testing.T) { // P7.10
	r := source(14)
	pairs(func(a, b api.Vec) {
		c := anyVec(r)
		first, second, third := plane.Dot(a, plane.Cross(b, c)), plane.Dot(b, plane.Cross(c, a)), plane.Dot(c, plane.Cross(a, b))
		if first != second || second != third {
			t.Fatalf("the triple products of %v, %v and %v: %d, %d, %d", a, b, c, first, second, third)
		}
	})
	if got := plane.Dot(vec(1, 0, 0), plane.Cross(vec(0, 1, 0), vec(0, 0, 1))); got != 1 {
		t.Errorf("the triple product of the directions of X, Y and Z: %d", got)
	}
}

// all returns what all functions make of some vectors and a number.
func all(a, b, c api.Vec, n int) []any {
	p, q := api.Plane{N: a, B: n}, api.Plane{N: b, B: n}
	prim, d := plane.Prim(a)
	through, there := plane.Through(a, b, c)
	pushed, ok := plane.Push(p, c.X)
	return []any{plane.In(a), plane.Add(a, b), plane.Sub(a, b), plane.Dot(a, b), plane.Cross(a, b), prim, d, plane.Valid(p), through, there, plane.Side(p, b), plane.Flip(p), pushed, ok, plane.Reach(a, b), plane.Compare(p, q)}
}

func TestNoPanicAndSameResults(t *testing.T) { // P1, and R4 of DOC.md
	check := func(a, b, c api.Vec, n int) {
		first, second := all(a, b, c, n), all(a, b, c, n)
		for i := range first {
			if first[i] != second[i] {
				t.Fatalf("result %d for %v, %v, %v, %d: %v and %v", i, a, b, c, n, first[i], second[i])
			}
		}
	}
	every(ends(), func(v api.Vec) { check(v, vec(v.Y, v.Z, v.X), vec(v.Z, 1, v.Y), v.X) })
	r := source(15)
	for range 50000 {
		check(anyVec(r), anyVec(r), anyVec(r), anyInt(r))
		check(point(r), point(r), point(r), anyInt(r))
	}
}
