package solid_test

import (
	"math/rand/v2"
	"slices"
	"testing"

	"collet/api"
	"collet/cell"
	"collet/plane"
	"collet/solid"
)

// covers returns Covers, which is to return no error.
func covers(t *testing.T, s cells, c planes) bool {
	t.Helper()
	got, e := solid.Covers(s, c)
	if e != api.OK {
		t.Errorf("Covers of %s and %s: %d", short(s...), short(c), e)
	}
	return got
}

// checkPieces complains unless the pieces of a cell are full and apart from one another, lie in the cell, are apart from the solid, and cover the cell with it.
func checkPieces(t *testing.T, c planes, s, pieces cells) {
	t.Helper()
	for i, p := range pieces {
		if !cell.Full(p) || !slices.Equal(cell.Lean(p), p) || !cell.Within(p, c) || !solid.Apart(p, s) || !solid.Apart(p, pieces[:i]) || !solid.Apart(p, pieces[i+1:]) {
			t.Errorf("Minus of %s and %s: the piece %v of %s", short(c), short(s...), p, short(pieces...))
		}
	}
	if all := slices.Concat(s, pieces); len(all) <= 16 && !covers(t, all, c) {
		t.Errorf("%s and its pieces %s do not cover %s", short(s...), short(pieces...), short(c))
	}
	if len(s)+len(pieces) <= 4 && !isCovered(c, slices.Concat(s, pieces)) {
		t.Errorf("%s and its pieces %s do not cover all of %s", short(s...), short(pieces...), short(c))
	}
}

func TestPieces(t *testing.T) { // P10.6
	check := func(c planes, s cells) {
		if pieces, e := solid.Minus(c, s); e == api.OK {
			checkPieces(t, c, s, pieces)
		}
	}
	pairs(31, 1200, 4, 6, check)
	pairs(32, 60, 12, 9, check)
	check(nil, slabs(3, 3, 3))
	check(nil, cells{round(33)})
	check(round(34)[:40], cells{{half(1, 2, 3, 4)}, box(-30, -3, -3, 30, 3, 3)})
}

// inside reports whether a point is on the negative side of all planes, and whether it is on none of them.
func inside(c planes, v api.Point) (bool, bool) {
	in, clear := true, true
	for _, p := range c {
		height := p.N.X*v.X + p.N.Y*v.Y + p.N.Z*v.Z - p.B*v.W
		in, clear = in && height < 0, clear && height != 0
	}
	return in, clear
}

// places counts the cells in which a point is; false if it is on a plane of one of them.
func places(s cells, v api.Point) (int, bool) {
	count := 0
	for _, c := range s {
		in, clear := inside(c, v)
		if !clear {
			return 0, false
		}
		if in {
			count++
		}
	}
	return count, true
}

// somePoint returns a point of the workspace with fractions.
func somePoint(r *rand.Rand) api.Point {
	w, bound := 101, 101*[]int{2, 4, 24}[r.IntN(3)]
	v := near(r, bound)
	return api.Point{X: v.X, Y: v.Y, Z: v.Z, W: w}
}

func TestPointsOfPieces(t *testing.T) { // P10.6: each point of the cell that is not in the solid is in one piece
	r := source(35)
	left, gone, out := 0, 0, 0
	pairs(36, 1500, 5, 6, func(c planes, s cells) {
		pieces, e := solid.Minus(c, s)
		if e != api.OK {
			return
		}
		for range 30 {
			v := somePoint(r)
			inCell, clear := inside(c, v)
			inSolid, clearOfSolid := places(s, v)
			inPieces, clearOfPieces := places(pieces, v)
			if !clear || !clearOfSolid || !clearOfPieces {
				continue
			}
			want := 0
			switch {
			case !inCell:
				out++
			case inSolid > 0:
				gone++
			default:
				left++
				want = 1
			}
			if inPieces != want {
				t.Errorf("Minus of %v and %v: %v, of which %d have the point %v, instead of %d", c, s, pieces, inPieces, v, want)
			}
		}
	})
	if left < 500 || gone < 500 || out < 500 {
		t.Errorf("%d points were left, %d gone, and %d outside", left, gone, out)
	}
}

func TestCoversInAnotherOrder(t *testing.T) { // P10.7
	r := source(37)
	pairs(38, 800, 6, 6, func(c planes, s cells) {
		other := copied(s)
		r.Shuffle(len(other), func(i, k int) { other[i], other[k] = other[k], other[i] })
		for _, q := range other {
			r.Shuffle(len(q), func(i, k int) { q[i], q[k] = q[k], q[i] })
		}
		if a, b := covers(t, s, c), covers(t, other, c); a != b {
			t.Errorf("Covers of %v and %v: %v, but of %v: %v", s, c, a, other, b)
		}
	})
}

func TestCoversMoreOrLess(t *testing.T) { // P10.7
	r := source(39)
	less, more := 0, 0
	pairs(40, 1000, 5, 6, func(c planes, s cells) {
		for _, q := range s {
			if !covers(t, s, q) {
				t.Errorf("%v does not cover %v, which is one of its cells", s, q)
			}
		}
		if !covers(t, s, c) {
			return
		}
		if part := with(c, someCell(r, 4)...); cell.Within(part, c) {
			less++
			if !covers(t, s, part) {
				t.Errorf("%v covers %v, but not %v, which lies in it", s, c, part)
			}
		}
		if larger := slices.Concat(someSolid(r, 4, 6), s, someSolid(r, 4, 6)); len(larger) <= 16 {
			more++
			if !covers(t, larger, c) {
				t.Errorf("%v covers %v, but %v does not", s, c, larger)
			}
		}
		if cell.Full(c) && solid.Apart(c, s) {
			t.Errorf("%v covers %v, and is apart from it", s, c)
		}
	})
	if less < 100 || more < 100 {
		t.Errorf("only %d parts of covered cells, and %d larger solids", less, more)
	}
}

// divided returns the solid with both parts of one of its cells instead of it.
func divided(r *rand.Rand, s cells) cells {
	k, v := r.IntN(len(s)), vec(r.IntN(4), r.IntN(4), r.IntN(4))
	n := normal(r, []int{1, 2, 60, 4608}[r.IntN(4)])
	h := api.Plane{N: n, B: plane.Dot(n, v) + r.IntN(3) - 1}
	return append(slices.Delete(copied(s), k, k+1), with(s[k], plane.Flip(h)), with(s[k], h))
}

func TestSameOfDividedSolids(t *testing.T) { // P10.8
	r := source(41)
	for range 400 {
		s := append(someSolid(r, 4, 6), someCell(r, 6))
		u := s
		for range 1 + r.IntN(3) {
			u = divided(r, u)
		}
		checkSame(t, s, u, true, api.OK)
		checkSame(t, u, s, true, api.OK)
	}
}

func TestSameIsAnEquivalence(t *testing.T) { // P10.8
	r := source(42)
	yes := 0
	for range 300 {
		s := append(someSolid(r, 3, 5), someBox(r, 1))
		a, b := divided(r, s), someSolid(r, 3, 5)
		switch r.IntN(3) {
		case 0:
			b = divided(r, a)
		case 1:
			b = append(slices.Clone(s), someBox(r, 1))
		}
		checkSame(t, s, s, true, api.OK)
		first, e := solid.Same(s, b)
		checkSame(t, b, s, first, e)
		second, e := solid.Same(a, b)
		checkSame(t, b, a, second, e)
		if first != second { // since a is the same as s
			t.Errorf("%v and %v are the same, but with %v: %v, %v", s, a, b, first, second)
		}
		if first {
			yes++
		}
	}
	if yes < 50 || yes > 250 {
		t.Errorf("%d of the solids were the same", yes)
	}
}

// spoil changes all memory that belongs to cells.
func spoil(s cells) {
	for _, c := range s[:cap(s)] {
		for i := range c[:cap(c)] {
			c[:cap(c)][i] = half(7, 7, 7, 7)
		}
	}
}

// roomy returns a copy of the cells, all of them with room for more planes.
func roomy(s cells) cells {
	out := make(cells, 0, len(s)+3)
	for _, c := range s {
		out = append(out, append(make(planes, 0, len(c)+3), c...))
	}
	return out
}

// isClear reports whether the memory behind the cells has zero values.
func isClear(s cells) bool {
	for _, c := range s {
		if slices.ContainsFunc(c[len(c):cap(c)], func(p api.Plane) bool { return p != api.Plane{} }) {
			return false
		}
	}
	return !slices.ContainsFunc(s[len(s):cap(s)], func(c planes) bool { return c != nil })
}

func TestNothingIsSharedOrChanged(t *testing.T) { // R3
	check := func(c planes, s cells) {
		d, u := roomy(cells{c})[0], roomy(s)
		pieces, e := solid.Minus(d, u)
		solid.Check(u)
		solid.Covers(u, d)
		solid.Apart(d, u)
		solid.Same(u, cells{d})
		solid.Same(cells{d}, u)
		if !slices.Equal(c, d) || !same(s, u) || !isClear(u) || !isClear(cells{d}) {
			t.Fatalf("Minus, or another function, of %v and %v changes them to %v and %v, or what is behind them", c, s, d, u)
		}
		want := copied(pieces)
		spoil(cells{d})
		spoil(u)
		for i := range pieces {
			if !same(pieces[i:], want[i:]) {
				t.Fatalf("Minus of %v and %v, %d, shares memory with them, or pieces with one another", c, s, e)
			}
			spoil(pieces[i : i+1 : i+1])
		}
	}
	pairs(43, 800, 4, 6, check)
	check(box(0, 0, 0, 1, 1, 1), nil)
	check(nil, nil)
	check(box(0, 0, 0, 9, 9, 9), cells{box(1, 1, 1, 8, 8, 8), box(3, 0, 0, 4, 9, 9)})
}

func TestSameCallsReturnTheSame(t *testing.T) { // R1 and R4
	pairs(44, 200, 5, 6, func(c planes, s cells) {
		a, e := solid.Minus(c, s)
		b, f := solid.Minus(slices.Clone(c), copied(s))
		if e != f || !same(a, b) {
			t.Errorf("Minus of %v and %v: %v, %d, and then %v, %d", c, s, a, e, b, f)
		}
	})
	unit := box(0, 0, 0, 1, 1, 1)
	for _, x := range []struct{ c, d planes }{{nil, planes{}}, {planes{}, make(planes, 0, 9)}} {
		for _, s := range []cells{nil, {}, {unit}, {x.c}, {unit, x.c}} {
			a, e := solid.Minus(x.c, s)
			checkMinus(t, x.d, s, a, e)
			a, e = solid.Minus(unit, append(slices.Clone(s), x.c))
			checkMinus(t, unit, append(slices.Clone(s), x.d), a, e)
			same, e := solid.Same(s, cells{x.c})
			checkSame(t, s, cells{x.d}, same, e)
			if solid.Apart(x.c, s) != solid.Apart(x.d, s) || solid.Apart(unit, cells{x.c}) != solid.Apart(unit, cells{x.d}) {
				t.Errorf("Apart of no planes and %v depends on nil", s)
			}
		}
	}
}

func TestNothingPanics(t *testing.T) { // P1
	bad := slices.Concat(wrong(), long(), flats(), cells{nil, round(45), make(planes, 100000)})
	for i, c := range bad {
		for _, s := range []cells{nil, {nil}, bad[i:], bad[:i], {bad[len(bad)-1-i]}, make(cells, 100000), slabs(4, 4, 8), slabs(9, 9, 9)} {
			solid.Check(s)
			solid.Apart(c, s)
			for _, u := range []cells{nil, {c}, s} {
				if same, e := solid.Same(s, u); same && e != api.OK {
					t.Errorf("Same of %d cells and others: true, %d", len(s), e)
				}
			}
			pieces, e := solid.Minus(c, s)
			if covered, f := solid.Covers(s, c); e != f || e != api.OK && (covered || len(pieces) > 0) {
				t.Errorf("Minus of %d planes and %d cells: %d pieces, %d, and Covers %v, %d", len(c), len(s), len(pieces), e, covered, f)
			}
		}
	}
}
