package cell_test

import (
	"fmt"
	"slices"
	"testing"

	"collet/api"
	"collet/cell"
	"collet/hull"
	"collet/plane"
)

func TestLeanHasTheSamePoints(t *testing.T) { // P9.7
	r := source(31)
	fullCells(32, 2000, 24, func(c []api.Plane) {
		lean := cell.Lean(c)
		if got, want := sorted(cell.Points(lean)), sorted(cell.Points(c)); !slices.Equal(got, want) {
			t.Errorf("Points of %v: %v, but of %v, which is Lean of it: %v", c, want, lean, got)
		}
		if !cell.Full(lean) || !slices.Equal(cell.Lean(lean), lean) || !cell.Within(lean, c) || !cell.Within(c, lean) {
			t.Errorf("%v, and %v, which is Lean of it, are not the same", c, lean)
		}
		for range 4 {
			if v := near(r, 24); cell.Has(c, v) != cell.Has(lean, v) {
				t.Errorf("Has of %v, or of %v, which is Lean of it, and %v: %v, %v", c, lean, v, cell.Has(c, v), cell.Has(lean, v))
			}
		}
	})
}

func TestLeanIsLean(t *testing.T) { // P9.4 and P9.7
	fullCells(33, 500, 12, func(c []api.Plane) {
		lean := cell.Lean(c)
		for i, p := range lean {
			others := slices.Delete(slices.Clone(lean), i, i+1)
			inWorkspace := slices.Contains(workspace(), p) // then it is there anyway
			if cell.Within(others, []api.Plane{p}) != inWorkspace {
				t.Errorf("the plane %v of Lean of %v is needless", p, c)
			}
			if !slices.Contains(c, p) || i > 0 && plane.Compare(lean[i-1], p) >= 0 {
				t.Errorf("Lean of %v: %v", c, lean)
			}
		}
	})
}

// cuts calls f with full cells of less than 48 planes, and valid planes of which many divide them.
func cuts(seed uint64, f func(c []api.Plane, h api.Plane)) {
	r := source(seed)
	fullCells(seed+1, 1500, 16, func(c []api.Plane) {
		if len(c) == 48 {
			return
		}
		points := cell.Points(c)
		for range 6 {
			n, v := normal(r, []int{1, 3, 40, 4608}[r.IntN(4)]), points[r.IntN(len(points))]
			f(c, api.Plane{N: n, B: (n.X*v.X+n.Y*v.Y+n.Z*v.Z)/v.W + r.IntN(7) - 3})
		}
		for _, p := range c[:min(len(c), 3)] {
			f(c, p)
			f(c, api.Plane{N: p.N, B: p.B - 1})
		}
	})
}

func TestCellsThatAreDivided(t *testing.T) { // P9.8
	both, one := 0, 0
	cuts(34, func(c []api.Plane, h api.Plane) {
		if !plane.Valid(h) {
			return
		}
		below, above := cell.Full(with(c, h)), cell.Full(with(c, plane.Flip(h)))
		points := cell.Points(c)
		wantBelow := slices.ContainsFunc(points, func(v api.Point) bool { return sideOf(h, v) < 0 })
		wantAbove := slices.ContainsFunc(points, func(v api.Point) bool { return sideOf(h, v) > 0 })
		if below != wantBelow || above != wantAbove || !below && !above {
			t.Errorf("%v with %v: Full %v, and with the opposite: %v; vertices are on these sides: %v, %v", c, h, below, above, wantBelow, wantAbove)
		}
		if cell.Apart(c, []api.Plane{h}) == below || cell.Within(c, []api.Plane{h}) == above || !cell.Apart(with(c, h), with(c, plane.Flip(h))) {
			t.Errorf("%v is divided by %v into parts that overlap, or is apart from one, or in one", c, h)
		}
		if below && above {
			both++
		} else {
			one++
		}
	})
	if both < 2000 || one < 1000 {
		t.Errorf("%d planes divide cells, and %d do not", both, one)
	}
}

func TestPointsInside(t *testing.T) { // P9.9
	r := source(36)
	inside := 0
	cells(37, 3000, 12, func(c []api.Plane) {
		for range 4 {
			v := near(r, []int{1, 5, 23, 24}[r.IntN(4)])
			if slices.ContainsFunc(with(c, workspace()...), func(p api.Plane) bool { return plane.Side(p, v) >= 0 }) {
				continue
			}
			inside++
			if !cell.Full(c) || !cell.Has(c, v) || cell.Apart(c, nil) {
				t.Errorf("%v is inside %v, but Full is %v, Has %v, and Apart of it and the workspace %v", v, c, cell.Full(c), cell.Has(c, v), cell.Apart(c, nil))
			}
		}
	})
	if inside < 1000 {
		t.Errorf("only %d points were inside", inside)
	}
}

func TestCellsThatLieInOthersAreNotApart(t *testing.T) { // P9.9
	r := source(38)
	fullCells(39, 2000, 12, func(c []api.Plane) {
		less := cell.Lean(with(c, someCell(r, 4)...))
		if len(c) > 40 || len(less) == 0 {
			return
		}
		if !cell.Within(less, c) || cell.Apart(less, c) || cell.Apart(c, less) {
			t.Errorf("%v lies in %v, but Within is %v, and Apart %v", less, c, cell.Within(less, c), cell.Apart(less, c))
		}
		a, b, _ := cell.Bound(c)
		lo, hi, ok := cell.Bound(less)
		if !ok || lo.X < a.X || lo.Y < a.Y || lo.Z < a.Z || hi.X > b.X || hi.Y > b.Y || hi.Z > b.Z {
			t.Errorf("%v lies in %v, but Bound is %v, %v, and %v, %v", less, c, lo, hi, a, b)
		}
		if around := box(lo, hi); !cell.Within(less, around) || cell.Apart(less, around) {
			t.Errorf("%v does not lie in its Bound %v, %v", less, lo, hi)
		}
	})
}

func TestVerticesOfHulls(t *testing.T) { // P9.10
	r := source(40)
	count := 0
	for range 600 {
		var l []api.Vec
		bound := []int{1, 3, 10, 24}[r.IntN(4)]
		for range 4 + r.IntN(20) {
			l = append(l, near(r, bound))
		}
		faces, e := hull.Faces(l)
		if e != api.OK || len(faces) > 48 {
			continue
		}
		count++
		vertices, _ := hull.Extreme(l)
		var want []api.Point
		for _, v := range vertices {
			want = append(want, point(v.X, v.Y, v.Z, 1))
		}
		if got := sorted(cell.Points(faces)); !slices.Equal(got, want) {
			t.Errorf("Points of the facets of the hull of %v: %v instead of %v", l, got, want)
		}
		if !slices.Equal(cell.Lean(faces), faces) || !cell.Full(faces) {
			t.Errorf("Lean of the facets of the hull of %v: %v instead of %v", l, cell.Lean(faces), faces)
		}
		lo, hi, _ := hull.Box(l)
		if a, b, ok := cell.Bound(faces); a != lo || b != hi || !ok {
			t.Errorf("Bound of the facets of the hull of %v: %v, %v, %v", l, a, b, ok)
		}
	}
	if count < 300 {
		t.Errorf("only %d lists have a hull", count)
	}
}

// all returns what all functions make of two cells and a point, as texts.
func all(a, b []api.Plane, v api.Vec) []string {
	lo, hi, ok := cell.Bound(a)
	return []string{fmt.Sprint(cell.Check(a)), fmt.Sprint(cell.Points(a)), fmt.Sprint(cell.Full(a)), fmt.Sprint(cell.Has(a, v)), fmt.Sprint(cell.Lean(a)), fmt.Sprint(cell.Apart(a, b)), fmt.Sprint(cell.Within(a, b)), fmt.Sprint(lo, hi, ok)}
}

func TestNothingIsSharedOrChanged(t *testing.T) { // R3 of DOC.md, for P9.1 to P9.6
	r := source(41)
	check := func(c []api.Plane) {
		other := someCell(r, 9)
		a, b := with(c, half(7, 7, 7, 7))[:len(c)], with(other, half(7, 7, 7, 7))[:len(other)]
		first := fmt.Sprint(all(a, b, vec(0, 1, 0)))
		points, lean := cell.Points(a), cell.Lean(a)
		for i := range points {
			points[i] = point(9, 9, 9, 9)
		}
		for i := range lean {
			lean[i] = half(9, 9, 9, 9)
		}
		if !slices.Equal(a, c) || !slices.Equal(b, other) || a[:len(c)+1][len(c)] != half(7, 7, 7, 7) || b[:len(other)+1][len(other)] != half(7, 7, 7, 7) {
			t.Errorf("%v, %v became %v, %v, or what is behind them was changed", c, other, a, b)
		}
		if again := fmt.Sprint(all(a, b, vec(0, 1, 0))); again != first {
			t.Errorf("of %v, %v: %s, and when results were changed %s", c, other, first, again)
		}
	}
	cells(42, 400, 20, check)
	for _, c := range slices.Concat(many(), wrong()) {
		check(c)
	}
}

func TestSameCallsSameResults(t *testing.T) { // R1 and R4 of DOC.md
	r := source(43)
	cells(44, 500, 20, func(c []api.Plane) {
		other, v := someCell(r, 9), near(r, 24)
		first := all(c, other, v)
		for range 3 {
			if next := all(c, other, v); !slices.Equal(next, first) {
				t.Errorf("of %v, %v: %s and %s", c, other, first, next)
			}
		}
	})
	if none, empty := all(nil, nil, vec(0, 0, 0)), all([]api.Plane{}, []api.Plane{}, vec(0, 0, 0)); !slices.Equal(none, empty) {
		t.Errorf("of nil: %s; of no planes: %s", none, empty)
	}
}

func TestNoPanic(t *testing.T) { // P1
	r := source(45)
	numbers := []int{0, 1, -1, 2, 4608, -4608, 1 << 21, -1 << 21, 4609, 1<<21 + 1, 1 << 31, 1 << 32, -1 << 62, maxInt, minInt}
	number := func(kinds int) int { return numbers[r.IntN(kinds)] }
	some := func() []api.Plane {
		kinds := []int{3, 6, len(numbers)}[r.IntN(3)]
		var out []api.Plane
		for range r.IntN([]int{4, 12, 52}[r.IntN(3)]) {
			out = append(out, half(number(kinds), number(kinds), number(kinds), number(min(kinds+2, len(numbers)))))
		}
		return out
	}
	for range 3000 {
		a, b, v := some(), some(), vec(number(len(numbers)), number(len(numbers)), number(len(numbers)))
		want := api.OK
		if slices.ContainsFunc(a, func(p api.Plane) bool { return !plane.Valid(p) }) {
			want = api.ErrPlane
		}
		if len(a) > 48 {
			want = api.ErrMany
		}
		if want != api.OK {
			checkWrong(t, a, want)
		} else if e := cell.Check(a); e != api.OK {
			t.Errorf("Check of %v: %d", a, e)
		}
		all(a, b, v)
	}
}
