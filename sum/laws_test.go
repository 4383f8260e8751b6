package sum_test

import (
	"fmt"
	"math/rand/v2"
	"slices"
	"testing"

	"collet/api"
	"collet/cell"
	"collet/hull"
	"collet/plane"
	"collet/sum"
)

// clamped returns n / w, or the nearest number from -24 to 24, as a numerator over w.
func clamped(n, w int) int {
	return max(-24*w, min(24*w, n))
}

// shifted returns a point of the workspace that is within e of the point v of it, some of them at the ends of what e permits.
func shifted(r *rand.Rand, v api.Point, e api.Vec) api.Point {
	quarters := near(r, 4)
	if r.IntN(2) == 0 {
		quarters = vec(4-8*r.IntN(2), 4-8*r.IntN(2), 4-8*r.IntN(2))
	}
	w := 4 * v.W
	return api.Point{X: clamped(4*v.X+quarters.X*e.X*v.W, w), Y: clamped(4*v.Y+quarters.Y*e.Y*v.W, w), Z: clamped(4*v.Z+quarters.Z*e.Z*v.W, w), W: w}
}

func TestGrowHasAllThatIsNear(t *testing.T) { // P12.4
	r := source(11)
	inside, outside := 0, 0
	for range 3000 {
		c, e := someCell(r, 10), someBound(r)
		grown, ok := sum.Grow(c, e)
		if !ok {
			t.Fatalf("Grow of %v by %v: false", c, e)
		}
		points := cell.Points(c)
		for range 8 {
			if v := near(r, 24); cell.Has(c, v) {
				points = append(points, whole(v))
			}
		}
		for _, v := range points {
			w := shifted(r, v, e)
			if !satisfies(grown, w) {
				t.Fatalf("%v of the cell %v is within %v of %v, which is not in %v", v, c, e, w, grown)
			}
			if satisfies(c, w) {
				inside++
			} else {
				outside++
			}
		}
	}
	if inside < 1000 || outside < 1000 {
		t.Errorf("%d points inside and %d outside of the cells are too few", inside, outside)
	}
}

func TestGrowIsNotGreaterThanNeeded(t *testing.T) { // P12.1, as P7.9 of plane.Reach
	r := source(12)
	for range 20000 {
		c, e := someCell(r, 3), someBound(r)
		grown, _ := sum.Grow(c, e)
		for k, p := range grown {
			reached := false
			for _, d := range corners(e) { // from the boundary of the plane, one of them reaches that of the pushed plane
				by := plane.Dot(p.N, d)
				if by > p.B-c[k].B {
					t.Fatalf("Grow of %v by %v: %v, and %v reaches further", c, e, grown, d)
				}
				reached = reached || by == p.B-c[k].B
			}
			if !reached {
				t.Fatalf("Grow of %v by %v: %v, and nothing reaches as far as %v", c, e, grown, p)
			}
		}
	}
}

// allSatisfy reports whether all points that are as far away from v as one of these lie in all half-spaces of a cell.
func allSatisfy(c []api.Plane, v api.Vec, away []api.Vec) bool {
	return !slices.ContainsFunc(away, func(d api.Vec) bool { return !satisfies(c, whole(plane.Add(v, d))) })
}

// within returns all integer points that are within e of the origin.
func within(e api.Vec) []api.Vec {
	var out []api.Vec
	for x := -e.X; x <= e.X; x++ {
		for y := -e.Y; y <= e.Y; y++ {
			for z := -e.Z; z <= e.Z; z++ {
				out = append(out, vec(x, y, z))
			}
		}
	}
	return out
}

func TestShrinkHasWhatIsFarWithin(t *testing.T) { // P12.4
	r := source(13)
	inside, outside := 0, 0
	for range 2500 {
		c := someCell(r, 7)
		for k := range c {
			c[k].B += r.IntN(12)
		}
		e := vec(r.IntN(4), r.IntN(4), r.IntN(4))
		shrunk, ok := sum.Shrink(c, e)
		if !ok {
			t.Fatalf("Shrink of %v by %v: false", c, e)
		}
		for range 12 {
			v := near(r, []int{3, 24, 60}[r.IntN(3)]) // in the workspace or not
			want := allSatisfy(c, v, within(e))
			if got, atCorners := satisfies(shrunk, whole(v)), allSatisfy(c, v, corners(e)); got != want || atCorners != want {
				t.Fatalf("%v: in %v, the Shrink of %v by %v: %v; all points within the error bound in the cell: %v; all corners: %v", v, shrunk, c, e, got, want, atCorners)
			}
			if want {
				inside++
			} else {
				outside++
			}
		}
	}
	if inside < 1000 || outside < 1000 {
		t.Errorf("%d points inside and %d outside are too few", inside, outside)
	}
}

func TestShrinkByGreatErrorBounds(t *testing.T) { // P12.4
	r := source(14)
	inside := 0
	for range 6000 {
		c, e, v := someCell(r, 4), someBound(r), near(r, 30)
		for k, p := range c { // so that one of the corners is about on the boundary
			c[k].B = plane.Dot(p.N, v) + max(p.N.X, -p.N.X)*e.X + max(p.N.Y, -p.N.Y)*e.Y + max(p.N.Z, -p.N.Z)*e.Z + r.IntN(8)/7 - r.IntN(8)/7
		}
		shrunk, ok := sum.Shrink(c, e)
		want := allSatisfy(c, v, corners(e))
		if got := satisfies(shrunk, whole(v)); !ok || got != want {
			t.Fatalf("%v: in %v, the Shrink of %v by %v: %v, %v; all corners in the cell: %v", v, shrunk, c, e, got, ok, want)
		}
		if !want {
			continue
		}
		inside++
		for range 4 {
			d := near(r, 12)
			w := api.Point{X: 12*v.X + d.X*e.X, Y: 12*v.Y + d.Y*e.Y, Z: 12*v.Z + d.Z*e.Z, W: 12}
			if !satisfies(c, w) {
				t.Fatalf("%v is in the Shrink of %v by %v, but %v is not in the cell", v, c, e, w)
			}
		}
	}
	if inside < 1000 || inside > 5500 {
		t.Errorf("%d of 6000 points were inside", inside)
	}
}

func TestShrinkOfGrow(t *testing.T) { // P12.5
	r := source(15)
	there, missing := 0, 0
	for range 30000 {
		c, e := someCell(r, 12), someBound(r)
		if len(c) > 0 && r.IntN(3) == 0 {
			c[r.IntN(len(c))].B = 1<<21 - r.IntN(60)
		}
		grown, ok := sum.Grow(c, e)
		if !ok {
			missing++
			continue
		}
		there++
		if back, ok := sum.Shrink(grown, e); !ok || !slices.Equal(back, c) {
			t.Fatalf("Shrink of Grow of %v by %v: %v, %v", c, e, back, ok)
		}
	}
	if there < 1000 || missing < 1000 {
		t.Errorf("Grow was there %d times, and missing %d times", there, missing)
	}
}

func TestSumIsCommutative(t *testing.T) { // P12.6
	listPairs(16, 4000, func(a, b []api.Vec) {
		got, e := sum.Sum(a, b)
		if other, f := sum.Sum(b, a); e != f || !slices.Equal(got, other) {
			t.Errorf("Sum of %v and %v: %v, %d; the other way round: %v, %d", a, b, got, e, other, f)
		}
	})
}

func TestSupportOfSum(t *testing.T) { // P12.6
	r := source(17)
	count := 0
	listPairs(18, 4000, func(a, b []api.Vec) {
		l, e := sum.Sum(a, b)
		if e != api.OK {
			return
		}
		count++
		for range 8 {
			n := near(r, []int{1, 3, 5000}[r.IntN(3)])
			both, ok := sum.Support(l, n)
			first, one := sum.Support(a, n)
			second, two := sum.Support(b, n)
			if !ok || !one || !two || both != first+second {
				t.Errorf("Support of the Sum of %v and %v in the direction %v: %d, but %d and %d", a, b, n, both, first, second)
			}
		}
	})
	if count < 1000 {
		t.Errorf("only %d sums", count)
	}
}

func TestHullOfSum(t *testing.T) { // P12.6
	r := source(19)
	inside, outside := 0, 0
	for inside+outside < 3000 {
		a, b := someList(r, 9), someList(r, 7)
		l, e := sum.Sum(a, b)
		if e != api.OK {
			continue
		}
		for range 5 {
			v := plane.Add(plane.Add(a[r.IntN(len(a))], b[r.IntN(len(b))]), near(r, 2))
			if !plane.In(v) {
				continue
			}
			want := isSum(t, a, b, v)
			if got := hull.Has(l, v); got != want {
				t.Errorf("%v in the hull of %v, the Sum of %v and %v: %v instead of %v", v, l, a, b, got, want)
			}
			if want {
				inside++
			} else {
				outside++
			}
		}
	}
	if inside < 500 || outside < 500 {
		t.Errorf("%d points inside and %d outside are too few", inside, outside)
	}
}

func TestSumWithOnePoint(t *testing.T) { // P12.6
	r := source(20)
	count := map[api.Errno]int{}
	for k := range 3000 {
		l, s := someList(r, 48), near(r, []int{1, 12, 48}[r.IntN(3)])
		if k < len(lists()) {
			l = lists()[k]
		}
		vertices, e := hull.Extreme(l)
		if slices.ContainsFunc(moved(l, s), func(v api.Vec) bool { return !plane.In(v) }) || e != api.OK {
			_, f := checkSum(t, l, []api.Vec{s})
			count[f]++
			continue
		}
		want := moved(vertices, s)
		if got, f := sum.Sum(l, []api.Vec{s}); f != api.OK || !slices.Equal(got, want) {
			t.Errorf("Sum of %v and %v: %v, %d instead of %v", l, s, got, f, want)
		}
		if got, f := sum.Sum([]api.Vec{s}, l); f != api.OK || !slices.Equal(got, want) {
			t.Errorf("Sum of %v and %v: %v, %d instead of %v", s, l, got, f, want)
		}
		count[api.OK]++
	}
	if count[api.OK] < 500 || count[api.ErrRange] < 200 || count[api.ErrFlat] < 200 {
		t.Errorf("too few of some errors: %v", count)
	}
}

// sweeps calls f with bodies, both ends of a straight move, and what they sweep.
func sweeps(t *testing.T, f func(body []api.Vec, from, to api.Vec, swept []api.Vec)) {
	t.Helper()
	r := source(21)
	count := 0
	for range 3000 {
		body, from, to := someList(r, 12), near(r, 10), near(r, 10)
		if swept, e := sum.Sum(body, []api.Vec{from, to}); e == api.OK {
			count++
			f(body, from, to, swept)
		}
	}
	if count < 300 {
		t.Errorf("only %d bodies were moved", count)
	}
}

func TestSumSweepsTheMovedBody(t *testing.T) { // P12.6
	sweeps(t, func(body []api.Vec, from, to api.Vec, swept []api.Vec) {
		faces, e := hull.Faces(swept)
		if e != api.OK {
			t.Fatalf("Faces of %v: error %d", swept, e)
		}
		for _, v := range body {
			for k := range 7 { // a sixth of the way after the other
				at := plane.Add(v, from)
				w := api.Point{X: 6*at.X + k*(to.X-from.X), Y: 6*at.Y + k*(to.Y-from.Y), Z: 6*at.Z + k*(to.Z-from.Z), W: 6}
				if !satisfies(faces, w) {
					t.Errorf("%v of %v, moved from %v to %v, comes to %v, which is not in the hull of %v", v, body, from, to, w, swept)
				}
			}
		}
	})
}

func TestSumSweepsNothingElse(t *testing.T) { // P12.6
	r := source(22)
	inside, outside := 0, 0
	sweeps(t, func(body []api.Vec, from, to api.Vec, swept []api.Vec) {
		v := plane.Add(swept[r.IntN(len(swept))], near(r, 2))
		if !plane.In(v) {
			return
		}
		want := isSum(t, body, []api.Vec{from, to}, v)
		if got := hull.Has(swept, v); got != want {
			t.Errorf("%v, moved from %v to %v, meets %v: %v, but in the hull of %v: %v", body, from, to, v, want, swept, got)
		}
		if want {
			inside++
		} else {
			outside++
		}
	})
	if inside < 50 || outside < 50 {
		t.Errorf("%d points inside and %d outside are too few", inside, outside)
	}
}

// boxed calls f with lists, error bounds, and the Sum of both, where it is there.
func boxed(t *testing.T, f func(l []api.Vec, e api.Vec, s []api.Vec)) {
	t.Helper()
	r := source(23)
	count := map[int]int{} // by corners
	add := func(l []api.Vec, e api.Vec) {
		if hull.Check(l) != api.OK {
			return
		}
		if s, no := sum.Sum(l, corners(e)); no == api.OK {
			count[len(corners(e))]++
			f(l, e, s)
		}
	}
	for _, l := range lists() {
		for _, e := range grid(0, 1, 3, 12) {
			add(l, e)
		}
	}
	for range 12000 {
		l := someList(r, 6)
		if vertices, e := hull.Extreme(someList(r, 20)); e == api.OK && r.IntN(2) == 0 {
			l = vertices
		}
		add(l, someBound(r))
	}
	for _, n := range []int{1, 2, 4, 8} {
		if count[n] < 100 {
			t.Errorf("only %d sums with boxes of %d corners", count[n], n)
		}
	}
}

func TestSumWithABoxIsInGrow(t *testing.T) { // P12.7
	boxed(t, func(l []api.Vec, e api.Vec, s []api.Vec) {
		faces, no := hull.Faces(l)
		grown, ok := sum.Grow(faces, e)
		if no != api.OK || !ok {
			t.Fatalf("Grow of %v by %v: %v, %v", faces, e, grown, ok)
		}
		for _, v := range s {
			if !satisfies(grown, whole(v)) {
				t.Errorf("%v of the Sum of %v and the box of %v is not in %v", v, l, e, grown)
			}
		}
	})
}

func TestGrowCarriesFacetsOfTheSumWithABox(t *testing.T) { // P12.7
	more := 0
	boxed(t, func(l []api.Vec, e api.Vec, s []api.Vec) {
		faces, _ := hull.Faces(l)
		grown, _ := sum.Grow(faces, e)
		facets, no := hull.Faces(s)
		for _, p := range grown {
			if no != api.OK || !slices.Contains(facets, p) {
				t.Errorf("%v of Grow of %v by %v carries no facet of the sum, whose facets are %v", p, faces, e, facets)
			}
		}
		if len(facets) > len(grown) {
			more++
		}
	})
	if more < 100 {
		t.Errorf("only %d sums have more facets than the hulls", more)
	}
}

// all returns what all functions make of a cell, points, a vector and an error bound, as texts.
func all(c []api.Plane, a, b []api.Vec, e api.Vec) []string {
	grown, grows := sum.Grow(c, e)
	shrunk, shrinks := sum.Shrink(c, e)
	s, no := sum.Sum(a, b)
	far, ok := sum.Support(a, e)
	return []string{fmt.Sprint(grown, grows), fmt.Sprint(shrunk, shrinks), fmt.Sprint(s, no), fmt.Sprint(far, ok)}
}

func TestNothingIsSharedOrChanged(t *testing.T) { // R3 of DOC.md, for P12.1 to P12.3
	r := source(24)
	for range 2000 {
		c, a, b, e := someCell(r, 9), someList(r, 12), someList(r, 4), someBound(r)
		if r.IntN(3) == 0 {
			e, b = vec(0, 0, 0), vecs(0, 0, 0) // with which results are equal to arguments
		}
		planes, first, second := append(slices.Clone(c), half(7, 7, 7, 7))[:len(c)], append(slices.Clone(a), vec(77, 7, 7))[:len(a)], append(slices.Clone(b), vec(77, 7, 7))[:len(b)]
		before := all(planes, first, second, e)
		grown, _ := sum.Grow(planes, e)
		shrunk, _ := sum.Shrink(planes, e)
		s, _ := sum.Sum(first, second)
		for _, l := range [][]api.Plane{grown, shrunk} {
			for k := range l[:cap(l)] {
				l[:cap(l)][k] = half(9, 9, 9, 9)
			}
		}
		for k := range s[:cap(s)] {
			s[:cap(s)][k] = vec(9, 9, 9)
		}
		if !slices.Equal(planes, c) || !slices.Equal(first, a) || !slices.Equal(second, b) || planes[:len(c)+1][len(c)] != half(7, 7, 7, 7) || first[:len(a)+1][len(a)] != vec(77, 7, 7) || second[:len(b)+1][len(b)] != vec(77, 7, 7) {
			t.Fatalf("%v, %v and %v became %v, %v and %v", c, a, b, planes, first, second)
		}
		if after := all(planes, first, second, e); !slices.Equal(after, before) {
			t.Fatalf("of %v, %v, %v and %v: %s, and when results were changed %s", c, a, b, e, before, after)
		}
	}
}

func TestNoPanicAndSameResults(t *testing.T) { // P1, and R4 of DOC.md
	r := source(25)
	numbers := []int{0, 1, -1, 12, 24, -24, 13, -25, 4608, 1 << 21, 1 << 32, -1 << 62, maxInt, minInt}
	number := func(kinds int) int { return numbers[r.IntN(kinds)] }
	for range 15000 {
		kinds := []int{3, 5, 6, len(numbers)}[r.IntN(4)]
		var c []api.Plane
		for range r.IntN(60) {
			c = append(c, half(number(kinds), number(kinds), number(kinds), number(kinds)))
		}
		var l [2][]api.Vec
		for k := range l {
			for range r.IntN([]int{3, 9, 52}[r.IntN(3)]) {
				l[k] = append(l[k], vec(number(kinds), number(kinds), number(kinds)))
			}
		}
		e := vec(number(kinds), number(kinds), number(kinds))
		first := all(c, l[0], l[1], e)
		if second := all(c, l[0], l[1], e); !slices.Equal(first, second) {
			t.Fatalf("of %v, %v and %v: %s and %s", c, l, e, first, second)
		}
		checkBoth(t, c, e)
	}
}
