package volume_test

import (
	"fmt"
	"math/big"
	"math/rand/v2"
	"slices"
	"testing"

	"collet/api"
	"collet/cell"
	"collet/hull"
	"collet/plane"
	"collet/volume"
)

// on returns the points that lie on a plane.
func on(p api.Plane, l []api.Vec) []api.Vec {
	return slices.DeleteFunc(slices.Clone(l), func(v api.Vec) bool { return plane.Dot(p.N, v) != p.B })
}

// inside returns at most as many integer points of the hull of points: some of the points, and others by chance.
func inside(r *rand.Rand, l []api.Vec, most int) []api.Vec {
	lo, hi, _ := hull.Box(l)
	out := []api.Vec{l[0], l[len(l)-1]}
	for k := 0; k < 20*most && len(out) < most; k++ {
		v := vec(lo.X+r.IntN(hi.X-lo.X+1), lo.Y+r.IntN(hi.Y-lo.Y+1), lo.Z+r.IntN(hi.Z-lo.Z+1))
		if hull.Has(l, v) {
			out = append(out, v)
		}
	}
	return out
}

func TestSixIsPositive(t *testing.T) { // P13.4
	hulls(21, 6000, 48, func(l []api.Vec) {
		if six := sixOf(t, l); six < 1 || six > 6*48*48*48 {
			t.Errorf("Six of %v: %d", l, six)
		}
	})
}

func TestSixIsTheSumOfCones(t *testing.T) { // P13.4
	r := source(22)
	count := 0
	hulls(23, 400, 48, func(l []api.Vec) {
		faces, _ := hull.Faces(l)
		six := sixOf(t, l)
		for _, v := range inside(r, l, 6) {
			sum := 0
			for _, p := range faces {
				if plane.Dot(p.N, v) == p.B {
					continue
				}
				sum += sixOf(t, append(on(p, l), v))
			}
			if sum != six {
				t.Errorf("Six of %v: %d, but the cones from %v have %d together", l, six, v, sum)
			}
			count++
		}
	})
	if count < 1000 {
		t.Errorf("only %d points", count)
	}
}

// matrix is an integer matrix, row by row.
type matrix [3]api.Vec

// applied returns all points, each as the matrix sends it.
func (m matrix) applied(l []api.Vec) []api.Vec {
	var out []api.Vec
	for _, v := range l {
		out = append(out, vec(plane.Dot(m[0], v), plane.Dot(m[1], v), plane.Dot(m[2], v)))
	}
	return out
}

// someMatrix returns a matrix with the determinant 1 or -1: coordinates that are exchanged or have another sign, and now and then sheared.
func someMatrix(r *rand.Rand) matrix {
	m := matrix{vec(1, 0, 0), vec(0, 1, 0), vec(0, 0, 1)}
	r.Shuffle(3, func(i, k int) { m[i], m[k] = m[k], m[i] })
	for i := range m {
		if r.IntN(2) == 0 {
			m[i] = plane.Sub(api.Vec{}, m[i])
		}
	}
	for range r.IntN(4) {
		i := r.IntN(3)
		k := (i + 1 + r.IntN(2)) % 3
		m[i] = plane.Add(m[i], m[k])
	}
	return m
}

// areIn reports whether all points lie in the workspace.
func areIn(l []api.Vec) bool {
	return !slices.ContainsFunc(l, func(v api.Vec) bool { return !plane.In(v) })
}

func TestSixOfMovedAndShearedPoints(t *testing.T) { // P13.5
	r := source(24)
	count := 0
	hulls(25, 6000, 24, func(l []api.Vec) {
		m := someMatrix(r)
		other := m.applied(l)
		lo, _, _ := hull.Box(other)
		other = moved(other, plane.Sub(near(r, 12), lo))
		if r.IntN(4) == 0 {
			other = moved(l, near(r, 3))
		}
		if !areIn(other) {
			if _, e := volume.Six(other); e != api.ErrRange {
				t.Errorf("Six of %v: error %d", other, e)
			}
			return
		}
		count++
		if got, want := sixOf(t, other), sixOf(t, l); got != want {
			t.Errorf("Six of %v: %d, but of %v: %d", l, want, other, got)
		}
	})
	if count < 1000 {
		t.Errorf("only %d lists", count)
	}
}

func TestSixOfTwiceTheCoordinates(t *testing.T) { // P13.5
	count := 0
	hulls(26, 4000, 48, func(l []api.Vec) {
		lo, hi, _ := hull.Box(l)
		l = moved(l, vec(-(lo.X+hi.X)/2, -(lo.Y+hi.Y)/2, -(lo.Z+hi.Z)/2))
		var twice []api.Vec
		for _, v := range l {
			twice = append(twice, plane.Add(v, v))
		}
		if !areIn(twice) {
			return
		}
		count++
		if got, want := sixOf(t, twice), 8*sixOf(t, l); got != want {
			t.Errorf("Six of %v: %d instead of %d", twice, got, want)
		}
	})
	if count < 500 {
		t.Errorf("only %d lists", count)
	}
}

func TestSixOfMorePoints(t *testing.T) { // P13.5
	r := source(27)
	same, more := 0, 0
	hulls(28, 3000, 47, func(l []api.Vec) {
		v := plane.Add(l[r.IntN(len(l))], near(r, 4))
		if !plane.In(v) {
			return
		}
		less, six := sixOf(t, l), sixOf(t, append(slices.Clone(l), v))
		switch {
		case six < less, (six == less) != hull.Has(l, v):
			t.Errorf("Six of %v: %d, and of it and %v: %d", l, less, v, six)
		case six == less:
			same++
		default:
			more++
		}
	})
	if same < 300 || more < 300 {
		t.Errorf("%d points inside and %d outside are too few", same, more)
	}
}

func TestSixOfTheVerticesAlone(t *testing.T) { // P13.5
	r := source(29)
	fewer := 0
	hulls(30, 4000, 48, func(l []api.Vec) {
		vertices, _ := hull.Extreme(l)
		r.Shuffle(len(vertices), func(i, k int) { vertices[i], vertices[k] = vertices[k], vertices[i] })
		if len(vertices) < len(l) {
			fewer++
		}
		if got, want := sixOf(t, vertices), sixOf(t, l); got != want {
			t.Errorf("Six of %v: %d, but of its vertices %v: %d", l, want, vertices, got)
		}
		other := append(slices.Clone(l), l[:min(48-len(l), len(l))]...) // some of them twice
		r.Shuffle(len(other), func(i, k int) { other[i], other[k] = other[k], other[i] })
		if got, want := sixOf(t, other), sixOf(t, l); got != want {
			t.Errorf("Six of %v: %d, but of %v: %d", l, want, other, got)
		}
	})
	if fewer < 1000 {
		t.Errorf("only %d lists have points that are no vertices", fewer)
	}
}

// checkFour complains unless Six of four points is the absolute value of their determinant.
func checkFour(t *testing.T, a, b, c, d api.Vec) {
	t.Helper()
	want, e := determinant(a, b, c, d), api.OK
	if want == 0 {
		e = api.ErrFlat
	}
	if got, f := volume.Six([]api.Vec{a, b, c, d}); got != max(want, -want) || f != e {
		t.Fatalf("Six of %v, %v, %v and %v: %d, %d instead of %d, %d", a, b, c, d, got, f, max(want, -want), e)
	}
}

func TestSixOfFourPoints(t *testing.T) { // P13.5
	for _, a := range grid(0, 1) {
		for _, b := range grid(-1, 0, 1) {
			for _, c := range grid(-1, 2) {
				for _, d := range grid(-1, 0, 1) {
					checkFour(t, a, b, c, d)
				}
			}
		}
	}
	for _, a := range grid(-24, 24) {
		for _, b := range grid(-24, 24) {
			for _, c := range grid(-24, 24) {
				checkFour(t, a, b, c, vec(24, -24, 23))
			}
		}
	}
	r := source(31)
	for range 50000 {
		bound := []int{2, 6, 24}[r.IntN(3)]
		checkFour(t, near(r, bound), near(r, bound), near(r, bound), near(r, bound))
	}
}

// boxPlanes returns the planes of a box.
func boxPlanes(lo, hi api.Vec) []api.Plane {
	return []api.Plane{half(1, 0, 0, hi.X), half(0, 1, 0, hi.Y), half(0, 0, 1, hi.Z), half(-1, 0, 0, -lo.X), half(0, -1, 0, -lo.Y), half(0, 0, -1, -lo.Z)}
}

func TestMostIsABound(t *testing.T) { // P13.6
	r := source(32)
	less, equal, apart := 0, 0, 0
	hulls(33, 1200, 12, func(l []api.Vec) {
		faces, _ := hull.Faces(l)
		if len(faces) > 42 {
			return
		}
		lo := plane.Add(l[r.IntN(len(l))], near(r, 5))
		hi := plane.Add(lo, vec(r.IntN(30), r.IntN(30), r.IntN(12)))
		if r.IntN(3) == 0 {
			lo, hi = plane.Sub(lo, vec(30, 20, 6)), plane.Add(hi, vec(6, 9, 20))
		}
		most := big.NewRat(int64(mostOf(t, l, lo, hi)), 1)
		common := append(faces, boxPlanes(lo, hi)...)
		if !cell.Full(common) {
			apart++
			return
		}
		switch six := sixOfCell(common); six.Cmp(most) {
		case -1:
			less++
		case 0:
			equal++
		default:
			t.Errorf("the hull of %v and the box from %v to %v have %v sixths in common, more than Most, %v", l, lo, hi, six, most)
		}
	})
	if less < 100 || equal < 100 || apart < 30 {
		t.Errorf("%d times less, %d times equal and %d times nothing are too few", less, equal, apart)
	}
}

// all returns what all functions make of points and a box, as texts.
func all(l []api.Vec, lo, hi api.Vec) []string {
	six, e := volume.Six(l)
	most, f := volume.Most(l, lo, hi)
	return []string{fmt.Sprint(six, e), fmt.Sprint(volume.Box(lo, hi)), fmt.Sprint(most, f)}
}

func TestNothingIsChanged(t *testing.T) { // R1, R3 and R4 of DOC.md, for P13.1 to P13.3
	r := source(34)
	for k := range 1500 {
		l := list(r, 48)
		if k < len(solids()) {
			l = solids()[k]
		}
		given := append(slices.Clone(l), vec(77, 77, 77))[:len(l)]
		lo, hi := near(r, 24), near(r, 24)
		first := all(given, lo, hi)
		if !slices.Equal(given, l) || given[:len(l)+1][len(l)] != vec(77, 77, 77) {
			t.Errorf("%v became %v, with %v behind it", l, given, given[:len(l)+1][len(l)])
		}
		if second := all(l, lo, hi); !slices.Equal(first, second) {
			t.Errorf("of %v: %s and %s", l, first, second)
		}
	}
	if none, empty := all(nil, vec(0, 0, 0), vec(1, 1, 1)), all([]api.Vec{}, vec(0, 0, 0), vec(1, 1, 1)); !slices.Equal(none, empty) {
		t.Errorf("of nil: %s; of no points: %s", none, empty)
	}
}

func TestNoPanic(t *testing.T) { // P1
	r := source(35)
	numbers := []int{0, 1, -1, 24, -24, 25, -25, 1 << 31, 1 << 32, -1 << 62, maxInt, minInt}
	for range 20000 {
		kinds := []int{3, 5, len(numbers)}[r.IntN(3)]
		some := func() api.Vec { return vec(numbers[r.IntN(kinds)], numbers[r.IntN(kinds)], numbers[r.IntN(kinds)]) }
		var l []api.Vec
		for range r.IntN(52) {
			l = append(l, some())
		}
		kinds = len(numbers)
		lo, hi := some(), some()
		checkMost(t, l, lo, hi)
		if got, want := volume.Box(lo, hi), wantedBox(lo, hi); got != want {
			t.Errorf("Box from %v to %v: %d instead of %d", lo, hi, got, want)
		}
	}
}
