package hull_test

import (
	"fmt"
	"slices"
	"testing"

	"collet/api"
	"collet/hull"
	"collet/plane"
)

// probes returns points of the workspace in, on and near the hull of points: some of them, points between two or three, and others by chance.
func probes(seed uint64, l []api.Vec) []api.Vec {
	r := source(seed)
	out := []api.Vec{vec(0, 0, 0), near(r, 24), near(r, 24)}
	for range 6 {
		a, b, c := l[r.IntN(len(l))], l[r.IntN(len(l))], l[r.IntN(len(l))]
		out = append(out, a, vec((a.X+b.X)/2, (a.Y+b.Y)/2, (a.Z+b.Z)/2), vec((a.X+b.X+c.X)/3, (a.Y+b.Y+c.Y)/3, (a.Z+b.Z+c.Z)/3), plane.Add(a, near(r, 1)), plane.Add(a, near(r, 3)))
	}
	return slices.DeleteFunc(out, func(v api.Vec) bool { return !plane.In(v) })
}

// isInAll reports whether a point lies in all half-spaces.
func isInAll(faces []api.Plane, v api.Vec) bool {
	return !slices.ContainsFunc(faces, func(p api.Plane) bool { return p.N.X*v.X+p.N.Y*v.Y+p.N.Z*v.Z > p.B })
}

func TestHullIsTheIntersectionOfItsFaces(t *testing.T) { // P8.5 and P8.6
	inside, outside := 0, 0
	hulls(11, 40, 24, func(l []api.Vec) {
		faces := facesOf(t, l)
		for _, v := range probes(12, l) {
			want := isCombination(t, l, v)
			if isInAll(faces, v) != want || hull.Has(l, v) != want {
				t.Errorf("%v is in the hull of %v: %v; in all half-spaces of Faces: %v; Has: %v", v, l, want, isInAll(faces, v), hull.Has(l, v))
			}
			if want {
				inside++
			} else {
				outside++
			}
		}
	})
	if inside < 300 || outside < 300 {
		t.Errorf("%d points inside and %d outside are too few", inside, outside)
	}
}

func TestHasAgreesWithFaces(t *testing.T) { // P8.5 and P8.6
	hulls(13, 2000, 24, func(l []api.Vec) {
		faces := facesOf(t, l)
		for _, v := range probes(14, l) {
			if got, want := hull.Has(l, v), isInAll(faces, v); got != want {
				t.Errorf("Has of %v and %v: %v instead of %v", l, v, got, want)
			}
		}
	})
}

func TestEachFaceIsAPolygon(t *testing.T) { // P8.2 and P8.6
	hulls(15, 4000, 48, func(l []api.Vec) {
		faces := facesOf(t, l)
		for i, p := range faces {
			if !plane.Valid(p) || i > 0 && plane.Compare(faces[i-1], p) >= 0 {
				t.Errorf("Faces of %v: %v is not valid, or not in order", l, faces)
			}
			if !isInAll([]api.Plane{p}, l[0]) || slices.ContainsFunc(l, func(v api.Vec) bool { return plane.Side(p, v) > 0 }) {
				t.Errorf("points of %v lie outside of the plane %v of Faces", l, p)
			}
			on := slices.DeleteFunc(slices.Clone(l), func(v api.Vec) bool { return plane.Side(p, v) != 0 })
			if !slices.ContainsFunc(on, func(a api.Vec) bool {
				return slices.ContainsFunc(on, func(b api.Vec) bool { return plane.Cross(plane.Sub(a, on[0]), plane.Sub(b, on[0])) != vec(0, 0, 0) })
			}) {
				t.Errorf("the plane %v of Faces of %v has only %v", p, l, on)
			}
		}
	})
}

func TestHullIsThatOfExtreme(t *testing.T) { // P8.6
	hulls(16, 3000, 48, func(l []api.Vec) {
		vertices := extremeOf(t, l)
		if got, want := facesOf(t, vertices), facesOf(t, l); !slices.Equal(got, want) {
			t.Errorf("Faces of %v: %v, but of its vertices: %v", l, want, got)
		}
		if again := extremeOf(t, vertices); !slices.Equal(again, vertices) {
			t.Errorf("Extreme of the vertices %v: %v", vertices, again)
		}
		for i, v := range vertices {
			if !slices.Contains(l, v) || i > 0 && comparePoints(vertices[i-1], v) >= 0 {
				t.Errorf("Extreme of %v: %v", l, vertices)
			}
		}
	})
}

func TestOnlyVerticesAreNeeded(t *testing.T) { // P8.7
	hulls(17, 300, 24, func(l []api.Vec) {
		vertices, faces := extremeOf(t, l), facesOf(t, l)
		for _, v := range l {
			others := without(l, v)
			if slices.Contains(vertices, v) {
				if hull.Has(others, v) {
					t.Errorf("Has of %v and their vertex %v: true", others, v)
				}
				if next, e := hull.Faces(others); e == api.OK && slices.Equal(next, faces) {
					t.Errorf("Faces of %v stays the same without the vertex %v", l, v)
				}
				continue
			}
			if !hull.Has(others, v) {
				t.Errorf("Has of %v and %v, which is no vertex: false", others, v)
			}
			if next := facesOf(t, others); !slices.Equal(next, faces) {
				t.Errorf("Faces of %v becomes %v without %v, which is no vertex", l, next, v)
			}
		}
	})
}

func TestOrderAndRepetitionDoNotMatter(t *testing.T) { // P8.7
	r := source(18)
	lists(19, 3000, 24, func(l []api.Vec) {
		other := slices.Clone(l)
		for len(l) > 0 && len(other) < 48 && r.IntN(8) > 0 {
			other = append(other, l[r.IntN(len(l))])
		}
		r.Shuffle(len(other), func(i, k int) { other[i], other[k] = other[k], other[i] })
		for i, got := range all(other, vec(1, 0, 2)) {
			if want := all(l, vec(1, 0, 2))[i]; got != want {
				t.Errorf("of %v: %s; of %v: %s", l, want, other, got)
			}
		}
	})
}

// all returns what all functions make of points and a point, as texts.
func all(l []api.Vec, v api.Vec) []string {
	faces, e := hull.Faces(l)
	vertices, f := hull.Extreme(l)
	lo, hi, ok := hull.Box(l)
	return []string{fmt.Sprint(hull.Check(l)), fmt.Sprint(faces, e), fmt.Sprint(vertices, f), fmt.Sprint(lo, hi, ok), fmt.Sprint(hull.Has(l, v))}
}

// shared returns the points that lie on all of the planes.
func shared(l []api.Vec, planes ...api.Plane) []api.Vec {
	return slices.DeleteFunc(slices.Clone(l), func(v api.Vec) bool {
		return slices.ContainsFunc(planes, func(p api.Plane) bool { return plane.Dot(p.N, v) != p.B })
	})
}

func TestVerticesEdgesAndFacets(t *testing.T) { // P8.8
	greatest := 0
	hulls(21, 2000, 48, func(l []api.Vec) {
		vertices, faces := extremeOf(t, l), facesOf(t, l)
		edges := 0
		for i, p := range faces {
			for _, q := range faces[:i] {
				switch n := len(shared(vertices, p, q)); {
				case n == 2:
					edges++
				case n > 2:
					t.Errorf("the facets %v and %v of %v have %d vertices in common", p, q, l, n)
				}
			}
		}
		if len(vertices)-edges+len(faces) != 2 {
			t.Errorf("the hull of %v has %d vertices, %d edges and %d facets", l, len(vertices), edges, len(faces))
		}
		greatest = max(greatest, len(faces))
	})
	if greatest < 80 {
		t.Errorf("no hull has more than %d facets", greatest)
	}
}

func TestMovedPoints(t *testing.T) { // P8.8
	r := source(22)
	count := 0
	hulls(23, 4000, 24, func(l []api.Vec) {
		lo, hi, _ := hull.Box(l)
		s := vec(-24-lo.X+r.IntN(49-hi.X+lo.X), -24-lo.Y+r.IntN(49-hi.Y+lo.Y), -24-lo.Z+r.IntN(49-hi.Z+lo.Z))
		next := moved(l, s)
		if s != vec(0, 0, 0) {
			count++
		}
		faces := facesOf(t, l)
		for i, p := range faces {
			faces[i].B = p.B + p.N.X*s.X + p.N.Y*s.Y + p.N.Z*s.Z
		}
		if got := facesOf(t, next); !slices.Equal(got, faces) {
			t.Errorf("Faces of %v, moved by %v: %v instead of %v", l, s, got, faces)
		}
		if got, want := extremeOf(t, next), moved(extremeOf(t, l), s); !slices.Equal(got, want) {
			t.Errorf("Extreme of %v, moved by %v: %v instead of %v", l, s, got, want)
		}
		if a, b, ok := hull.Box(next); a != plane.Add(lo, s) || b != plane.Add(hi, s) || !ok {
			t.Errorf("Box of %v, moved by %v: %v, %v, %v", l, s, a, b, ok)
		}
		for _, v := range probes(24, l) {
			if w := plane.Add(v, s); plane.In(w) && hull.Has(next, w) != hull.Has(l, v) {
				t.Errorf("Has of %v and %v: %v, but not after both were moved by %v", l, v, hull.Has(l, v), s)
			}
		}
		out := vec(25-hi.X, s.Y, s.Z)
		if e := hull.Check(moved(l, out)); e != api.ErrRange {
			t.Errorf("Check of %v, moved by %v: %d", l, out, e)
		}
	})
	if count < 1000 {
		t.Errorf("only %d lists were moved", count)
	}
}

func TestNothingIsSharedOrChanged(t *testing.T) { // R3 of DOC.md, for P8.1 to P8.5
	lists(25, 500, 48, func(l []api.Vec) {
		given := append(slices.Clone(l), vec(77, 77, 77))[:len(l)]
		first := fmt.Sprint(all(given, vec(1, 1, 1)))
		faces, _ := hull.Faces(given)
		vertices, _ := hull.Extreme(given)
		for i := range faces {
			faces[i] = half(9, 9, 9, 9)
		}
		for i := range vertices {
			vertices[i] = vec(9, 9, 9)
		}
		if !slices.Equal(given, l) || given[:len(l)+1][len(l)] != vec(77, 77, 77) {
			t.Errorf("%v became %v, with %v behind it", l, given, given[:len(l)+1][len(l)])
		}
		if again := fmt.Sprint(all(given, vec(1, 1, 1))); again != first {
			t.Errorf("of %v: %s, and when results were changed %s", l, first, again)
		}
	})
}

func TestSameCallsSameResults(t *testing.T) { // R1 and R4 of DOC.md
	lists(26, 1000, 48, func(l []api.Vec) {
		first := all(l, vec(0, 1, 0))
		for range 3 {
			if next := all(l, vec(0, 1, 0)); !slices.Equal(next, first) {
				t.Errorf("of %v: %s and %s", l, first, next)
			}
		}
	})
	if none, empty := all(nil, vec(0, 0, 0)), all([]api.Vec{}, vec(0, 0, 0)); !slices.Equal(none, empty) {
		t.Errorf("of nil: %s; of no points: %s", none, empty)
	}
}

func TestNoPanic(t *testing.T) { // P1
	r := source(27)
	numbers := []int{0, 1, -1, 24, -24, 25, -25, 1 << 31, 1 << 32, -1 << 62, maxInt, minInt}
	for range 20000 {
		kinds := []int{3, 5, len(numbers)}[r.IntN(3)]
		var l []api.Vec
		for range r.IntN(52) {
			l = append(l, vec(numbers[r.IntN(kinds)], numbers[r.IntN(kinds)], numbers[r.IntN(kinds)]))
		}
		v := vec(numbers[r.IntN(len(numbers))], numbers[r.IntN(len(numbers))], numbers[r.IntN(len(numbers))])
		checkError(t, l, wantedCheck(l))
		hull.Box(l)
		if hull.Has(l, v) && max(v.X, v.Y, v.Z) > 24 {
			t.Errorf("Has of %v and %v: true", l, v)
		}
	}
}
