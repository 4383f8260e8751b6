package hull_test

import (
	"slices"
	"testing"

	"collet/api"
	"collet/hull"
)

// checkError complains unless Check, Faces and Extreme return the error, and together with it nothing else.
func checkError(t *testing.T, l []api.Vec, want api.Errno) {
	t.Helper()
	if got := hull.Check(l); got != want {
		t.Errorf("Check of %d points, %v: %d instead of %d", len(l), l[:min(len(l), 50)], got, want)
	}
	faces, e := hull.Faces(l)
	if e != want || (len(faces) == 0) != (e != api.OK) {
		t.Errorf("Faces of %d points, %v: %v, %d instead of %d", len(l), l[:min(len(l), 50)], faces, e, want)
	}
	vertices, e := hull.Extreme(l)
	if e != want || (len(vertices) == 0) != (e != api.OK) {
		t.Errorf("Extreme of %d points, %v: %v, %d instead of %d", len(l), l[:min(len(l), 50)], vertices, e, want)
	}
}

func TestCheckOfExamples(t *testing.T) { // P8.1 to P8.3
	checkError(t, tetrahedron(), api.OK)
	checkError(t, tetrahedron()[:3], api.ErrFlat)
	checkError(t, append(tetrahedron(), vec(25, 0, 0)), api.ErrRange)
	checkError(t, slices.Repeat(tetrahedron(), 13)[:49], api.ErrMany)
}

func TestTooManyPoints(t *testing.T) { // P8.1
	many := slices.Repeat(grid(0, 3), 7)
	checkError(t, many[:48], api.OK)
	checkError(t, many[:49], api.ErrMany)
	checkError(t, many, api.ErrMany)
	checkError(t, make([]api.Vec, 48), api.ErrFlat)
	checkError(t, make([]api.Vec, 49), api.ErrMany) // before ErrFlat
	checkError(t, make([]api.Vec, 1<<20), api.ErrMany)
	checkError(t, slices.Repeat(vecs(25, 0, 0), 49), api.ErrMany) // before ErrRange
	checkError(t, append(many[:48:48], vec(minInt, 0, 0)), api.ErrMany)
	checkError(t, ball(source(1)), api.OK)
	checkError(t, append(ball(source(1)), vec(0, 0, 0)), api.ErrMany)
}

func TestPointsOutside(t *testing.T) { // P8.1
	for _, n := range []int{25, -25, 26, 1 << 31, 1 << 32, 1 << 62, -1 << 62, maxInt, minInt} {
		for _, v := range []api.Vec{vec(n, 0, 0), vec(0, n, 0), vec(0, 0, n), vec(n, n, n), vec(24, -24, n)} {
			for k := range 5 {
				checkError(t, slices.Insert(tetrahedron(), k, v), api.ErrRange)
			}
			checkError(t, []api.Vec{v}, api.ErrRange)
			for _, l := range flats() {
				if len(l) < 48 {
					checkError(t, append(slices.Clone(l), v), api.ErrRange) // before ErrFlat
				}
			}
			checkError(t, append(make([]api.Vec, 47), v), api.ErrRange)
		}
	}
	for _, v := range grid(-24, 24) {
		checkError(t, append(tetrahedron(), v), api.OK)
	}
}

func TestFlatPoints(t *testing.T) { // P8.1
	for _, l := range flats() {
		checkError(t, l, api.ErrFlat)
		for k := range l {
			checkError(t, slices.Delete(slices.Clone(l), k, k+1), api.ErrFlat)
		}
	}
	square := flats()[18]
	for k := range square { // one point above a plane is enough, wherever it comes
		above := slices.Clone(square)
		above[k] = vec(3, 3, -23)
		checkError(t, above, api.OK)
	}
}

func TestCheckOfLists(t *testing.T) { // P8.1
	counts := map[api.Errno]int{}
	lists(2, 20000, 9, func(l []api.Vec) {
		checkError(t, l, wantedCheck(l))
		counts[wantedCheck(l)]++
	})
	lists(3, 300, 48, func(l []api.Vec) { checkError(t, l, wantedCheck(l)) })
	if counts[api.OK] < 5000 || counts[api.ErrFlat] < 5000 {
		t.Errorf("lists by their errors: %v", counts)
	}
}

// expected is a list of points with the planes of its facets, and its vertices.
type expected struct {
	name     string
	l        []api.Vec
	faces    []api.Plane
	vertices []api.Vec
}

// examples returns lists with what is known of them.
func examples() []expected {
	coordinates := []api.Plane{half(-1, 0, 0, 0), half(0, -1, 0, 0), half(0, 0, -1, 0)}
	box := []api.Plane{half(-1, 0, 0, 24), half(0, -1, 0, 24), half(0, 0, -1, 24), half(0, 0, 1, 24), half(0, 1, 0, 24), half(1, 0, 0, 24)}
	return []expected{
		{"tetrahedron", tetrahedron(), append(slices.Clone(coordinates), half(1, 1, 1, 2)), vecs(0, 0, 0, 0, 0, 2, 0, 2, 0, 2, 0, 0)},
		{"tetrahedron and points of it", append(tetrahedron(), vec(1, 1, 0), vec(0, 0, 0)), append(slices.Clone(coordinates), half(1, 1, 1, 2)), vecs(0, 0, 0, 0, 0, 2, 0, 2, 0, 2, 0, 0)},
		{"least tetrahedron", vecs(0, 0, 1, 1, 0, 0, 0, 0, 0, 0, 1, 0), append(slices.Clone(coordinates), half(1, 1, 1, 1)), vecs(0, 0, 0, 0, 0, 1, 0, 1, 0, 1, 0, 0)},
		{"workspace", grid(24, -24), box, grid(-24, 24)},
		{"workspace with points inside, on facets and on edges", append(grid(-7, 0, 7), append(vecs(24, 0, 0, 24, 24, 0, 0, -24, 24, 0, 0, -24), grid(24, -24)...)...), box, grid(-24, 24)},
		{"octahedron", octahedron(5), []api.Plane{half(-1, -1, -1, 5), half(-1, -1, 1, 5), half(-1, 1, -1, 5), half(-1, 1, 1, 5), half(1, -1, -1, 5), half(1, -1, 1, 5), half(1, 1, -1, 5), half(1, 1, 1, 5)}, vecs(-5, 0, 0, 0, -5, 0, 0, 0, -5, 0, 0, 5, 0, 5, 0, 5, 0, 0)},
		{"pyramid", vecs(4, 4, 0, 2, 2, 5, 0, 0, 0, 2, 2, 0, 4, 0, 0, 0, 4, 0), []api.Plane{half(-5, 0, 2, 0), half(0, -5, 2, 0), half(0, 0, -1, 0), half(0, 5, 2, 20), half(5, 0, 2, 20)}, vecs(0, 0, 0, 0, 4, 0, 2, 2, 5, 4, 0, 0, 4, 4, 0)},
		{"box from (-1 0 3) to (2 4 5)", vecs(-1, 0, 3, 2, 0, 3, -1, 4, 3, 2, 4, 3, -1, 0, 5, 2, 0, 5, -1, 4, 5, 2, 4, 5, 0, 0, 3, 1, 1, 5), []api.Plane{half(-1, 0, 0, 1), half(0, -1, 0, 0), half(0, 0, -1, -3), half(0, 0, 1, 5), half(0, 1, 0, 4), half(1, 0, 0, 2)}, vecs(-1, 0, 3, -1, 0, 5, -1, 4, 3, -1, 4, 5, 2, 0, 3, 2, 0, 5, 2, 4, 3, 2, 4, 5)},
		{"greatest components", vecs(-24, -24, 24, 24, -24, -24, -24, 24, -24, -24, -24, -24), []api.Plane{half(-1, 0, 0, 24), half(0, -1, 0, 24), half(0, 0, -1, 24), half(1, 1, 1, -24)}, vecs(-24, -24, -24, -24, -24, 24, -24, 24, -24, 24, -24, -24)},
	}
}

func TestFacesAndExtremeOfExamples(t *testing.T) { // P8.2 and P8.3
	for _, x := range examples() {
		if got, e := hull.Faces(x.l); e != api.OK || !slices.Equal(got, x.faces) {
			t.Errorf("Faces of %s: %v, %d instead of %v", x.name, got, e, x.faces)
		}
		if got, e := hull.Extreme(x.l); e != api.OK || !slices.Equal(got, x.vertices) {
			t.Errorf("Extreme of %s: %v, %d instead of %v", x.name, got, e, x.vertices)
		}
	}
}

// checkFaces complains unless Faces of a list without an error is as it must be.
func checkFaces(t *testing.T, l []api.Vec) {
	t.Helper()
	if got, want := facesOf(t, l), wantedFaces(l); !slices.Equal(got, want) {
		t.Errorf("Faces of %v: %v instead of %v", l, got, want)
	}
}

func TestFacesOfLists(t *testing.T) { // P8.2
	hulls(4, 4000, 9, func(l []api.Vec) { checkFaces(t, l) })
	hulls(5, 300, 24, func(l []api.Vec) { checkFaces(t, l) })
	hulls(6, 30, 48, func(l []api.Vec) { checkFaces(t, l) })
}

// subsets calls f with all lists that have some of the points, in their order.
func subsets(l []api.Vec, f func(l []api.Vec)) {
	for bits := range 1 << len(l) {
		var out []api.Vec
		for i, v := range l {
			if bits>>i&1 == 1 {
				out = append(out, v)
			}
		}
		f(out)
	}
}

func TestFacesAndExtremeOfSubsets(t *testing.T) { // P8.1 to P8.3
	for _, l := range [][]api.Vec{grid(0, 1), append(octahedron(2), vecs(1, 0, 0, 1, 1, 0, 0, 0, 0)...)} {
		subsets(l, func(l []api.Vec) {
			checkError(t, l, wantedCheck(l))
			if wantedCheck(l) != api.OK {
				return
			}
			checkFaces(t, l)
			checkExtreme(t, l)
		})
	}
}

// checkExtreme complains unless Extreme of a list without an error is as it must be.
func checkExtreme(t *testing.T, l []api.Vec) {
	t.Helper()
	if got, want := extremeOf(t, l), wantedExtreme(t, l); !slices.Equal(got, want) {
		t.Errorf("Extreme of %v: %v instead of %v", l, got, want)
	}
}

func TestExtremeOfLists(t *testing.T) { // P8.3
	hulls(7, 400, 9, func(l []api.Vec) { checkExtreme(t, l) })
	hulls(8, 20, 24, func(l []api.Vec) { checkExtreme(t, l) })
}

func TestNoVertexIsAMidpoint(t *testing.T) { // P8.3
	hulls(9, 4000, 24, func(l []api.Vec) {
		vertices := extremeOf(t, l)
		for i, a := range l {
			for _, b := range l[:i] {
				middle := vec((a.X+b.X)>>1, (a.Y+b.Y)>>1, (a.Z+b.Z)>>1)
				if a != b && middle == vec(a.X+b.X-middle.X, a.Y+b.Y-middle.Y, a.Z+b.Z-middle.Z) && slices.Contains(vertices, middle) {
					t.Errorf("Extreme of %v has the midpoint %v of %v and %v", l, middle, a, b)
				}
			}
		}
	})
}

func TestBox(t *testing.T) { // P8.4
	for _, x := range []struct {
		l      []api.Vec
		lo, hi api.Vec
		ok     bool
	}{
		{vecs(3, -1, 0, 1, 5, 0), vec(1, -1, 0), vec(3, 5, 0), true}, {nil, vec(0, 0, 0), vec(0, 0, 0), false}, {[]api.Vec{}, vec(0, 0, 0), vec(0, 0, 0), false},
		{vecs(7, -8, 9), vec(7, -8, 9), vec(7, -8, 9), true}, {vecs(-1, -2, -3), vec(-1, -2, -3), vec(-1, -2, -3), true}, {vecs(0, 0, 0), vec(0, 0, 0), vec(0, 0, 0), true}, {tetrahedron(), vec(0, 0, 0), vec(2, 2, 2), true},
		{vecs(5, 6, 7, 7, 6, 5, 6, 5, 6), vec(5, 5, 5), vec(7, 6, 7), true}, {vecs(-5, -6, -7, -7, -6, -5), vec(-7, -6, -7), vec(-5, -6, -5), true},
		{vecs(25, 0, 0, 0, -100, 0, 0, 0, 1<<40), vec(0, -100, 0), vec(25, 0, 1<<40), true}, {vecs(maxInt, minInt, 0, minInt, 0, maxInt), vec(minInt, minInt, 0), vec(maxInt, 0, maxInt), true},
		{slices.Repeat(vecs(1, 2, 3), 1000), vec(1, 2, 3), vec(1, 2, 3), true}, {append(make([]api.Vec, 100), vec(-9, 9, minInt)), vec(-9, 0, minInt), vec(0, 9, 0), true},
	} {
		if lo, hi, ok := hull.Box(x.l); lo != x.lo || hi != x.hi || ok != x.ok {
			t.Errorf("Box of %d points, %v: %v, %v, %v instead of %v, %v, %v", len(x.l), x.l[:min(len(x.l), 50)], lo, hi, ok, x.lo, x.hi, x.ok)
		}
	}
}

func TestBoxOfLists(t *testing.T) { // P8.4
	lists(10, 5000, 60, func(l []api.Vec) {
		var x, y, z []int
		for _, v := range l {
			x, y, z = append(x, v.X), append(y, v.Y), append(z, v.Z)
		}
		if len(l) == 0 {
			return
		}
		lo, hi, ok := hull.Box(l)
		if lo != vec(slices.Min(x), slices.Min(y), slices.Min(z)) || hi != vec(slices.Max(x), slices.Max(y), slices.Max(z)) || !ok {
			t.Errorf("Box of %v: %v, %v, %v", l, lo, hi, ok)
		}
	})
}

func TestHas(t *testing.T) { // P8.5
	for _, x := range []struct {
		l    []api.Vec
		v    api.Vec
		want bool
	}{
		{tetrahedron(), vec(1, 1, 0), true}, {tetrahedron(), vec(1, 1, 1), false}, {tetrahedron(), vec(0, 0, 0), true}, {tetrahedron(), vec(2, 0, 0), true}, {tetrahedron(), vec(1, 0, 0), true}, {tetrahedron(), vec(-1, 0, 0), false}, {tetrahedron(), vec(3, 0, 0), false}, {tetrahedron(), vec(0, 2, 1), false},
		{octahedron(3), vec(1, 1, 1), true}, {octahedron(3), vec(-2, 1, 0), true}, {octahedron(3), vec(2, 1, 1), false}, {octahedron(3), vec(0, -2, -2), false},
		{grid(-24, 24), vec(24, 24, 24), true}, {grid(-24, 24), vec(-24, 3, 24), true}, {grid(-24, 24), vec(0, 0, 0), true},
	} {
		if got := hull.Has(x.l, x.v); got != x.want {
			t.Errorf("Has of %v and %v: %v", x.l, x.v, got)
		}
	}
}

func TestHasNothingOutside(t *testing.T) { // P8.5
	for _, n := range []int{25, -25, 1 << 32, 1 << 62, -1 << 62, 1 << 63 / 3, maxInt, minInt} {
		for _, v := range []api.Vec{vec(n, 0, 0), vec(0, n, 0), vec(0, 0, n), vec(n, n, n), vec(n, n, 0), vec(-n, n, 0), vec(0, n, -n)} {
			for _, l := range solids() {
				if hull.Has(l, v) {
					t.Errorf("Has of %v and %v, outside of the workspace: true", l, v)
				}
			}
		}
	}
}

func TestHasOfWrongLists(t *testing.T) { // P8.5
	wrong := append(flats(), append(tetrahedron(), vec(25, 0, 0)), append(grid(-1, 1), vec(0, minInt, 0)), slices.Repeat(tetrahedron(), 13)[:49])
	for _, l := range wrong {
		for _, v := range append(slices.Clone(l), vec(0, 0, 0), vec(1, 0, 0)) {
			if hull.Has(l, v) {
				t.Errorf("Has of %v, which have an error, and %v: true", l, v)
			}
		}
	}
}

func TestHasAllThatIsACombination(t *testing.T) { // P8.5 and P8.6
	for _, l := range [][]api.Vec{tetrahedron(), grid(0, 2), octahedron(3), solids()[3], solids()[5], append(octahedron(2), vec(-1, -1, -1), vec(1, 1, 1))} {
		lo, hi, _ := hull.Box(l)
		for _, v := range grid(from(-2, 4)...) {
			if v.X < lo.X-1 || v.X > hi.X+1 || v.Y < lo.Y-1 || v.Y > hi.Y+1 || v.Z < lo.Z-1 || v.Z > hi.Z+1 {
				continue
			}
			if got, want := hull.Has(l, v), isCombination(t, l, v); got != want {
				t.Errorf("Has of %v and %v: %v instead of %v", l, v, got, want)
			}
		}
	}
}
