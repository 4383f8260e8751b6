package hull_test

import (
	"cmp"
	"math"
	"math/rand/v2"
	"slices"
	"testing"

	"collet/api"
	"collet/hull"
	"collet/lp"
	"collet/plane"
)

const (
	maxInt = math.MaxInt
	minInt = math.MinInt
)

// vec returns a vector.
func vec(x, y, z int) api.Vec {
	return api.Vec{X: x, Y: y, Z: z}
}

// half returns the half-space {(x, y, z), b}.
func half(x, y, z, b int) api.Plane {
	return api.Plane{N: vec(x, y, z), B: b}
}

// vecs returns the points with these coordinates, three for each.
func vecs(l ...int) []api.Vec {
	var out []api.Vec
	for c := range slices.Chunk(l, 3) {
		out = append(out, vec(c[0], c[1], c[2]))
	}
	return out
}

// grid returns all points that have no other coordinates than these, in order if these are.
func grid(coordinates ...int) []api.Vec {
	var out []api.Vec
	for _, x := range coordinates {
		for _, y := range coordinates {
			for _, z := range coordinates {
				out = append(out, vec(x, y, z))
			}
		}
	}
	return out
}

// from returns the integers from a to b.
func from(a, b int) []int {
	var out []int
	for n := a; n <= b; n++ {
		out = append(out, n)
	}
	return out
}

// moved returns all points, each moved by s.
func moved(l []api.Vec, s api.Vec) []api.Vec {
	var out []api.Vec
	for _, v := range l {
		out = append(out, plane.Add(v, s))
	}
	return out
}

// without returns all points that are not v.
func without(l []api.Vec, v api.Vec) []api.Vec {
	return slices.DeleteFunc(slices.Clone(l), func(w api.Vec) bool { return w == v })
}

// tetrahedron returns the points of the examples.
func tetrahedron() []api.Vec {
	return vecs(0, 0, 0, 2, 0, 0, 0, 2, 0, 0, 0, 2)
}

// octahedron returns the six points that are r away from the origin along X, Y and Z.
func octahedron(r int) []api.Vec {
	return vecs(r, 0, 0, -r, 0, 0, 0, r, 0, 0, -r, 0, 0, 0, r, 0, 0, -r)
}

// ball returns 48 points that are about as far from the origin as each other, in no order: almost all of them are vertices.
func ball(r *rand.Rand) []api.Vec {
	var out []api.Vec
	for len(out) < 48 {
		v := near(r, 24)
		if d := plane.Dot(v, v); d > 560 && d < 577 && !slices.Contains(out, v) {
			out = append(out, v)
		}
	}
	return out
}

// solids returns lists without an error: of few points, of many, thin ones, ones of which many points are no vertices, and ones that reach to the ends of the workspace.
func solids() [][]api.Vec {
	r := source(20)
	row := tetrahedron()
	for k := range 44 {
		row = append(row, vec(k/2-22, k/2-22, k/2-22))
	}
	cylinder := vecs(3, 0, 0, -3, 0, 0, 0, 3, 0, 0, -3, 0, 2, 2, 0, 2, -2, 0, -2, 2, 0, -2, -2, 0)
	return [][]api.Vec{
		tetrahedron(), vecs(0, 0, 0, 1, 0, 0, 0, 1, 0, 0, 0, 1), vecs(-24, -24, -24, 24, 24, 23, 24, 23, 24, 23, 24, 24), vecs(0, 0, 0, 1, 2, 3, 2, 3, 4, 3, 4, 6), vecs(-24, -24, -24, 24, 24, 24, 0, 0, 0, 1, 0, 0, 0, 1, 0),
		vecs(0, 0, 0, 4, 0, 0, 0, 4, 0, 4, 4, 0, 2, 2, 5), vecs(0, 0, 0, 6, 0, 0, 0, 6, 0, 0, 0, 6, 1, 1, 1, 2, 2, 2, 3, 3, 0, 2, 0, 0),
		grid(0, 1), grid(0, 2), grid(-24, 24), grid(0, 1, 2), append(grid(-24, 24), grid(-7, 0, 7)...), append(grid(0, 1, 2), octahedron(3)...), octahedron(1), octahedron(24), append(octahedron(2), grid(-1, 1)...),
		append(cylinder, moved(cylinder, vec(0, 0, 9))...), append(moved(cylinder, vec(5, 0, 0)), moved(cylinder, vec(-3, 1, 1))...), row, ball(r), ball(r), slices.Repeat(tetrahedron(), 12), slices.Repeat(grid(0, 3), 6),
	}
}

// flats returns lists of points of the workspace that lie in one plane.
func flats() [][]api.Vec {
	var square, skew []api.Vec
	for i := range 48 {
		x, y := i%7, i/7
		square = append(square, vec(x, y, -24))
		skew = append(skew, vec(2*x-y, x+y, 3*y-2*x)) // of two directions
	}
	return [][]api.Vec{
		nil, {}, vecs(0, 0, 0), vecs(0, 0, 0, 24, 24, 24), vecs(0, 0, 0, 1, 0, 0, 0, 1, 0), vecs(1, 2, 3, 1, 2, 3, 1, 2, 3, 1, 2, 3), slices.Repeat(vecs(5, 5, 5), 48), slices.Repeat(vecs(0, 0, 0, 2, 0, 0, 0, 2, 0), 16),
		vecs(0, 0, 0, 1, 1, 1, 2, 2, 2, 3, 3, 3), vecs(-24, 24, -24, -12, 12, -12, 0, 0, 0, 24, -24, 24, 0, 0, 0), vecs(1, 1, 0, 1, 1, 1, 1, 1, 2, 1, 1, 3, 1, 1, 4, 1, 1, 24), vecs(0, 0, 0, 0, 0, 0, 0, 0, 0, 0, 0, 1, 0, 0, 1, 0, 1, 0),
		vecs(0, 0, 0, 2, 0, 0, 0, 2, 0, 2, 2, 0), vecs(1, 0, 0, 0, 1, 0, 0, 0, 1, 1, 1, -1), vecs(24, 0, 0, 0, 24, 0, 0, 0, 24, 8, 8, 8, 24, 24, -24), vecs(-24, -24, 5, 24, -24, 5, 24, 24, 5, -24, 24, 5), vecs(7, 0, 0, 7, 1, 0, 7, 0, 1, 7, 5, 5), vecs(0, 7, 0, 1, 7, 0, 0, 7, 1, 5, 7, 5),
		square, skew,
	}
}

// source returns numbers by chance; the same ones for the same seed.
func source(seed uint64) *rand.Rand {
	return rand.New(rand.NewPCG(seed, 8))
}

// near returns a point whose coordinates are from -bound to bound.
func near(r *rand.Rand, bound int) api.Vec {
	return vec(r.IntN(2*bound+1)-bound, r.IntN(2*bound+1)-bound, r.IntN(2*bound+1)-bound)
}

// list returns at most as many points of the workspace by chance: near to each other or not, in a plane or not, now and then twice.
func list(r *rand.Rand, most int) []api.Vec {
	bound := []int{1, 2, 4, 12, 24}[r.IntN(5)]
	middle := near(r, 24-bound)
	shape := r.IntN(8)
	var out []api.Vec
	for range r.IntN(most + 1) {
		v := near(r, bound)
		switch shape {
		case 0: // one plane or two
			v.Z = bound * r.IntN(2)
		case 1: // one plane, and now and then beside it
			if r.IntN(6) > 0 {
				v.Y = v.X
			}
		case 2: // corners of a box
			v = vec(bound-2*bound*r.IntN(2), bound-2*bound*r.IntN(2), bound-2*bound*r.IntN(2))
		case 3: // planes through the middle
			v.X = v.X * r.IntN(2)
		}
		out = append(out, plane.Add(middle, v))
		if r.IntN(8) == 0 && len(out) < most {
			out = append(out, out[r.IntN(len(out))])
		}
	}
	return out[:min(len(out), most)]
}

// lists calls f with all solids and flats, and with n other lists of at most as many points.
func lists(seed uint64, n, most int, f func(l []api.Vec)) {
	for _, l := range slices.Concat(solids(), flats()) {
		f(l)
	}
	r := source(seed)
	for range n {
		f(list(r, most))
	}
}

// hulls calls f with those of the lists that have no error.
func hulls(seed uint64, n, most int, f func(l []api.Vec)) {
	lists(seed, n, most, func(l []api.Vec) {
		if hull.Check(l) == api.OK {
			f(l)
		}
	})
}

// facesOf returns what Faces returns for a list without an error.
func facesOf(t *testing.T, l []api.Vec) []api.Plane {
	t.Helper()
	faces, e := hull.Faces(l)
	if e != api.OK {
		t.Fatalf("Faces of %v: error %d", l, e)
	}
	return faces
}

// extremeOf returns what Extreme returns for a list without an error.
func extremeOf(t *testing.T, l []api.Vec) []api.Vec {
	t.Helper()
	vertices, e := hull.Extreme(l)
	if e != api.OK {
		t.Fatalf("Extreme of %v: error %d", l, e)
	}
	return vertices
}

// determinant returns the determinant of the differences of b, c and d to a: positive if d is on the side from which a, b, c go round counterclockwise.
func determinant(a, b, c, d api.Vec) int {
	x, y, z := b.X-a.X, b.Y-a.Y, b.Z-a.Z
	p, q, r := c.X-a.X, c.Y-a.Y, c.Z-a.Z
	return x*(q*(d.Z-a.Z)-r*(d.Y-a.Y)) - y*(p*(d.Z-a.Z)-r*(d.X-a.X)) + z*(p*(d.Y-a.Y)-q*(d.X-a.X))
}

// isFlat reports whether no four of the points are the corners of a tetrahedron.
func isFlat(l []api.Vec) bool {
	for i := range l {
		for k := range i {
			for _, d := range l {
				if determinant(l[0], l[i], l[k], d) != 0 {
					return false
				}
			}
		}
	}
	return true
}

// wantedCheck returns what Check is to return.
func wantedCheck(l []api.Vec) api.Errno {
	outside := slices.ContainsFunc(l, func(v api.Vec) bool {
		return max(v.X, v.Y, v.Z) > 24 || min(v.X, v.Y, v.Z) < -24
	})
	switch {
	case len(l) > 48:
		return api.ErrMany
	case outside:
		return api.ErrRange
	case isFlat(l):
		return api.ErrFlat
	}
	return api.OK
}

// wantedFaces returns what Faces is to return for a list without an error: of each three corners of a triangle that no point lies above, the plane.
func wantedFaces(l []api.Vec) []api.Plane {
	var out []api.Plane
	for i, a := range l {
		for _, b := range l[i:] {
			for _, c := range l[i:] { // in both directions
				below := false
				above := slices.ContainsFunc(l, func(d api.Vec) bool {
					below = below || determinant(a, b, c, d) < 0
					return determinant(a, b, c, d) > 0
				})
				if above || !below { // on a line, all determinants are 0
					continue
				}
				n := vec(determinant(a, b, c, vec(a.X+1, a.Y, a.Z)), determinant(a, b, c, vec(a.X, a.Y+1, a.Z)), determinant(a, b, c, vec(a.X, a.Y, a.Z+1)))
				d := 4608
				for n.X%d != 0 || n.Y%d != 0 || n.Z%d != 0 {
					d--
				}
				n = vec(n.X/d, n.Y/d, n.Z/d)
				out = append(out, api.Plane{N: n, B: n.X*a.X + n.Y*a.Y + n.Z*a.Z})
			}
		}
	}
	slices.SortFunc(out, func(p, q api.Plane) int {
		return cmp.Or(comparePoints(p.N, q.N), cmp.Compare(p.B, q.B))
	})
	return slices.Compact(out)
}

// comparePoints compares two points by X, then by Y, then by Z.
func comparePoints(a, b api.Vec) int {
	return slices.Compare([]int{a.X, a.Y, a.Z}, []int{b.X, b.Y, b.Z})
}

// isCombination reports whether v is a convex combination of 1 to 48 points, by a linear program.
func isCombination(t *testing.T, l []api.Vec, v api.Vec) bool {
	t.Helper()
	question := api.Linear{Cost: make([]int, len(l)), Rhs: []int{v.X, v.Y, v.Z, 1}}
	for _, w := range l {
		question.A = append(question.A, []int{w.X, w.Y, w.Z, 1})
	}
	answer, e := lp.Solve(question)
	if e != api.OK || !lp.Check(question, answer) {
		t.Fatalf("no answer whether %v is a combination of %v: error %d", v, l, e)
	}
	return answer.Kind != api.SoNone
}

// wantedExtreme returns what Extreme is to return for a list without an error: all points that are no combinations of the others.
func wantedExtreme(t *testing.T, l []api.Vec) []api.Vec {
	t.Helper()
	var out []api.Vec
	for _, v := range l {
		if !isCombination(t, without(l, v), v) {
			out = append(out, v)
		}
	}
	slices.SortFunc(out, comparePoints)
	return slices.Compact(out)
}
