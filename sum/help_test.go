package sum_test

import (
	"math"
	"math/big"
	"math/rand/v2"
	"slices"
	"testing"

	"collet/api"
	"collet/hull"
	"collet/lp"
	"collet/plane"
	"collet/sum"
)

const (
	maxInt = math.MaxInt
	minInt = math.MinInt
)

// vec returns a vector.
func vec(x, y, z int) api.Vec {
	return api.Vec{X: x, Y: y, Z: z}
}

// half returns the half-space {(x, y, z), b}.
func half(x, y, z, b int) api.Plane {
	return api.Plane{N: vec(x, y, z), B: b}
}

// vecs returns the points with these coordinates, three for each.
func vecs(l ...int) []api.Vec {
	var out []api.Vec
	for c := range slices.Chunk(l, 3) {
		out = append(out, vec(c[0], c[1], c[2]))
	}
	return out
}

// components returns the components of v.
func components(v api.Vec) []int {
	return []int{v.X, v.Y, v.Z}
}

// grid returns all points that have no other coordinates than these, in order if these are.
func grid(coordinates ...int) []api.Vec {
	var out []api.Vec
	for _, x := range coordinates {
		for _, y := range coordinates {
			for _, z := range coordinates {
				out = append(out, vec(x, y, z))
			}
		}
	}
	return out
}

// row returns n points of a line.
func row(n int, from, step api.Vec) []api.Vec {
	var out []api.Vec
	for k := range n {
		out = append(out, vec(from.X+k*step.X, from.Y+k*step.Y, from.Z+k*step.Z))
	}
	return out
}

// moved returns all points, each moved by s.
func moved(l []api.Vec, s api.Vec) []api.Vec {
	var out []api.Vec
	for _, v := range l {
		out = append(out, vec(v.X+s.X, v.Y+s.Y, v.Z+s.Z))
	}
	return out
}

// tetra returns the points of the examples.
func tetra() []api.Vec {
	return vecs(0, 0, 0, 1, 0, 0, 0, 1, 0, 0, 0, 1)
}

// octahedron returns the six points that are r away from the origin along X, Y and Z.
func octahedron(r int) []api.Vec {
	return vecs(r, 0, 0, -r, 0, 0, 0, r, 0, 0, -r, 0, 0, 0, r, 0, 0, -r)
}

// unit returns the cell of the examples of chapter 9.
func unit() []api.Plane {
	return []api.Plane{half(1, 0, 0, 1), half(-1, 0, 0, 0), half(0, 1, 0, 1), half(0, -1, 0, 0), half(0, 0, 1, 1), half(0, 0, -1, 0)}
}

// corners returns the corners of the box of all points that are within e of the origin, each once.
func corners(e api.Vec) []api.Vec {
	var out []api.Vec
	for _, v := range grid(-1, 1) {
		if w := vec(v.X*e.X, v.Y*e.Y, v.Z*e.Z); !slices.Contains(out, w) {
			out = append(out, w)
		}
	}
	return out
}

// isBound reports whether e is an error bound.
func isBound(e api.Vec) bool {
	return !slices.ContainsFunc(components(e), func(n int) bool { return n < 0 || n > 12 })
}

// isValid reports whether a plane is valid.
func isValid(p api.Plane) bool {
	divisor := new(big.Int)
	for _, n := range components(p.N) {
		if n < -4608 || n > 4608 {
			return false
		}
		divisor.GCD(nil, nil, divisor, new(big.Int).Abs(big.NewInt(int64(n))))
	}
	return p.B >= -1<<21 && p.B <= 1<<21 && divisor.Cmp(big.NewInt(1)) == 0
}

// wanted returns what Grow is to return, with the sign 1, or Shrink, with -1.
func wanted(c []api.Plane, e api.Vec, sign int) ([]api.Plane, bool) {
	if !isBound(e) {
		return nil, false
	}
	var out []api.Plane
	for _, p := range c {
		q := p
		for i, n := range components(p.N) {
			q.B += sign * max(n, -n) * components(e)[i] // wraps around only where p is not valid
		}
		if !isValid(p) || !isValid(q) {
			return nil, false
		}
		out = append(out, q)
	}
	return out, true
}

// checkBoth complains unless Grow and Shrink of a cell are as they must be, and reports what they return besides planes.
func checkBoth(t *testing.T, c []api.Plane, e api.Vec) (bool, bool) {
	t.Helper()
	grown, grows := sum.Grow(c, e)
	if want, ok := wanted(c, e, 1); grows != ok || !slices.Equal(grown, want) {
		t.Errorf("Grow of %v by %v: %v, %v instead of %v, %v", c, e, grown, grows, want, ok)
	}
	shrunk, shrinks := sum.Shrink(c, e)
	if want, ok := wanted(c, e, -1); shrinks != ok || !slices.Equal(shrunk, want) {
		t.Errorf("Shrink of %v by %v: %v, %v instead of %v, %v", c, e, shrunk, shrinks, want, ok)
	}
	return grows, shrinks
}

// wantedSum returns what Sum is to return: of different sums in another order, in which they are not looked for one by one.
func wantedSum(a, b []api.Vec) ([]api.Vec, api.Errno) {
	if len(a) > 48 || len(b) > 48 {
		return nil, api.ErrMany
	}
	var all []api.Vec
	for _, w := range b {
		all = append(all, moved(a, w)...)
	}
	slices.SortFunc(all, comparePoints)
	return hull.Extreme(slices.Compact(all))
}

// comparePoints compares two points by X, then by Y, then by Z.
func comparePoints(a, b api.Vec) int {
	return slices.Compare(components(a), components(b))
}

// checkSum complains unless Sum of two lists is as it must be, and returns it.
func checkSum(t *testing.T, a, b []api.Vec) ([]api.Vec, api.Errno) {
	t.Helper()
	got, e := sum.Sum(a, b)
	if want, f := wantedSum(a, b); e != f || !slices.Equal(got, want) {
		t.Errorf("Sum of %v and %v: %v, %d instead of %v, %d", a, b, got, e, want, f)
	}
	return got, e
}

// wantedSupport returns what Support is to return for points, of products that wrap around as words do.
func wantedSupport(l []api.Vec, n api.Vec) int {
	var products []int
	for _, v := range l {
		products = append(products, int(uint64(v.X)*uint64(n.X)+uint64(v.Y)*uint64(n.Y)+uint64(v.Z)*uint64(n.Z)))
	}
	slices.Sort(products)
	return products[len(products)-1]
}

// sideOf returns the sign of N v - B, whatever the length of the products.
func sideOf(p api.Plane, v api.Point) int {
	all := new(big.Int)
	for _, f := range [][2]int{{p.N.X, v.X}, {p.N.Y, v.Y}, {p.N.Z, v.Z}, {-p.B, v.W}} {
		all.Add(all, new(big.Int).Mul(big.NewInt(int64(f[0])), big.NewInt(int64(f[1]))))
	}
	return all.Sign()
}

// satisfies reports whether a point lies in all half-spaces, in the workspace or not.
func satisfies(c []api.Plane, v api.Point) bool {
	return !slices.ContainsFunc(c, func(p api.Plane) bool { return sideOf(p, v) > 0 })
}

// whole returns an integer point as one with a denominator.
func whole(v api.Vec) api.Point {
	return api.Point{X: v.X, Y: v.Y, Z: v.Z, W: 1}
}

// isSum reports whether v is the sum of a point of the hull of a and one of the hull of b, by a linear program; they have 48 points at most together.
func isSum(t *testing.T, a, b []api.Vec, v api.Vec) bool {
	t.Helper()
	question := api.Linear{Cost: make([]int, len(a)+len(b)), Rhs: []int{v.X, v.Y, v.Z, 1, 1}}
	for _, w := range a {
		question.A = append(question.A, []int{w.X, w.Y, w.Z, 1, 0})
	}
	for _, w := range b {
		question.A = append(question.A, []int{w.X, w.Y, w.Z, 0, 1})
	}
	answer, e := lp.Solve(question)
	if e != api.OK || !lp.Check(question, answer) {
		t.Fatalf("no answer whether %v is a sum of points of %v and %v: error %d", v, a, b, e)
	}
	return answer.Kind != api.SoNone
}

// source returns numbers by chance; the same ones for the same seed.
func source(seed uint64) *rand.Rand {
	return rand.New(rand.NewPCG(seed, 12))
}

// near returns a point whose coordinates are from -bound to bound.
func near(r *rand.Rand, bound int) api.Vec {
	return vec(r.IntN(2*bound+1)-bound, r.IntN(2*bound+1)-bound, r.IntN(2*bound+1)-bound)
}

// someBound returns an error bound by chance, some of them zero along an axis, or as great as may be.
func someBound(r *rand.Rand) api.Vec {
	bound := []int{0, 1, 3, 12}[r.IntN(4)]
	e := vec(r.IntN(bound+1), r.IntN(bound+1), r.IntN(bound+1))
	switch r.IntN(6) {
	case 0:
		e.X, e.Z = 0, 12
	case 1:
		e.Y = 0
	}
	return e
}

// someCell returns a cell of at most as many valid planes by chance, most of which come near to a point; some of them occur twice.
func someCell(r *rand.Rand, most int) []api.Plane {
	bound := []int{1, 1, 2, 5, 60, 4608}[r.IntN(6)]
	middle, away := near(r, []int{1, 6, 24}[r.IntN(3)]), 1+r.IntN(6)
	var out []api.Plane
	for range r.IntN(most + 1) {
		n, d := plane.Prim(near(r, bound))
		if d == 0 {
			n = vec(0, -1, 0)
		}
		length := max(n.X, -n.X) + max(n.Y, -n.Y) + max(n.Z, -n.Z)
		out = append(out, api.Plane{N: n, B: plane.Dot(n, middle) + r.IntN(away*length+2) - 1})
		if r.IntN(9) == 0 && len(out) < most {
			out = append(out, out[r.IntN(len(out))])
		}
	}
	return out[:min(len(out), most)]
}

// someList returns at most as many points of the workspace by chance: few different ones or many, in a plane or not.
func someList(r *rand.Rand, most int) []api.Vec {
	bound := []int{1, 1, 2, 4, 12}[r.IntN(5)]
	middle, shape := near(r, []int{0, 4, 24 - bound}[r.IntN(3)]), r.IntN(6)
	var out []api.Vec
	for range r.IntN(most + 1) {
		v := near(r, bound)
		switch shape {
		case 0: // a plane
			v.Z = v.X
		case 1: // a line
			v = vec(v.X, -v.X, 0)
		case 2: // the corners of a box
			v = vec(v.X&1*bound, v.Y&1*bound, v.Z&1*bound)
		}
		out = append(out, plane.Add(middle, v))
	}
	return out
}

// lists returns lists with and without errors, many of which have sums without one.
func lists() [][]api.Vec {
	return [][]api.Vec{
		nil, {}, tetra(), vecs(0, 0, 0), vecs(1, -2, 3), vecs(24, 0, 0), vecs(0, 0, 0, 2, 0, 0), vecs(0, 0, 0, 0, -5, 7), vecs(-12, -12, -12, 12, 12, 12), row(48, vec(-23, 0, 0), vec(1, 0, 0)), row(17, vec(-8, 8, 0), vec(1, -1, 0)),
		vecs(0, 0, 0, 2, 0, 0, 0, 2, 0), vecs(0, 0, 0, 1, 0, 0, 0, 1, 0, 1, 1, 0), vecs(0, 0, 3, 1, 0, 3, 0, 1, 3, 1, 1, 3, 2, 5, 3), grid(0, 1), grid(-1, 1), grid(0, 3), grid(-12, 12), grid(-24, 24), grid(0, 1, 2), octahedron(1), octahedron(7), octahedron(12), append(octahedron(3), vecs(0, 0, 0, 1, 1, 1)...),
		slices.Repeat(tetra(), 12), slices.Repeat(grid(0, 2), 6), slices.Repeat(vecs(3, 2, 1), 48), slices.Repeat(tetra(), 13), slices.Repeat(vecs(0, 0, 0), 49), vecs(25, 0, 0), vecs(0, 0, -25, 0, 0, -26), vecs(maxInt, 0, 0, 0, minInt, 0, 1, 1, 1, 2, 3, 5), moved(tetra(), vec(60, -60, 1000)), vecs(-60, 60, -1000),
	}
}

// listPairs calls f with all pairs of those lists, and with n pairs of others.
func listPairs(seed uint64, n int, f func(a, b []api.Vec)) {
	for _, a := range lists() {
		for _, b := range lists() {
			f(a, b)
		}
	}
	r := source(seed)
	for range n {
		most := []int{2, 6, 12, 48}[r.IntN(4)]
		f(someList(r, most), someList(r, []int{1, 2, 4, 8}[r.IntN(4)]))
	}
}
