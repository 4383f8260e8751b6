package cell_test

import (
	"math"
	"math/big"
	"math/rand/v2"
	"slices"
	"testing"

	"collet/api"
	"collet/cell"
	"collet/hull"
	"collet/lp"
	"collet/plane"
	"collet/ratio"
)

const (
	maxInt = math.MaxInt
	minInt = math.MinInt
)

// vec returns a vector.
func vec(x, y, z int) api.Vec {
	return api.Vec{X: x, Y: y, Z: z}
}

// half returns the half-space {(x, y, z), b}.
func half(x, y, z, b int) api.Plane {
	return api.Plane{N: vec(x, y, z), B: b}
}

// point returns the point {x, y, z, w}.
func point(x, y, z, w int) api.Point {
	return api.Point{X: x, Y: y, Z: z, W: w}
}

// box returns the cell of all points from lo to hi, in the order of the planes of the workspace.
func box(lo, hi api.Vec) []api.Plane {
	return []api.Plane{half(1, 0, 0, hi.X), half(-1, 0, 0, -lo.X), half(0, 1, 0, hi.Y), half(0, -1, 0, -lo.Y), half(0, 0, 1, hi.Z), half(0, 0, -1, -lo.Z)}
}

// workspace returns the planes of the workspace.
func workspace() []api.Plane {
	return box(vec(-24, -24, -24), vec(24, 24, 24))
}

// unit returns the cell of the examples.
func unit() []api.Plane {
	return box(vec(0, 0, 0), vec(1, 1, 1))
}

// corner returns the other cell of the examples.
func corner() []api.Plane {
	return []api.Plane{half(-1, 0, 0, 0), half(0, -1, 0, 0), half(0, 0, -1, 0), half(2, 3, 4, 1)}
}

// with returns a cell with more planes.
func with(c []api.Plane, more ...api.Plane) []api.Plane {
	return slices.Concat(c, more)
}

// octahedron returns the cell of all points whose coordinates have absolute values with a sum of at most b.
func octahedron(b int) []api.Plane {
	var out []api.Plane
	for i := range 8 {
		out = append(out, half(1-i&1*2, 1-i>>1&1*2, 1-i>>2&1*2, b))
	}
	return out
}

// source returns numbers by chance; the same ones for the same seed.
func source(seed uint64) *rand.Rand {
	return rand.New(rand.NewPCG(seed, 9))
}

// near returns a point whose coordinates are from -bound to bound.
func near(r *rand.Rand, bound int) api.Vec {
	return vec(r.IntN(2*bound+1)-bound, r.IntN(2*bound+1)-bound, r.IntN(2*bound+1)-bound)
}

// normal returns a primitive vector whose components are from -bound to bound.
func normal(r *rand.Rand, bound int) api.Vec {
	for {
		if v, d := plane.Prim(near(r, bound)); d > 0 {
			return v
		}
	}
}

// ball returns a cell of n planes that are about r away from the origin.
func ball(n, r int, numbers *rand.Rand) []api.Plane {
	var out []api.Plane
	for range n {
		v := normal(numbers, 20)
		out = append(out, api.Plane{N: v, B: int(math.Sqrt(float64(plane.Dot(v, v) * r * r)))})
	}
	return out
}

// cone returns a cell of n planes all of which go through the point v, with all points below it.
func cone(n int, v api.Vec, numbers *rand.Rand) []api.Plane {
	var out []api.Plane
	for len(out) < n {
		m := normal(numbers, 9)
		if m.Z > 0 {
			out = append(out, api.Plane{N: m, B: plane.Dot(m, v)})
		}
	}
	return out
}

// thin returns cells between planes with components, or offsets, that are as great as may be, some of them with an interior.
func thin() [][]api.Plane {
	var out [][]api.Plane
	for _, n := range []api.Vec{vec(4608, 4607, 4605), vec(-4608, 4607, 4603), vec(4607, -4608, -4601), vec(4608, 4607, -4608), vec(1, 4608, 4607)} {
		for _, gap := range []int{-1, 0, 1, 2} {
			for _, b := range []int{0, 5, 331000, -331000} {
				out = append(out, []api.Plane{{N: n, B: b}, {N: vec(-n.X, -n.Y, -n.Z), B: gap - b}})
			}
		}
		m, _ := plane.Prim(vec(n.Y, -n.X, 1))
		out = append(out, []api.Plane{{N: n, B: 7}, {N: vec(-n.X, -n.Y, -n.Z), B: -6}, {N: m, B: 1}, {N: vec(-m.X, -m.Y, -m.Z), B: 0}, half(0, 4608, -4607, 3), half(4608, -1, -4608, 1)})
	}
	for _, b := range []int{1 << 21, -1 << 21, 1<<21 - 1} {
		out = append(out, []api.Plane{half(4608, 4607, 4605, b)}, []api.Plane{half(1, 0, 0, b), half(4608, -4607, 4608, 1<<21), half(-4608, 4607, 4608, -b)}, with(octahedron(24), half(-4608, 4608, 4607, b), half(4607, 4608, -4608, -b)))
	}
	return out
}

// hulls returns cells whose planes are those of hulls of n points.
func hulls(seed uint64, n int) [][]api.Plane {
	r := source(seed)
	var out [][]api.Plane
	for len(out) < 12 {
		bound := 1 + r.IntN(24)
		var l []api.Vec
		for range n {
			l = append(l, near(r, bound))
		}
		if faces, e := hull.Faces(l); e == api.OK && len(faces) <= 48 {
			out = append(out, faces)
		}
	}
	return out
}

// flats returns valid cells without an interior: of one point, of a line, of a polygon, and empty ones.
func flats() [][]api.Plane {
	return [][]api.Plane{
		with(unit(), half(-1, 0, 0, -1)), with(unit(), half(1, 1, 1, 0)), with(unit(), half(1, 0, 0, 0), half(0, 1, 0, 0)), with(unit(), half(-1, -1, -1, -3)), with(unit(), half(1, 0, 0, -1)), with(unit(), half(-1, -1, -1, -4)),
		box(vec(1, 2, 3), vec(1, 2, 3)), box(vec(1, 2, 3), vec(1, 5, 3)), box(vec(1, 2, 3), vec(1, 5, 9)), box(vec(2, 0, 0), vec(1, 1, 1)), box(vec(25, 0, 0), vec(30, 1, 1)),
		{half(-1, 0, 0, -24)}, {half(0, 0, 1, -24)}, {half(0, 1, 0, -25)}, {half(1, 1, 1, -72)}, {half(1, 1, 1, -73)}, {half(1, -1, 0, 0), half(-1, 1, 0, 0)}, {half(1, 2, 3, 4), half(-1, -2, -3, -4)}, {half(2, 4, 5, 1), half(-2, -4, -5, -1), half(3, -1, 4, 1), half(-3, 1, -4, -1)},
		with(octahedron(3), half(-1, -1, -1, -3)), with(octahedron(3), half(-1, 0, 0, -3)), octahedron(0), octahedron(-1), with(corner(), half(-2, -3, -4, -1)), with(corner(), half(-2, -3, -4, -2)), with(corner(), half(3, 7, 9, 0)),
	}
}

// solids returns full cells of all kinds.
func solids() [][]api.Plane {
	r := source(1)
	out := [][]api.Plane{
		nil, unit(), corner(), workspace(), {half(1, 0, 0, 0)}, {half(1, 1, 1, -71)}, {half(-1, 0, 0, -23)}, octahedron(1), octahedron(24), octahedron(36), box(vec(-30, 0, 1), vec(5, 40, 2)), with(unit(), half(1, 0, 0, 1), half(1, 1, 1, 3), half(1, 0, 0, 7)), with(box(vec(0, 0, 0), vec(7, 7, 7)), unit()...), slices.Repeat(unit(), 8), slices.Repeat(workspace(), 8),
		with(unit(), half(1, 1, 1, 2), half(2, 3, 5, 7), half(-1, 1, 0, 0)), {half(2, 3, 5, 7), half(-3, 2, 1, 4), half(1, -7, 2, 9), half(1, 1, -4, 3), half(-1, -1, -1, 40)}, {half(7, 3, 1, 5), half(-7, 2, 1, -4), half(0, -5, 2, 9), half(3, 1, -4, 3)},
		with(workspace(), half(2, 2, 1, 7), half(-2, 1, 2, 7)), with(octahedron(5), box(vec(-3, -3, -3), vec(3, 3, 3))...), with(octahedron(3), half(1, 0, 0, 3), half(0, 0, -1, 3), half(1, 1, 0, 3)),
		ball(20, 7, r), ball(42, 20, r), cone(12, vec(0, 0, 5), r), cone(30, vec(3, -4, -20), r),
	}
	return slices.Concat(out, hulls(2, 5), hulls(3, 12))
}

// many returns cells of 48 planes.
func many() [][]api.Plane {
	r := source(4)
	return [][]api.Plane{ball(48, 7, r), ball(48, 24, r), cone(48, vec(0, 0, 0), r), with(ball(47, 30, r), half(1, 0, 0, -3)), with(cone(24, vec(1, 2, 3), r), ball(24, 9, r)...)}
}

// wrong returns cells with an error.
func wrong() [][]api.Plane {
	out := [][]api.Plane{slices.Repeat(unit(), 9)[:49], with(slices.Repeat(unit(), 8), half(0, 0, 0, 0)), make([]api.Plane, 49), make([]api.Plane, 1000), with(ball(48, 9, source(5)), half(1, 0, 0, 24))}
	for _, p := range []api.Plane{half(2, 2, 2, 1), half(0, 0, 0, 0), half(0, 0, 0, 9), half(0, -3, 0, 9), half(4609, 1, 0, 1), half(1, -4609, 0, 1), half(1, 0, 4609, 1), half(1, 0, 0, 1<<21+1), half(1, 0, 0, -1<<21-1), half(maxInt, 1, 0, 0), half(1, minInt, 1, 0), half(1, 0, 0, minInt), half(1, 0, 0, maxInt)} {
		out = append(out, []api.Plane{p}, with([]api.Plane{p}, unit()...), with(unit(), p), slices.Insert(unit(), 3, p), with(with(slices.Repeat(unit(), 7), p), unit()[:5]...))
	}
	return out
}

// someCell returns a cell of at most as many planes by chance, most of which come near to a point.
func someCell(r *rand.Rand, most int) []api.Plane {
	bound := []int{1, 1, 2, 5, 60, 4608}[r.IntN(6)]
	middle, away := near(r, []int{1, 6, 24}[r.IntN(3)]), 1+r.IntN(6)
	var out []api.Plane
	for range r.IntN(most + 1) {
		n := normal(r, bound)
		if r.IntN(3) == 0 {
			n = normal(r, 1)
		}
		length := max(n.X, -n.X) + max(n.Y, -n.Y) + max(n.Z, -n.Z)
		b := plane.Dot(n, middle) + r.IntN(away*length+1)
		switch r.IntN(14) {
		case 0: // through the point
			b = plane.Dot(n, middle)
		case 1: // it is outside
			b = plane.Dot(n, middle) - r.IntN(3)
		}
		out = append(out, api.Plane{N: n, B: b})
		if r.IntN(9) == 0 && len(out) < most { // one that occurs twice, or the other side of one
			p := out[r.IntN(len(out))]
			if r.IntN(3) == 0 {
				p = api.Plane{N: vec(-p.N.X, -p.N.Y, -p.N.Z), B: r.IntN(2*length) - p.B}
			}
			out = append(out, p)
		}
	}
	return out[:min(len(out), most)]
}

// cells calls f with all solids and flats and thin cells, and with n others of at most as many planes.
func cells(seed uint64, n, most int, f func(c []api.Plane)) {
	for _, c := range slices.Concat(solids(), flats(), thin()) {
		f(c)
	}
	r := source(seed)
	for range n {
		f(someCell(r, most))
	}
}

// fullCells calls f with those of the cells that are full.
func fullCells(seed uint64, n, most int, f func(c []api.Plane)) {
	cells(seed, n, most, func(c []api.Plane) {
		if cell.Full(c) {
			f(c)
		}
	})
}

// sideOf returns the sign of N v - B, whatever the length of the products.
func sideOf(p api.Plane, v api.Point) int {
	sum := new(big.Int)
	for _, f := range [][2]int{{p.N.X, v.X}, {p.N.Y, v.Y}, {p.N.Z, v.Z}, {-p.B, v.W}} {
		sum.Add(sum, new(big.Int).Mul(big.NewInt(int64(f[0])), big.NewInt(int64(f[1]))))
	}
	return sum.Sign()
}

// isInAll reports whether a point lies in all half-spaces.
func isInAll(c []api.Plane, v api.Point) bool {
	return !slices.ContainsFunc(c, func(p api.Plane) bool { return sideOf(p, v) > 0 })
}

// determinant returns the determinant of the matrix with these columns.
func determinant(a, b, c [3]int) int {
	return a[0]*b[1]*c[2] + b[0]*c[1]*a[2] + c[0]*a[1]*b[2] - c[0]*b[1]*a[2] - b[0]*a[1]*c[2] - a[0]*c[1]*b[2]
}

// crossing returns the point in which three planes meet, by Cramer's rule, with as small integers as may be; false if there is none.
func crossing(p, q, r api.Plane) (api.Point, bool) {
	x, y, z, b := [3]int{p.N.X, q.N.X, r.N.X}, [3]int{p.N.Y, q.N.Y, r.N.Y}, [3]int{p.N.Z, q.N.Z, r.N.Z}, [3]int{p.B, q.B, r.B}
	l := []int{determinant(b, y, z), determinant(x, b, z), determinant(x, y, b), determinant(x, y, z)}
	if l[3] == 0 {
		return api.Point{}, false
	}
	d := new(big.Int)
	for _, n := range l {
		d.GCD(nil, nil, d, new(big.Int).Abs(big.NewInt(int64(n))))
	}
	g := int(d.Int64())
	if l[3] < 0 {
		g = -g
	}
	return point(l[0]/g, l[1]/g, l[2]/g, l[3]/g), true
}

// wantedPoints returns what Points is to return for a valid cell.
func wantedPoints(c []api.Plane) []api.Point {
	all := with(c, workspace()...)
	var out []api.Point
	for i := range all {
		for j := range all[:len(all)-i-1] {
			for _, r := range all[i+j+2:] {
				if v, ok := crossing(all[i], all[i+1+j], r); ok && !slices.Contains(out, v) && isInAll(all, v) {
					out = append(out, v)
				}
			}
		}
	}
	return out
}

// least returns the least value of a linear program that has a solution.
func least(t *testing.T, l api.Linear) api.Ratio {
	t.Helper()
	s, e := lp.Solve(l)
	cost, ok := lp.Value(l, s.X)
	if e != api.OK || s.Kind != api.SoBest || !lp.Check(l, s) || !ok {
		t.Fatalf("no best solution of %v: %v, %d", l, s, e)
	}
	return cost
}

// different returns the planes of a cell and of the workspace, each once.
func different(c []api.Plane) []api.Plane {
	var out []api.Plane
	for _, p := range with(c, workspace()...) {
		if !slices.Contains(out, p) {
			out = append(out, p)
		}
	}
	return out
}

// leavesBall reports whether at most 42 different valid planes and those of the workspace leave a ball: unless they do, a sum of their normals with weights that are not negative, and not all of them 0, is zero, and that of their offsets is not positive.
func leavesBall(t *testing.T, c []api.Plane) bool {
	t.Helper()
	question := api.Linear{Rhs: []int{0, 0, 0, 1}}
	for _, p := range different(c) {
		question.A = append(question.A, []int{p.N.X, p.N.Y, p.N.Z, 1})
		question.Cost = append(question.Cost, p.B)
	}
	return ratio.Sign(least(t, question)) > 0
}

// farthest returns the greatest value of n v for all points v of a cell of at most 42 different planes that has points.
func farthest(t *testing.T, c []api.Plane, n api.Vec) api.Ratio {
	t.Helper()
	question := api.Linear{Rhs: []int{n.X, n.Y, n.Z}}
	for _, p := range different(c) {
		question.A = append(question.A, []int{p.N.X, p.N.Y, p.N.Z})
		question.Cost = append(question.Cost, p.B)
	}
	return least(t, question)
}

// sorted returns points in an order that does not depend on where they were found.
func sorted(l []api.Point) []api.Point {
	return slices.SortedFunc(slices.Values(l), func(a, b api.Point) int {
		return slices.Compare([]int{a.X, a.Y, a.Z, a.W}, []int{b.X, b.Y, b.Z, b.W})
	})
}
