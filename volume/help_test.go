package volume_test

import (
	"math"
	"math/big"
	"math/rand/v2"
	"slices"
	"testing"

	"collet/api"
	"collet/cell"
	"collet/hull"
	"collet/plane"
	"collet/volume"
)

const (
	maxInt = math.MaxInt
	minInt = math.MinInt
)

// vec returns a vector.
func vec(x, y, z int) api.Vec {
	return api.Vec{X: x, Y: y, Z: z}
}

// half returns the half-space {(x, y, z), b}.
func half(x, y, z, b int) api.Plane {
	return api.Plane{N: vec(x, y, z), B: b}
}

// vecs returns the points with these coordinates, three for each.
func vecs(l ...int) []api.Vec {
	var out []api.Vec
	for c := range slices.Chunk(l, 3) {
		out = append(out, vec(c[0], c[1], c[2]))
	}
	return out
}

// components returns the components of v.
func components(v api.Vec) []int {
	return []int{v.X, v.Y, v.Z}
}

// grid returns all points that have no other coordinates than these, in order if these are.
func grid(coordinates ...int) []api.Vec {
	var out []api.Vec
	for _, x := range coordinates {
		for _, y := range coordinates {
			for _, z := range coordinates {
				out = append(out, vec(x, y, z))
			}
		}
	}
	return out
}

// box returns the corners of the box from lo to hi.
func box(lo, hi api.Vec) []api.Vec {
	var out []api.Vec
	for _, v := range grid(0, 1) {
		out = append(out, vec(lo.X+v.X*(hi.X-lo.X), lo.Y+v.Y*(hi.Y-lo.Y), lo.Z+v.Z*(hi.Z-lo.Z)))
	}
	return out
}

// moved returns all points, each moved by s.
func moved(l []api.Vec, s api.Vec) []api.Vec {
	var out []api.Vec
	for _, v := range l {
		out = append(out, plane.Add(v, s))
	}
	return out
}

// tetrahedron returns the points of the examples.
func tetrahedron() []api.Vec {
	return vecs(0, 0, 0, 2, 0, 0, 0, 2, 0, 0, 0, 2)
}

// octahedron returns the six points that are r away from the origin along X, Y and Z.
func octahedron(r int) []api.Vec {
	return vecs(r, 0, 0, -r, 0, 0, 0, r, 0, 0, -r, 0, 0, 0, r, 0, 0, -r)
}

// round returns the corners of a polygon of 16 sides of the plane z, in no order.
func round(z int) []api.Vec {
	var out []api.Vec
	for _, v := range vecs(24, 4, z, 21, 12, z, 12, 21, z, 4, 24, z) {
		out = append(out, v, vec(-v.X, v.Y, z), vec(v.X, -v.Y, z), vec(-v.X, -v.Y, z))
	}
	return out
}

// ball returns 48 points that are about as far from the origin as each other, in no order: almost all of them are vertices.
func ball(r *rand.Rand) []api.Vec {
	var out []api.Vec
	for len(out) < 48 {
		v := near(r, 24)
		if d := plane.Dot(v, v); d > 560 && d < 577 && !slices.Contains(out, v) {
			out = append(out, v)
		}
	}
	return out
}

// solids returns lists without an error: of few points, of many, with facets of many corners, with points within facets, sides and the hull, and ones that reach to the ends of the workspace.
func solids() [][]api.Vec {
	r := source(20)
	row := tetrahedron()
	for k := range 44 {
		row = append(row, vec(k/2-22, k/2-22, k/2-22))
	}
	var square []api.Vec // a facet with points on all of its sides, and within
	for k := range 36 {
		square = append(square, vec(k%6, k/6, 0))
	}
	return [][]api.Vec{
		tetrahedron(), vecs(0, 0, 0, 1, 0, 0, 0, 1, 0, 0, 0, 1), vecs(-24, -24, -24, 24, 24, 23, 24, 23, 24, 23, 24, 24), vecs(0, 0, 0, 1, 2, 3, 2, 3, 4, 3, 4, 6), vecs(-24, -24, -24, 24, 24, 24, 0, 0, 0, 1, 0, 0, 0, 1, 0),
		vecs(0, 0, 0, 4, 0, 0, 0, 4, 0, 4, 4, 0, 2, 2, 5), vecs(0, 0, 0, 6, 0, 0, 0, 6, 0, 0, 0, 6, 1, 1, 1, 2, 2, 2, 3, 3, 0, 2, 0, 0),
		grid(0, 1), grid(0, 2), grid(-24, 24), grid(0, 1, 2), append(grid(-24, 24), grid(-7, 0, 7)...), append(grid(0, 1, 2), octahedron(3)...), octahedron(1), octahedron(24), append(octahedron(2), grid(-1, 1)...),
		append(round(-3), round(5)...), append(round(0), vec(1, 2, 24)), append(round(24), append(round(-24), round(7)...)...), append(slices.Clone(square), vec(9, -2, 7)), append(slices.Clone(square), moved(square[:12], vec(0, 2, -4))...), row, ball(r), ball(r), slices.Repeat(tetrahedron(), 12), slices.Repeat(grid(0, 3), 6),
	}
}

// wrongs returns lists with an error.
func wrongs() [][]api.Vec {
	return [][]api.Vec{
		nil, {}, vecs(0, 0, 0), vecs(0, 0, 0, 24, 24, 24), vecs(0, 0, 0, 1, 0, 0, 0, 1, 0), vecs(1, 2, 3, 1, 2, 3, 1, 2, 3, 1, 2, 3), slices.Repeat(vecs(5, 5, 5), 48), slices.Repeat(vecs(0, 0, 0, 2, 0, 0, 0, 2, 0), 16), make([]api.Vec, 1<<20),
		vecs(0, 0, 0, 1, 1, 1, 2, 2, 2, 3, 3, 3), vecs(0, 0, 0, 2, 0, 0, 0, 2, 0, 2, 2, 0), vecs(1, 0, 0, 0, 1, 0, 0, 0, 1, 1, 1, -1), round(-24), tetrahedron()[1:],
		append(tetrahedron(), vec(25, 0, 0)), append(tetrahedron(), vec(0, -25, 0)), append(grid(-1, 1), vec(0, 0, 25)), vecs(minInt, 0, 0), vecs(maxInt, 0, 0, minInt, 0, 0, 0, maxInt, 0, 0, 0, minInt), vecs(1<<32, 0, 0, 0, 1<<32, 0, 0, 0, 1<<32, 0, 0, 0), append(round(0), vec(1, 1, 26)),
		slices.Repeat(tetrahedron(), 13)[:49], slices.Repeat(grid(-24, 24), 7), append(ball(source(1)), vec(0, 0, 0)), make([]api.Vec, 49), slices.Repeat(vecs(25, 0, 0), 49), grid(0, 1, 2, 3),
	}
}

// source returns numbers by chance; the same ones for the same seed.
func source(seed uint64) *rand.Rand {
	return rand.New(rand.NewPCG(seed, 13))
}

// near returns a point whose coordinates are from -bound to bound.
func near(r *rand.Rand, bound int) api.Vec {
	return vec(r.IntN(2*bound+1)-bound, r.IntN(2*bound+1)-bound, r.IntN(2*bound+1)-bound)
}

// list returns at most as many points of the workspace by chance: near to each other or not, in one plane or two, now and then twice.
func list(r *rand.Rand, most int) []api.Vec {
	bound := []int{1, 2, 4, 12, 24}[r.IntN(5)]
	middle := near(r, 24-bound)
	shape := r.IntN(8)
	var out []api.Vec
	for range r.IntN(most + 1) {
		v := near(r, bound)
		switch shape {
		case 0: // one plane or two
			v.Z = bound * r.IntN(2)
		case 1: // one plane, and now and then beside it
			if r.IntN(6) > 0 {
				v.Y = v.X
			}
		case 2: // corners of a box
			v = vec(bound-2*bound*r.IntN(2), bound-2*bound*r.IntN(2), bound-2*bound*r.IntN(2))
		case 3: // a slope and a bottom
			v.Z = max(v.X, v.Y) * r.IntN(2)
		}
		out = append(out, plane.Add(middle, v))
		if r.IntN(8) == 0 && len(out) < most {
			out = append(out, out[r.IntN(len(out))])
		}
	}
	return slices.DeleteFunc(out[:min(len(out), most)], func(v api.Vec) bool { return !plane.In(v) })
}

// hulls calls f with all solids that have at most as many points, and with those of n other lists of at most as many points that have no error.
func hulls(seed uint64, n, most int, f func(l []api.Vec)) {
	for _, l := range solids() {
		if len(l) <= most {
			f(l)
		}
	}
	r := source(seed)
	for range n {
		if l := list(r, most); hull.Check(l) == api.OK {
			f(l)
		}
	}
}

// sixOf returns what Six returns for a list without an error.
func sixOf(t *testing.T, l []api.Vec) int {
	t.Helper()
	six, e := volume.Six(l)
	if e != api.OK {
		t.Fatalf("Six of %v: error %d", l, e)
	}
	return six
}

// mostOf returns what Most returns for a list without an error.
func mostOf(t *testing.T, l []api.Vec, lo, hi api.Vec) int {
	t.Helper()
	most, e := volume.Most(l, lo, hi)
	if e != api.OK {
		t.Fatalf("Most of %v and the box from %v to %v: error %d", l, lo, hi, e)
	}
	return most
}

// determinant returns the determinant of the differences of b, c and d to a.
func determinant(a, b, c, d api.Vec) int {
	x, y, z := b.X-a.X, b.Y-a.Y, b.Z-a.Z
	p, q, r := c.X-a.X, c.Y-a.Y, c.Z-a.Z
	return x*(q*(d.Z-a.Z)-r*(d.Y-a.Y)) - y*(p*(d.Z-a.Z)-r*(d.X-a.X)) + z*(p*(d.Y-a.Y)-q*(d.X-a.X))
}

// floor returns the greatest integer that is at most n / d; d is positive.
func floor(n, d int) int {
	if n < 0 {
		return -((d - 1 - n) / d)
	}
	return n / d
}

// column returns how many integers z there are from lo to hi such that (x, y, z) is in all half-spaces {N, k B}.
func column(faces []api.Plane, k, x, y, lo, hi int) int {
	for _, p := range faces {
		rest := k*p.B - p.N.X*x - p.N.Y*y
		switch {
		case p.N.Z > 0:
			hi = min(hi, floor(rest, p.N.Z))
		case p.N.Z < 0:
			lo = max(lo, -floor(rest, -p.N.Z))
		case rest < 0:
			return 0
		}
	}
	return max(0, hi-lo+1)
}

// integers returns how many integer points the hull of points has, with k times the coordinates.
func integers(faces []api.Plane, lo, hi api.Vec, k int) int {
	count := 0
	for x := k * lo.X; x <= k*hi.X; x++ {
		for y := k * lo.Y; y <= k*hi.Y; y++ {
			count += column(faces, k, x, y, k*lo.Z, k*hi.Z)
		}
	}
	return count
}

// wantedSix returns six times the volume of the hull of a list without an error, from nothing but the numbers of its integer points: with k times the coordinates, that is a polynomial of k of the third degree, whose first coefficient is the volume (Ehrhart), so that its third difference is six times the volume.
func wantedSix(t *testing.T, l []api.Vec) int {
	t.Helper()
	faces, e := hull.Faces(l)
	lo, hi, ok := hull.Box(l)
	if e != api.OK || !ok {
		t.Fatalf("Faces of %v: error %d", l, e)
	}
	return integers(faces, lo, hi, 3) - 3*integers(faces, lo, hi, 2) + 3*integers(faces, lo, hi, 1) - 1
}

// checkSix complains unless Six of a list without an error is as it must be, and returns it.
func checkSix(t *testing.T, l []api.Vec) int {
	t.Helper()
	got, e := volume.Six(l)
	if want := wantedSix(t, l); got != want || e != api.OK {
		t.Errorf("Six of %v: %d, %d instead of %d", l, got, e, want)
	}
	return got
}

// units returns how many of the unit cubes with integer corners a box and that of points have in common; all of the points lie in the workspace.
func units(l []api.Vec, lo, hi api.Vec) int {
	count := 1
	for i := range 3 {
		along := 0
		for k := -24; k < 24; k++ {
			before, after := false, false
			for _, v := range l {
				before, after = before || components(v)[i] <= k, after || components(v)[i] >= k+1
			}
			if before && after && components(lo)[i] <= k && components(hi)[i] >= k+1 {
				along++
			}
		}
		count *= along
	}
	return count
}

// checkMost complains unless Most is as it must be, also if the list has an error.
func checkMost(t *testing.T, l []api.Vec, lo, hi api.Vec) {
	t.Helper()
	want, e := volume.Six(l)
	if e == api.OK {
		want = min(want, 6*units(l, lo, hi))
	}
	if got, f := volume.Most(l, lo, hi); got != want || f != e {
		t.Errorf("Most of %v and the box from %v to %v: %d, %d instead of %d, %d", l[:min(len(l), 50)], lo, hi, got, f, want, e)
	}
}

// shared returns the vertices that lie on the boundaries of all of the planes.
func shared(vertices []api.Point, planes ...api.Plane) []api.Point {
	return slices.DeleteFunc(slices.Clone(vertices), func(v api.Point) bool {
		return slices.ContainsFunc(planes, func(p api.Plane) bool { return p.N.X*v.X+p.N.Y*v.Y+p.N.Z*v.Z != p.B*v.W })
	})
}

// tetrahedra returns six times the volume of the tetrahedron of four points.
func tetrahedra(a, b, c, d api.Point) *big.Rat {
	sum, weight := new(big.Int), big.NewInt(1)
	rows := []api.Point{a, b, c, d}
	for _, v := range rows {
		weight.Mul(weight, big.NewInt(int64(v.W)))
	}
	entry := func(i, j int) *big.Int {
		return big.NewInt(int64([]int{rows[i].X, rows[i].Y, rows[i].Z, rows[i].W}[j]))
	}
	for n := range 256 { // of the products of four elements, of which no two have a row or a column in common
		order := []int{n & 3, n >> 2 & 3, n >> 4 & 3, n >> 6}
		sign := int64(1)
		for j := range order {
			for i := range j {
				switch {
				case order[i] == order[j]:
					sign = 0
				case order[i] > order[j]:
					sign = -sign
				}
			}
		}
		product := big.NewInt(sign)
		for i, j := range order {
			product.Mul(product, entry(i, j))
		}
		sum.Add(sum, product)
	}
	return new(big.Rat).SetFrac(sum.Abs(sum), weight)
}

// sixOfCell returns six times the volume of a full cell within the workspace: a cone from a vertex to each facet without it, which is a pyramid over each side of the facet without one of its corners. Nothing goes round the facets.
func sixOfCell(c []api.Plane) *big.Rat {
	six := new(big.Rat)
	vertices, planes := cell.Points(c), cell.Lean(c)
	for _, p := range planes {
		on := shared(vertices, p)
		if slices.Contains(on, vertices[0]) {
			continue
		}
		for _, q := range planes {
			if side := shared(on, q); p != q && len(side) == 2 && !slices.Contains(side, on[0]) {
				six.Add(six, tetrahedra(vertices[0], on[0], side[0], side[1]))
			}
		}
	}
	return six
}
