package plane_test

import (
	"math"
	"math/big"
	"math/rand/v2"

	"collet/api"
	"collet/plane"
)

const (
	maxInt = math.MaxInt
	minInt = math.MinInt
)

// ends are numbers at which something changes, with their opposites.
func ends() []int {
	out := []int{0, minInt}
	for _, n := range []int{1, 2, 12, 24, 25, 4608, 4609, 1 << 21, 1<<21 + 1, 1 << 31, 1 << 32, 1 << 62, maxInt - 1, maxInt} {
		out = append(out, n, -n)
	}
	return out
}

// vec returns a vector.
func vec(x, y, z int) api.Vec {
	return api.Vec{X: x, Y: y, Z: z}
}

// half returns the half-space {(x, y, z), b}.
func half(x, y, z, b int) api.Plane {
	return api.Plane{N: vec(x, y, z), B: b}
}

// components returns the components of v.
func components(v api.Vec) []int {
	return []int{v.X, v.Y, v.Z}
}

// every calls f with all vectors that have no other components than these.
func every(l []int, f func(v api.Vec)) {
	for _, x := range l {
		for _, y := range l {
			for _, z := range l {
				f(vec(x, y, z))
			}
		}
	}
}

// from returns the integers from a to b.
func from(a, b int) []int {
	var out []int
	for n := a; n <= b; n++ {
		out = append(out, n)
	}
	return out
}

// integer returns n.
func integer(n int) *big.Int {
	return big.NewInt(int64(n))
}

// wrapped returns what an int becomes that wraps around to n.
func wrapped(n *big.Int) int {
	low := new(big.Int).And(n, new(big.Int).SetUint64(math.MaxUint64)) // And takes negative integers as those of infinitely many digits
	return int(low.Uint64())
}

// inner returns the inner product, whatever its length.
func inner(a, b api.Vec) *big.Int {
	sum := new(big.Int)
	for i, n := range components(a) {
		sum.Add(sum, new(big.Int).Mul(integer(n), integer(components(b)[i])))
	}
	return sum
}

// minor returns a d - b c, whatever its length.
func minor(a, b, c, d int) *big.Int {
	return new(big.Int).Sub(new(big.Int).Mul(integer(a), integer(d)), new(big.Int).Mul(integer(b), integer(c)))
}

// divisorOf returns the greatest integer that divides all components of v; 0 if v is zero.
func divisorOf(v api.Vec) *big.Int {
	d := new(big.Int)
	for _, n := range components(v) {
		d.GCD(nil, nil, d, new(big.Int).Abs(integer(n)))
	}
	return d
}

// isWithin reports whether all numbers are from -limit to limit.
func isWithin(limit int, l ...int) bool {
	for _, n := range l {
		if integer(n).CmpAbs(integer(limit)) > 0 {
			return false
		}
	}
	return true
}

// isPoint reports whether v is a point of the workspace.
func isPoint(v api.Vec) bool {
	return isWithin(24, components(v)...)
}

// isValid reports whether p is valid.
func isValid(p api.Plane) bool {
	return isWithin(4608, components(p.N)...) && isWithin(1<<21, p.B) && divisorOf(p.N).Cmp(integer(1)) == 0
}

// onLine reports whether three points of the workspace lie on one line: no projection to two coordinates has them at the corners of a triangle.
func onLine(a, b, c api.Vec) bool {
	p, q := components(plane.Sub(b, a)), components(plane.Sub(c, a))
	return p[0]*q[1] == p[1]*q[0] && p[1]*q[2] == p[2]*q[1] && p[2]*q[0] == p[0]*q[2]
}

// determinant returns the determinant of the matrix with these rows, which are short enough for it.
func determinant(a, b, c api.Vec) int {
	return a.X*(b.Y*c.Z-b.Z*c.Y) + b.X*(c.Y*a.Z-c.Z*a.Y) + c.X*(a.Y*b.Z-a.Z*b.Y)
}

// source returns numbers by chance; the same ones for the same seed.
func source(seed uint64) *rand.Rand {
	return rand.New(rand.NewPCG(seed, 7))
}

// point returns a point of the workspace, now and then one of its corners or of the line through the origin and another one.
func point(r *rand.Rand) api.Vec {
	bound := []int{1, 3, 24, 24}[r.IntN(4)]
	v := vec(r.IntN(2*bound+1)-bound, r.IntN(2*bound+1)-bound, r.IntN(2*bound+1)-bound)
	if r.IntN(6) == 0 {
		v = vec(24-48*r.IntN(2), 24-48*r.IntN(2), 24-48*r.IntN(2))
	}
	return v
}

// normal returns a primitive vector with components from -4608 to 4608.
func normal(r *rand.Rand) api.Vec {
	for {
		bound := []int{1, 4, 60, 4608}[r.IntN(4)]
		v := vec(r.IntN(2*bound+1)-bound, r.IntN(2*bound+1)-bound, r.IntN(2*bound+1)-bound)
		if r.IntN(5) == 0 {
			v = vec(v.X, v.X-1, 4608-9216*r.IntN(2))
		}
		if isValid(api.Plane{N: v}) {
			return v
		}
	}
}

// anyInt returns an int of any length, often one at which something changes.
func anyInt(r *rand.Rand) int {
	if r.IntN(2) == 0 {
		l := ends()
		return l[r.IntN(len(l))]
	}
	return int(r.Uint64()) >> r.IntN(64)
}

// anyVec returns a vector whose components are ints of any length.
func anyVec(r *rand.Rand) api.Vec {
	return vec(anyInt(r), anyInt(r), anyInt(r))
}
