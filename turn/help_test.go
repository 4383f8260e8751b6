package turn_test

import (
	"math"
	"math/big"
	"math/bits"
	"math/rand/v2"
	"slices"
	"sync"

	"collet/api"
	"collet/plane"
)

const (
	maxInt = math.MaxInt
	minInt = math.MinInt
)

type rows = [3][3]int

// vec returns a vector.
func vec(x, y, z int) api.Vec {
	return api.Vec{X: x, Y: y, Z: z}
}

// half returns the half-space {(x, y, z), b}.
func half(x, y, z, b int) api.Plane {
	return api.Plane{N: vec(x, y, z), B: b}
}

// over returns the Turn of a matrix and a denominator.
func over(d int, m rows) api.Turn {
	return api.Turn{M: m, D: d}
}

// one is the Turn that changes nothing.
func one() api.Turn {
	return over(1, rows{{1, 0, 0}, {0, 1, 0}, {0, 0, 1}})
}

// quarter is the Turn z of the chapter's examples.
func quarter() api.Turn {
	return over(1, rows{{0, -1, 0}, {1, 0, 0}, {0, 0, 1}})
}

// fifths is the Turn q of the chapter's examples.
func fifths() api.Turn {
	return over(5, rows{{3, -4, 0}, {4, 3, 0}, {0, 0, 5}})
}

// moved returns the Frame of a Turn and a shift.
func moved(t api.Turn, x, y, z int) api.Frame {
	return api.Frame{Turn: t, Shift: vec(x, y, z)}
}

// changed returns t with another element of its matrix.
func changed(t api.Turn, i, j, n int) api.Turn {
	t.M[i][j] = n
	return t
}

// compareRows compares two Turns by their matrices, row by row.
func compareRows(s, t api.Turn) int {
	for i := range 3 {
		if c := slices.Compare(s.M[i][:], t.M[i][:]); c != 0 {
			return c
		}
	}
	return 0
}

// isWithin reports whether all components of v are from -limit to limit.
func isWithin(limit int, v api.Vec) bool {
	for _, n := range []int{v.X, v.Y, v.Z} {
		if n > limit || n < -limit {
			return false
		}
	}
	return true
}

// isTurn reports whether t is valid.
func isTurn(t api.Turn) bool {
	m, d := [3][3]*big.Int{}, big.NewInt(int64(t.D))
	divisor := new(big.Int).Abs(d)
	for i := range 3 {
		for j := range 3 {
			m[i][j] = big.NewInt(int64(t.M[i][j]))
			divisor.GCD(nil, nil, divisor, new(big.Int).Abs(m[i][j]))
		}
	}
	square := new(big.Int).Mul(d, d)
	for i := range 3 {
		for k := range 3 {
			sum := new(big.Int)
			for j := range 3 {
				sum.Add(sum, new(big.Int).Mul(m[i][j], m[k][j]))
			}
			if i == k {
				sum.Sub(sum, square)
			}
			if sum.Sign() != 0 {
				return false
			}
		}
	}
	determinant := new(big.Int) // of the products of three elements, of which no two have a row or a column in common
	for _, c := range []struct{ x, y, z, sign int }{{0, 1, 2, 1}, {1, 2, 0, 1}, {2, 0, 1, 1}, {2, 1, 0, -1}, {0, 2, 1, -1}, {1, 0, 2, -1}} {
		product := big.NewInt(int64(c.sign))
		determinant.Add(determinant, product.Mul(product, m[0][c.x]).Mul(product, m[1][c.y]).Mul(product, m[2][c.z]))
	}
	return t.D >= 1 && t.D <= 25 && determinant.Cmp(square.Mul(square, d)) == 0 && divisor.IsInt64() && divisor.Int64() == 1
}

// isFrame reports whether f is valid.
func isFrame(f api.Frame) bool {
	return isTurn(f.Turn) && isWithin(96, f.Shift)
}

// turns returns the rotations with a denominator of at most 40 in lowest terms: those of the quaternions with integer components.
var turns = sync.OnceValue(func() []api.Turn {
	seen := map[api.Turn]bool{}
	for n := range 25 * 25 * 25 * 25 {
		a, b, c, d := n%25-12, n/25%25-12, n/625%25-12, n/15625-12
		norm := a*a + b*b + c*c + d*d
		if norm == 0 || norm > 160 {
			continue
		}
		t := over(norm, rows{{a*a + b*b - c*c - d*d, 2 * (b*c - a*d), 2 * (b*d + a*c)}, {2 * (b*c + a*d), a*a - b*b + c*c - d*d, 2 * (c*d - a*b)}, {2 * (b*d - a*c), 2 * (c*d + a*b), a*a - b*b - c*c + d*d}})
		if t = reduced(t); t.D <= 40 {
			seen[t] = true
		}
	}
	var out []api.Turn
	for t := range seen {
		out = append(out, t)
	}
	slices.SortFunc(out, func(s, t api.Turn) int {
		if s.D != t.D {
			return s.D - t.D
		}
		return compareRows(s, t)
	})
	return out
})

// reduced returns t in lowest terms.
func reduced(t api.Turn) api.Turn {
	for d := t.D; d > 1; d-- {
		divides := t.D%d == 0
		for i := range 9 {
			divides = divides && t.M[i/3][i%3]%d == 0
		}
		if divides {
			for i := range 9 {
				t.M[i/3][i%3] /= d
			}
			t.D /= d
			break
		}
	}
	return t
}

// validTurns returns the rotations with a denominator of at most limit.
func validTurns(limit int) []api.Turn {
	l := turns()
	return slices.Clip(l[:slices.IndexFunc(l, func(t api.Turn) bool { return t.D > limit })]) // so that what is appended changes nothing
}

// frac is the fraction n / d in lowest terms; d is positive.
type frac struct{ n, d int }

// divisor returns the greatest integer that divides both a and b; 0 if both are 0.
func divisor(a, b int) int {
	for b != 0 {
		a, b = b, a%b
	}
	return max(a, -a)
}

// product returns a b, and panics if this is too great.
func product(a, b int) int {
	if high, low := bits.Mul64(uint64(max(a, -a)), uint64(max(b, -b))); high > 0 || low > 1<<62 {
		panic("a number of the tests is too great")
	}
	return a * b
}

// ratio returns the fraction n / d, for any d but 0.
func ratio(n, d int) frac {
	g := divisor(n, d)
	if d < 0 {
		g = -g
	}
	return frac{n / g, d / g}
}

// times returns a b.
func (a frac) times(b frac) frac {
	return ratio(product(a.n, b.n), product(a.d, b.d))
}

// plus returns a + b.
func (a frac) plus(b frac) frac {
	d := product(a.d/divisor(a.d, b.d), b.d)
	return ratio(product(a.n, d/a.d)+product(b.n, d/b.d), d)
}

// rats is a vector of fractions.
type rats [3]frac

// rational returns a vector of integers as one of fractions.
func rational(v api.Vec) rats {
	return rats{{v.X, 1}, {v.Y, 1}, {v.Z, 1}}
}

// plus returns a + k b.
func (a rats) plus(k frac, b rats) rats {
	for i := range 3 {
		a[i] = a[i].plus(k.times(b[i]))
	}
	return a
}

// minus returns a - b.
func (a rats) minus(b rats) rats {
	return a.plus(frac{-1, 1}, b)
}

// dot returns the inner product.
func (a rats) dot(b rats) frac {
	return a[0].times(b[0]).plus(a[1].times(b[1])).plus(a[2].times(b[2]))
}

// cross returns the cross product.
func (a rats) cross(b rats) rats {
	var out rats
	for i := range 3 {
		j, k := (i+1)%3, (i+2)%3
		out[i] = a[j].times(b[k]).plus(frac{-1, 1}.times(a[k].times(b[j])))
	}
	return out
}

// integers returns a as a vector of integers from -limit to limit; false if it is none.
func (a rats) integers(limit int) (api.Vec, bool) {
	v := vec(a[0].n, a[1].n, a[2].n)
	if a[0].d > 1 || a[1].d > 1 || a[2].d > 1 || !isWithin(limit, v) {
		return api.Vec{}, false
	}
	return v, true
}

// motion sends the point x to the sum of the columns, times the components of x, and the origin's image.
type motion struct {
	columns [3]rats
	origin  rats
}

// motionOf returns what a frame does.
func motionOf(f api.Frame) motion {
	out := motion{origin: rational(f.Shift)}
	for i := range 3 {
		for j := range 3 {
			out.columns[j][i] = ratio(f.Turn.M[i][j], f.Turn.D)
		}
	}
	return out
}

// of returns where m sends the point x.
func (m motion) of(x rats) rats {
	out := m.origin
	for j := range 3 {
		out = out.plus(x[j], m.columns[j])
	}
	return out
}

// then returns what m and n do one after the other.
func (m motion) then(n motion) motion {
	out := motion{origin: n.of(m.origin)}
	for j := range 3 {
		out.columns[j] = n.of(m.origin.plus(frac{1, 1}, m.columns[j])).minus(out.origin)
	}
	return out
}

// back returns what undoes m, by Cramer's rule.
func (m motion) back() motion {
	c := m.columns
	determinant := c[0].cross(c[1]).dot(c[2])
	out := motion{origin: rats{{0, 1}, {0, 1}, {0, 1}}}
	for i := range 3 { // the rows are the cross products of two columns
		row := c[(i+1)%3].cross(c[(i+2)%3])
		for j := range 3 {
			out.columns[j][i] = row[j].times(ratio(determinant.d, determinant.n))
		}
	}
	out.origin = out.origin.minus(out.of(m.origin))
	return out
}

// frame returns the valid frame that does what m does; false if there is none.
func (m motion) frame() (api.Frame, bool) {
	d := 1
	for k := range 9 {
		e := m.columns[k%3][k/3].d
		d = product(d/divisor(d, e), e)
	}
	shift, ok := m.origin.integers(96)
	if !ok || d > 25 {
		return api.Frame{}, false
	}
	out := api.Frame{Turn: api.Turn{D: d}, Shift: shift}
	for k := range 9 {
		element := m.columns[k%3][k/3]
		out.Turn.M[k/3][k%3] = element.n * (d / element.d)
	}
	return out, true
}

// wantedPoint returns what Apply is to return.
func wantedPoint(f api.Frame, v api.Vec) (api.Vec, bool) {
	if !isFrame(f) || !isWithin(24, v) {
		return api.Vec{}, false
	}
	return motionOf(f).of(rational(v)).integers(24)
}

// wantedPlane returns what Plane is to return: where a point of the boundary goes, and another one farther outwards, gives it.
func wantedPlane(f api.Frame, p api.Plane) (api.Plane, bool) {
	if !isFrame(f) || !plane.Valid(p) {
		return api.Plane{}, false
	}
	n, m, from := rational(p.N), motionOf(f), rational(api.Vec{})
	for i := range 3 {
		if n[i].n != 0 { // there the boundary meets an axis
			from = rational(api.Vec{})
			from[i] = ratio(p.B, n[i].n)
		}
	}
	on := m.of(from)
	normal := primitive(m.of(from.plus(frac{1, 1}, n)).minus(on))
	offset := normal.dot(on)
	to, ok := normal.integers(4608)
	if !ok || offset.d > 1 || offset.n > 1<<21 || offset.n < -1<<21 {
		return api.Plane{}, false
	}
	return api.Plane{N: to, B: offset.n}, true
}

// primitive returns the primitive vector of integers with the direction of a.
func primitive(a rats) rats {
	d := product(product(a[0].d, a[1].d), a[2].d)
	g := 0
	for i := range 3 {
		g = divisor(g, product(a[i].n, d/a[i].d))
	}
	return rats{{0, 1}, {0, 1}, {0, 1}}.plus(ratio(d, g), a)
}

// wantedCell returns what Cell is to return.
func wantedCell(f api.Frame, c []api.Plane) ([]api.Plane, bool) {
	var out []api.Plane
	for _, p := range c {
		to, ok := wantedPlane(f, p)
		if !ok {
			return nil, false
		}
		out = append(out, to)
	}
	return out, isFrame(f)
}

// wantedBack returns what Back is to return.
func wantedBack(f api.Frame) (api.Frame, bool) {
	if !isFrame(f) {
		return api.Frame{}, false
	}
	return motionOf(f).back().frame()
}

// wantedAfter returns what After is to return.
func wantedAfter(f, g api.Frame) (api.Frame, bool) {
	if !isFrame(f) || !isFrame(g) {
		return api.Frame{}, false
	}
	return motionOf(f).then(motionOf(g)).frame()
}

// wrongTurns returns Turns that are not valid; many of them are valid but for one condition.
func wrongTurns() []api.Turn {
	out := []api.Turn{{}, over(1, rows{}), over(0, one().M), over(2, quarter().M), over(2, rows{{0, -2, 0}, {2, 0, 0}, {0, 0, 2}}), over(1, rows{{0, -2, 0}, {2, 0, 0}, {0, 0, 2}}), over(10, rows{{6, -8, 0}, {8, 6, 0}, {0, 0, 10}}), over(25, rows{{15, -20, 0}, {20, 15, 0}, {0, 0, 25}})}
	for _, t := range append(validTurns(3), fifths()) {
		negative, reflected, twice := t, t, t
		negative.D, twice.D = -t.D, 2*t.D // the former one does the same, and has also D^3 as its determinant
		for i := range 9 {
			negative.M[i/3][i%3] *= -1
			twice.M[i/3][i%3] *= 2
		}
		reflected.M[0] = negative.M[0]
		swapped := t
		swapped.M[0], swapped.M[1] = t.M[1], t.M[0]
		out = append(out, negative, reflected, twice, swapped, over(-t.D, t.M), over(t.D, negative.M), over(t.D+1, t.M), over(maxInt, t.M), over(minInt, t.M))
	}
	for _, t := range turns() { // in lowest terms, with a denominator that is too great
		if t.D > 25 && t.D < 30 {
			out = append(out, t)
		}
	}
	for _, n := range []int{1 << 31, 1 << 32, 3 << 40, 1 << 60, minInt} { // where squares wrap around to 0, all would seem to be as it must
		for _, m := range []rows{{{1, n, 0}, {-n, 1, 0}, {0, 0, 1}}, {{1, 0, -n}, {0, 1, 0}, {n, 0, 1}}, {{1, 0, 0}, {0, 1, n}, {0, -n, 1}}, {{n, -1, 0}, {1, n, 0}, {0, 0, 1}}, {{1, 0, 0}, {n, 1, 0}, {0, 0, 1}}, {{0, 0, 1}, {1, 0, n}, {0, 1, 0}}} {
			out = append(out, over(1, m))
		}
		q := fifths()
		for i := range 9 {
			q.M[i/3][i%3] += n
		}
		out = append(out, q, over(n+1, one().M), over(n+1, rows{{n + 1, 0, 0}, {0, n + 1, 0}, {0, 0, 1}}))
	}
	return out
}

// wrongFrames returns frames that are not valid.
func wrongFrames() []api.Frame {
	var out []api.Frame
	for _, t := range wrongTurns() {
		out = append(out, api.Frame{Turn: t}, moved(t, 1, 2, 3))
	}
	for _, t := range []api.Turn{one(), quarter(), fifths()} {
		for _, n := range []int{97, 98, 100, 1 << 32, 1 << 62, maxInt} {
			out = append(out, moved(t, n, 0, 0), moved(t, 0, n, 0), moved(t, 0, 0, n), moved(t, -n, 0, 0), moved(t, 0, -n, 0), moved(t, 0, 0, -n), moved(t, n, n, -n))
		}
		out = append(out, moved(t, minInt, 0, 0), moved(t, 0, minInt, 0), moved(t, 0, 0, minInt), moved(t, -97, 97, 97))
	}
	return out
}

// source returns numbers by chance; the same ones for the same seed.
func source(seed uint64) *rand.Rand {
	return rand.New(rand.NewPCG(seed, 11))
}

// near returns a vector whose components are from -bound to bound.
func near(r *rand.Rand, bound int) api.Vec {
	return vec(r.IntN(2*bound+1)-bound, r.IntN(2*bound+1)-bound, r.IntN(2*bound+1)-bound)
}

// someTurn returns a valid Turn; often one with a small denominator.
func someTurn(r *rand.Rand) api.Turn {
	l := validTurns([]int{1, 3, 5, 9, 25, 25}[r.IntN(6)])
	return l[r.IntN(len(l))]
}

// someFrame returns a valid frame, whose shift is often one that Back can undo.
func someFrame(r *rand.Rand) api.Frame {
	f := api.Frame{Turn: someTurn(r), Shift: near(r, []int{0, 1, 6, 24, 96}[r.IntN(5)])}
	if r.IntN(2) == 0 {
		return f
	}
	k := r.IntN(f.Turn.D) // a multiple of the denominator, and of a column
	v := near(r, 3)
	s := vec(k*f.Turn.M[0][0]+f.Turn.D*v.X, k*f.Turn.M[1][0]+f.Turn.D*v.Y, k*f.Turn.M[2][0]+f.Turn.D*v.Z)
	if isWithin(96, s) {
		f.Shift = s
	}
	return f
}

// somePoint returns a point of the workspace, or now and then one that lies outside.
func somePoint(r *rand.Rand) api.Vec {
	return near(r, []int{3, 10, 24, 25}[r.IntN(4)])
}

// somePlane returns a valid plane; sometimes near to the limits, or with a normal that a Turn makes shorter.
func somePlane(r *rand.Rand, t api.Turn) api.Plane {
	for {
		n := near(r, []int{1, 3, 30, 4608}[r.IntN(4)])
		switch r.IntN(6) {
		case 0, 1:
			k := r.IntN(3)
			n = vec(t.M[k][0], t.M[k][1], t.M[k][2])
		case 2:
			i, k := r.IntN(3), 1+r.IntN(150)
			n = vec(t.M[i][0]*k+r.IntN(2), t.M[i][1]*k, t.M[i][2]*k)
		}
		b := r.IntN(201) - 100
		switch r.IntN(5) {
		case 0:
			b *= t.D
		case 1:
			b = (1<<21 - r.IntN(600)) * (2*r.IntN(2) - 1)
		}
		if p := (api.Plane{N: n, B: b}); plane.Valid(p) {
			return p
		}
	}
}

// anyInt returns an int of any length, often one at which something changes.
func anyInt(r *rand.Rand) int {
	if r.IntN(2) == 0 {
		l := []int{0, 1, -1, 5, 24, -25, 25, 26, 96, -96, 97, 4608, -4609, 1 << 21, 1 << 31, 1 << 32, 1 << 62, maxInt, minInt, minInt + 1}
		return l[r.IntN(len(l))]
	}
	return int(r.Uint64()) >> r.IntN(64)
}

// anyVec returns a vector whose components are ints of any length.
func anyVec(r *rand.Rand) api.Vec {
	return vec(anyInt(r), anyInt(r), anyInt(r))
}
