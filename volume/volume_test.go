package volume_test

import (
	"math/big"
	"slices"
	"testing"

	"collet/api"
	"collet/hull"
	"collet/plane"
	"collet/volume"
)

func TestSixOfExamples(t *testing.T) { // P13.1
	for _, x := range []struct {
		name string
		l    []api.Vec
		want int
		e    api.Errno
	}{
		{"the tetrahedron", tetrahedron(), 8, api.OK}, {"it in another order", vecs(0, 2, 0, 0, 0, 2, 0, 0, 0, 2, 0, 0), 8, api.OK}, {"a box", box(vec(0, 0, 0), vec(1, 2, 3)), 36, api.OK}, {"a box of negative coordinates", box(vec(-3, -5, -7), vec(-1, -2, -3)), 144, api.OK}, {"points of a plane", vecs(0, 0, 0, 2, 0, 0, 0, 2, 0, 2, 2, 0), 0, api.ErrFlat}, {"49 points", slices.Repeat(tetrahedron(), 13)[:49], 0, api.ErrMany},
		{"the least tetrahedron", vecs(0, 0, 0, 1, 0, 0, 0, 1, 0, 0, 0, 1), 1, api.OK}, {"a thin one", vecs(0, 0, 0, 24, 24, 23, 24, 23, 24, -24, -23, -23), determinant(vec(0, 0, 0), vec(24, 23, 24), vec(24, 24, 23), vec(-24, -23, -23)), api.OK}, {"the workspace", grid(-24, 24), 6 * 48 * 48 * 48, api.OK}, {"the workspace with points of it", append(grid(-7, 0, 7), append(vecs(24, 0, 0, 24, 24, 0, 0, -24, 24, 0, 0, -24), grid(24, -24)...)...), 6 * 48 * 48 * 48, api.OK},
		{"the octahedron", octahedron(1), 8, api.OK}, {"the greatest octahedron", octahedron(24), 8 * 24 * 24 * 24, api.OK}, {"a pyramid", vecs(4, 4, 0, 2, 2, 5, 0, 0, 0, 2, 2, 0, 4, 0, 0, 0, 4, 0), 2 * 16 * 5, api.OK}, {"a pyramid of points of its bottom", append(grid(0, 2, 4)[:9], vecs(4, 1, 1)...), 2 * 16 * 4, api.OK}, {"a prism of 16 sides", append(round(-3), round(5)...), 6 * 8 * 1794, api.OK}, {"a cone of 16 sides", append(round(-3), vec(9, 9, 5)), 2 * 8 * 1794, api.OK},
		{"points twice", slices.Repeat(tetrahedron(), 12), 8, api.OK}, {"a point outside", append(tetrahedron(), vec(0, 0, 25)), 0, api.ErrRange}, {"nothing", nil, 0, api.ErrFlat},
	} {
		if got, e := volume.Six(x.l); got != x.want || e != x.e {
			t.Errorf("Six of %s: %d, %d instead of %d, %d", x.name, got, e, x.want, x.e)
		}
	}
}

func TestErrorsAreThoseOfCheck(t *testing.T) { // P13.1 and P13.3
	count := map[api.Errno]int{}
	check := func(l []api.Vec) {
		want := hull.Check(l)
		count[want]++
		if got, e := volume.Six(l); e != want || (got == 0) != (e != api.OK) {
			t.Errorf("Six of %d points, %v: %d, %d instead of the error %d", len(l), l[:min(len(l), 50)], got, e, want)
		}
		for _, x := range [][2]api.Vec{{vec(-9, -9, -9), vec(9, 9, 9)}, {}, {vec(0, 0, 0), vec(-1, -1, -1)}} {
			if got, e := volume.Most(l, x[0], x[1]); e != want || e != api.OK && got != 0 {
				t.Errorf("Most of %d points, %v: %d, %d instead of the error %d", len(l), l[:min(len(l), 50)], got, e, want)
			}
		}
	}
	for _, l := range slices.Concat(solids(), wrongs()) {
		check(l)
		for k := range l[:min(len(l), 50)] {
			if len(l) < 50 {
				check(slices.Insert(slices.Clone(l), k, vec(0, 0, []int{25, -25, maxInt, minInt}[k%4])))
			}
		}
	}
	r := source(1)
	for range 3000 {
		check(list(r, 9))
	}
	for _, e := range []api.Errno{api.OK, api.ErrMany, api.ErrRange, api.ErrFlat} {
		if count[e] < 10 {
			t.Errorf("only %d lists with the error %d", count[e], e)
		}
	}
}

func TestSixOfLists(t *testing.T) { // P13.1
	hulls(2, 6000, 8, func(l []api.Vec) { checkSix(t, l) })
	hulls(3, 1000, 24, func(l []api.Vec) { checkSix(t, l) })
	hulls(4, 300, 48, func(l []api.Vec) { checkSix(t, l) })
}

func TestSixOfSubsets(t *testing.T) { // P13.1
	for _, all := range [][]api.Vec{grid(0, 1), append(octahedron(2), vecs(1, 0, 0, 1, 1, 0, 0, 0, 0, -1, -1, 0)...), append(vecs(0, 0, 0, 0, 0, 3, 2, 2, 1), grid(0, 1, 2)[:9]...)} {
		for bits := range 1 << len(all) {
			var l []api.Vec
			for i, v := range all {
				if bits>>i&1 == 1 {
					l = append(l, v)
				}
			}
			if hull.Check(l) == api.OK {
				checkSix(t, l)
			}
		}
	}
}

func TestSixOfFacetsWithManyPoints(t *testing.T) { // P13.1: facets whose corners are few of their points, in all orders
	r := source(5)
	for range 400 {
		a, b := vec(r.IntN(5)-2, r.IntN(5)-2, r.IntN(5)-2), vec(r.IntN(5)-2, r.IntN(5)-2, r.IntN(5)-2)
		l := []api.Vec{near(r, 9)}
		for range 20 + r.IntN(20) { // of the plane of the directions a and b
			i, k := r.IntN(7)-3, r.IntN(7)-3
			l = append(l, vec(i*a.X+k*b.X, i*a.Y+k*b.Y, i*a.Z+k*b.Z))
		}
		r.Shuffle(len(l), func(i, k int) { l[i], l[k] = l[k], l[i] })
		if hull.Check(l) == api.OK {
			checkSix(t, l)
		}
	}
}

func TestSixOfCells(t *testing.T) { // P13.1: by another way, which needs no integers
	count := 0
	hulls(6, 600, 16, func(l []api.Vec) {
		faces, e := hull.Faces(l)
		if e != api.OK || len(faces) > 48 {
			return
		}
		count++
		if got, want := sixOf(t, l), sixOfCell(faces); want.Cmp(big.NewRat(int64(got), 1)) != 0 {
			t.Errorf("Six of %v: %d, but of the cell %v: %v", l, got, faces, want)
		}
	})
	if count < 200 {
		t.Errorf("only %d cells", count)
	}
}

func TestBox(t *testing.T) { // P13.2
	for _, x := range []struct {
		lo, hi api.Vec
		want   int
	}{
		{vec(0, 0, 0), vec(1, 2, 3), 6}, {vec(0, 0, 0), vec(1, 0, 3), 0}, {vec(0, 0, 0), vec(-1, -1, 3), 0}, {vec(0, 0, 0), vec(0, 2, 3), 0}, {vec(0, 0, 0), vec(1, 2, 0), 0}, {vec(0, 0, 0), vec(-1, 2, 3), 0}, {vec(0, 0, 0), vec(1, -2, 3), 0}, {vec(0, 0, 0), vec(1, 2, -3), 0}, {vec(0, 0, 0), vec(-1, -1, -1), 0}, {vec(0, 0, 0), vec(3, -1, -1), 0}, {vec(0, 0, 0), vec(-1, 3, -1), 0}, {vec(5, 5, 5), vec(5, 5, 5), 0},
		{vec(-3, 4, -5), vec(2, 11, 8), 5 * 7 * 13}, {vec(-9, -8, -7), vec(-6, -6, -6), 6}, {vec(-24, -24, -24), vec(24, 24, 24), 48 * 48 * 48}, {vec(7, 8, 9), vec(8, 9, 10), 1}, {vec(0, 0, 0), vec(1<<20, 1<<20, 1<<20), 1 << 60}, // outside of the workspace
		{vec(0, 0, 0), vec(1<<21, 1<<21, 1<<21), minInt}, {vec(0, 0, 0), vec(1<<32, 1<<32, 5), 0}, {vec(minInt, 0, 0), vec(maxInt, 1, 1), -1}, {vec(minInt, minInt, 0), vec(maxInt, maxInt, 7), 7}, {vec(-1<<62, 0, 0), vec(1<<62, 1, 1), minInt}, {vec(maxInt, 0, 0), vec(minInt, 1, 1), 0}, {vec(minInt, 0, 0), vec(minInt, 1, 1), 0}, // differences and products wrap around
	} {
		if got := volume.Box(x.lo, x.hi); got != x.want {
			t.Errorf("Box from %v to %v: %d instead of %d", x.lo, x.hi, got, x.want)
		}
	}
}

// wantedBox returns what Box is to return.
func wantedBox(lo, hi api.Vec) int {
	product := big.NewInt(1)
	for i, n := range components(lo) {
		if components(hi)[i] <= n {
			return 0
		}
		product.Mul(product, new(big.Int).Sub(big.NewInt(int64(components(hi)[i])), big.NewInt(int64(n))))
	}
	return int(product.And(product, new(big.Int).SetUint64(1<<64-1)).Uint64())
}

func TestBoxOfAnyInts(t *testing.T) { // P13.2
	for _, lo := range grid(-2, 0, 1, 3) {
		for _, hi := range grid(-3, -1, 0, 2, 4) {
			if got, want := volume.Box(lo, hi), wantedBox(lo, hi); got != want {
				t.Errorf("Box from %v to %v: %d instead of %d", lo, hi, got, want)
			}
		}
	}
	r := source(7)
	ends := []int{0, 1, -1, 24, -24, 1 << 31, -1 << 31, 1 << 32, 1 << 62, -1 << 62, maxInt, maxInt - 1, minInt, minInt + 1}
	number := func() int {
		if r.IntN(3) == 0 {
			return ends[r.IntN(len(ends))]
		}
		return int(r.Uint64()) >> r.IntN(64)
	}
	filled := 0
	for range 200000 {
		lo, hi := vec(number(), number(), number()), vec(number(), number(), number())
		want := wantedBox(lo, hi)
		if got := volume.Box(lo, hi); got != want {
			t.Fatalf("Box from %v to %v: %d instead of %d", lo, hi, got, want)
		}
		if want != 0 {
			filled++
		}
	}
	if filled < 1000 {
		t.Errorf("only %d boxes", filled)
	}
}

func TestMostOfExamples(t *testing.T) { // P13.3
	for _, x := range []struct {
		l      []api.Vec
		lo, hi api.Vec
		want   int
		e      api.Errno
	}{
		{tetrahedron(), vec(0, 0, 0), vec(1, 1, 1), 6, api.OK}, {tetrahedron(), vec(0, 0, 0), vec(5, 5, 5), 8, api.OK}, {tetrahedron(), vec(3, 0, 0), vec(4, 4, 4), 0, api.OK}, {tetrahedron(), vec(2, 0, 0), vec(4, 4, 4), 0, api.OK}, {tetrahedron(), vec(1, 0, 0), vec(4, 4, 4), 8, api.OK}, {tetrahedron(), vec(1, 1, 0), vec(4, 4, 1), 6, api.OK}, {tetrahedron(), vec(1, 1, 1), vec(4, 4, 4), 6, api.OK}, // also if hull and box have less in common
		{tetrahedron(), vec(-9, -9, -9), vec(1, 1, 1), 6, api.OK}, {tetrahedron(), vec(-9, -9, -9), vec(0, 9, 9), 0, api.OK}, {tetrahedron(), vec(-9, 0, -9), vec(9, 0, 9), 0, api.OK}, {tetrahedron(), vec(1, 1, 1), vec(0, 0, 0), 0, api.OK}, {tetrahedron(), vec(9, 9, 0), vec(-9, -9, 9), 0, api.OK}, {tetrahedron(), vec(0, 0, 0), vec(0, 0, 0), 0, api.OK},
		{grid(0, 4), vec(0, 0, 0), vec(4, 4, 4), 384, api.OK}, {grid(0, 4), vec(1, -5, 2), vec(3, 3, 9), 6 * 2 * 3 * 2, api.OK}, {grid(0, 4), vec(4, 0, 0), vec(9, 4, 4), 0, api.OK}, {grid(0, 4), vec(-1, -1, -1), vec(3, 5, 5), 6 * 3 * 4 * 4, api.OK}, {octahedron(3), vec(0, 0, 0), vec(3, 3, 3), 6 * 27, api.OK}, {octahedron(3), vec(-1, -2, -3), vec(3, 3, 3), 8 * 27, api.OK},
		{tetrahedron(), vec(minInt, minInt, minInt), vec(maxInt, maxInt, maxInt), 8, api.OK}, {tetrahedron(), vec(maxInt, maxInt, maxInt), vec(minInt, minInt, minInt), 0, api.OK}, {tetrahedron(), vec(minInt, 0, minInt), vec(1, 1, 1), 6, api.OK}, {tetrahedron(), vec(minInt, minInt, minInt), vec(minInt, 1, 1), 0, api.OK}, {tetrahedron(), vec(maxInt, 0, 0), vec(maxInt, 5, 5), 0, api.OK}, {tetrahedron(), vec(0, 0, 1), vec(maxInt, maxInt, maxInt), 8, api.OK}, {tetrahedron(), vec(1, 1, minInt), vec(1<<32, 1<<62, 1), 6, api.OK},
		{tetrahedron()[:3], vec(0, 0, 0), vec(1, 1, 1), 0, api.ErrFlat}, {slices.Repeat(tetrahedron(), 13)[:49], vec(0, 0, 0), vec(1, 1, 1), 0, api.ErrMany}, {append(tetrahedron(), vec(0, -25, 0)), vec(0, 0, 0), vec(1, 1, 1), 0, api.ErrRange}, {nil, vec(0, 0, 0), vec(1, 1, 1), 0, api.ErrFlat}, {nil, vec(0, 0, 0), vec(0, 0, 0), 0, api.ErrFlat},
	} {
		if got, e := volume.Most(x.l, x.lo, x.hi); got != x.want || e != x.e {
			t.Errorf("Most of %v and the box from %v to %v: %d, %d instead of %d, %d", x.l, x.lo, x.hi, got, e, x.want, x.e)
		}
	}
}

func TestMostOfSmallBoxes(t *testing.T) { // P13.3
	for _, l := range [][]api.Vec{tetrahedron(), octahedron(2), grid(0, 2), vecs(-1, -2, 0, 2, 0, 1, 0, 2, -1, 1, 1, 2)} {
		for _, lo := range grid(-3, -2, -1, 0, 1, 2) {
			for _, hi := range grid(-2, -1, 0, 1, 2, 3) {
				checkMost(t, l, lo, hi)
			}
		}
	}
}

func TestMostOfLists(t *testing.T) { // P13.3
	r := source(8)
	hullLess, boxLess, nothing := 0, 0, 0
	for _, l := range wrongs() {
		checkMost(t, l, vec(-5, -5, -5), vec(5, 5, 5))
	}
	hulls(9, 4000, 14, func(l []api.Vec) {
		for range 3 {
			corner := l[r.IntN(len(l))]
			lo, hi := plane.Add(corner, near(r, 6)), plane.Add(corner, near(r, 40))
			switch r.IntN(3) {
			case 0:
				hi = vec(lo.X+r.IntN(9), lo.Y+r.IntN(9), lo.Z+r.IntN(40))
			case 1:
				lo = vec(lo.X-r.IntN(40), lo.Y-r.IntN(40), lo.Z-r.IntN(9))
				hi = vec(lo.X+60, lo.Y+50, lo.Z+r.IntN(40))
			}
			checkMost(t, l, lo, hi)
			switch most := mostOf(t, l, lo, hi); {
			case most == 0:
				nothing++
			case most == sixOf(t, l):
				hullLess++
			default:
				boxLess++
			}
		}
	})
	if hullLess < 300 || boxLess < 300 || nothing < 300 {
		t.Errorf("the hull was less %d times, the box %d times, and nothing was common %d times", hullLess, boxLess, nothing)
	}
}
