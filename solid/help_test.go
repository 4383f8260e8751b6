package solid_test

import (
	"fmt"
	"math"
	"math/rand/v2"
	"slices"
	"strings"
	"testing"

	"collet/api"
	"collet/cell"
	"collet/hull"
	"collet/plane"
	"collet/solid"
)

type (
	planes = []api.Plane
	cells  = [][]api.Plane
)

// vec returns a vector.
func vec(x, y, z int) api.Vec {
	return api.Vec{X: x, Y: y, Z: z}
}

// half returns the half-space {(x, y, z), b}.
func half(x, y, z, b int) api.Plane {
	return api.Plane{N: vec(x, y, z), B: b}
}

// box returns the cell of all points from (a, b, c) to (x, y, z).
func box(a, b, c, x, y, z int) planes {
	return planes{half(1, 0, 0, x), half(-1, 0, 0, -a), half(0, 1, 0, y), half(0, -1, 0, -b), half(0, 0, 1, z), half(0, 0, -1, -c)}
}

// with returns a cell with more planes.
func with(c planes, more ...api.Plane) planes {
	return slices.Concat(c, more)
}

// same reports whether two lists have the same cells, plane by plane.
func same(a, b cells) bool {
	return slices.EqualFunc(a, b, slices.Equal)
}

// leans returns Lean of each of the cells.
func leans(s ...planes) cells {
	var out cells
	for _, c := range s {
		out = append(out, cell.Lean(c))
	}
	return out
}

// copied returns a list of cells in new memory.
func copied(s cells) cells {
	var out cells
	for _, c := range s {
		out = append(out, slices.Clone(c))
	}
	return out
}

// source returns numbers by chance; the same ones for the same seed.
func source(seed uint64) *rand.Rand {
	return rand.New(rand.NewPCG(seed, 10))
}

// near returns a point whose coordinates are from -bound to bound.
func near(r *rand.Rand, bound int) api.Vec {
	return vec(r.IntN(2*bound+1)-bound, r.IntN(2*bound+1)-bound, r.IntN(2*bound+1)-bound)
}

// normal returns a primitive vector whose components are from -bound to bound.
func normal(r *rand.Rand, bound int) api.Vec {
	for {
		if v, d := plane.Prim(near(r, bound)); d > 0 {
			return v
		}
	}
}

// someBox returns a box with coordinates from 0 to bound; now and then it has no interior.
func someBox(r *rand.Rand, bound int) planes {
	var lo, hi [3]int
	for i := range 3 {
		a, b := r.IntN(bound+1), r.IntN(bound+1)
		if a == b && r.IntN(9) > 0 {
			a, b = 0, 1+r.IntN(bound)
		}
		lo[i], hi[i] = min(a, b), max(a, b)
	}
	return box(lo[0], lo[1], lo[2], hi[0], hi[1], hi[2])
}

// someCell returns a valid cell by chance, of at most as many planes, or six; most of them come near to the points from 0 to 3.
func someCell(r *rand.Rand, most int) planes {
	switch r.IntN(8) {
	case 0, 1, 2:
		return someBox(r, 1+r.IntN(4))
	case 3: // a box, and something cut off
		v := near(r, 3)
		n := normal(r, 2)
		return with(someBox(r, 3), api.Plane{N: n, B: plane.Dot(n, v) + r.IntN(5)})
	case 4: // the hull of points
		if faces, e := hull.Faces([]api.Vec{near(r, 4), near(r, 4), near(r, 4), near(r, 4), near(r, 4)}); e == api.OK && len(faces) <= max(most, 6) {
			return faces
		}
	}
	bound := []int{1, 1, 2, 4, 60, 4608}[r.IntN(6)]
	var out planes
	for range r.IntN(most + 1) {
		n, v := normal(r, bound), vec(r.IntN(4), r.IntN(4), r.IntN(4))
		length := max(n.X, -n.X) + max(n.Y, -n.Y) + max(n.Z, -n.Z)
		out = append(out, api.Plane{N: n, B: plane.Dot(n, v) + r.IntN(2*length+1) - r.IntN(length+1)/2})
	}
	return out
}

// someSolid returns a solid of at most as many cells, of which some may occur twice, or be opposite parts of another one.
func someSolid(r *rand.Rand, most, planesOfCell int) cells {
	var out cells
	for n := r.IntN(most + 1); len(out) < n; {
		c := someCell(r, planesOfCell)
		switch {
		case r.IntN(12) == 0 && len(out) > 0:
			c = out[r.IntN(len(out))]
		case r.IntN(4) == 0 && len(out)+1 < n:
			k := normal(r, 2)
			p := api.Plane{N: k, B: plane.Dot(k, vec(r.IntN(4), r.IntN(4), r.IntN(4)))}
			out = append(out, with(c, p))
			c = with(c, plane.Flip(p))
		}
		out = append(out, c)
	}
	return out
}

// pairs calls f with n valid cells and solids.
func pairs(seed uint64, n, most, planesOfCell int, f func(c planes, s cells)) {
	r := source(seed)
	for range n {
		f(someCell(r, planesOfCell), someSolid(r, most, planesOfCell))
	}
}

// flats returns valid cells without an interior: of one point, of a line, of a polygon, and empty ones.
func flats() cells {
	return cells{
		box(1, 1, 1, 1, 1, 1), box(0, 0, 0, 0, 3, 0), box(0, 0, 1, 4, 3, 1), box(2, 0, 0, 1, 1, 1), box(25, 0, 0, 30, 1, 1), {half(-1, 0, 0, -24)}, {half(0, 1, 0, -25)}, {half(1, 1, 1, -72)}, {half(1, 1, 1, -73)},
		{half(1, 2, 3, 4), half(-1, -2, -3, -4)}, with(box(0, 0, 0, 1, 1, 1), half(1, 1, 1, 0)), with(box(0, 0, 0, 1, 1, 1), half(-1, 0, 0, -1)), slices.Repeat(planes{half(1, 0, 0, -24)}, 48),
	}
}

// wrong returns cells with ErrPlane.
func wrong() cells {
	var out cells
	for _, p := range []api.Plane{half(2, 0, 0, 1), half(0, 0, 0, 0), half(0, 0, 0, 5), half(4609, 1, 0, 0), half(1, -4609, 0, 0), half(1, 0, 0, 1<<21+1), half(1, 0, 0, -1<<21-1), half(math.MaxInt, 1, 0, 0), half(1, math.MinInt, 1, 0), half(1, 0, 0, math.MinInt), half(1, 0, 0, math.MaxInt)} {
		out = append(out, planes{p}, with(box(0, 0, 0, 1, 1, 1), p), with(planes{p}, box(0, 0, 0, 1, 1, 1)...))
	}
	return append(out, make(planes, 48))
}

// long returns cells with ErrMany.
func long() cells {
	return cells{slices.Repeat(planes{half(1, 0, 0, 1)}, 49), make(planes, 49), make(planes, 1000), with(slices.Repeat(planes{half(1, 0, 0, -24)}, 48), half(2, 0, 0, 1))}
}

// round returns a cell of 48 planes, all of which carry facets, which is far from the corners of the workspace.
func round(seed uint64) planes {
	r := source(seed)
	for {
		var l []api.Vec
		for len(l) < 26 {
			if v := near(r, 20); plane.Dot(v, v) < 400 && plane.Dot(v, v) > 340 && !slices.Contains(l, v) {
				l = append(l, v)
			}
		}
		if faces, e := hull.Faces(l); e == api.OK && len(faces) == 48 {
			return faces
		}
	}
}

// wantedPieces returns what Minus is to return for a valid cell and a solid of valid cells.
func wantedPieces(c planes, s cells) (cells, api.Errno) {
	var pieces cells
	if cell.Full(c) {
		pieces = cells{cell.Lean(c)}
	}
	for _, q := range s {
		if !cell.Full(q) {
			continue
		}
		var next cells
		for _, piece := range pieces {
			if cell.Apart(piece, q) {
				next = append(next, piece)
				continue
			}
			rest := piece
			for _, h := range cell.Lean(q) {
				if len(rest) == 48 {
					return nil, api.ErrWork
				}
				if part := with(rest, plane.Flip(h)); cell.Full(part) {
					next = append(next, cell.Lean(part))
				}
				rest = cell.Lean(with(rest, h))
			}
		}
		if len(next) > 200 {
			return nil, api.ErrWork
		}
		pieces = next
	}
	return pieces, api.OK
}

// isCovered reports whether no ball lies in a cell that meets none of the cells of a solid: a point of a ball that is in none is, for each cell, beyond one of its planes.
func isCovered(c planes, s cells) bool {
	if !cell.Full(c) {
		return true
	}
	if len(s) == 0 {
		return false
	}
	if !cell.Full(s[0]) {
		return isCovered(c, s[1:])
	}
	return !slices.ContainsFunc(s[0], func(h api.Plane) bool { return !isCovered(with(c, plane.Flip(h)), s[1:]) })
}

// slabs returns cells that divide the workspace into (x + 1) (y + 1) (z + 1) boxes.
func slabs(x, y, z int) cells {
	var out cells
	for i := range x {
		out = append(out, planes{half(1, 0, 0, -20+5*i), half(-1, 0, 0, 21-5*i)})
	}
	for i := range y {
		out = append(out, planes{half(0, 1, 0, -20+5*i), half(0, -1, 0, 21-5*i)})
	}
	for i := range z {
		out = append(out, planes{half(0, 0, 1, -20+5*i), half(0, 0, -1, 21-5*i)})
	}
	return out
}

// checkMinus complains unless Minus and Covers return just this.
func checkMinus(t *testing.T, c planes, s, want cells, wantError api.Errno) {
	t.Helper()
	got, e := solid.Minus(c, s)
	if e != wantError || !same(got, want) {
		t.Errorf("Minus of %s and %s: %s, %d instead of %s, %d", short(c), short(s...), short(got...), e, short(want...), wantError)
	}
	covers, e := solid.Covers(s, c)
	if e != wantError || covers != (wantError == api.OK && len(want) == 0) {
		t.Errorf("Covers of %s and %s: %v, %d, but Minus is to return %s, %d", short(s...), short(c), covers, e, short(want...), wantError)
	}
}

// short describes cells, the long ones only by their length.
func short(s ...planes) string {
	if len(s) > 16 {
		return fmt.Sprint(len(s), " cells")
	}
	var out []string
	for _, c := range s {
		if len(c) > 20 {
			out = append(out, fmt.Sprint(len(c), " planes"))
		} else {
			out = append(out, fmt.Sprint(c))
		}
	}
	return "[" + strings.Join(out, "; ") + "]"
}
