package solid

import (
	"iter"
	"slices"

	"collet/api"
	"collet/cell"
	"collet/plane"
)

// outside visits what of the pieces is not in a full cell, in order; an error comes last.
func outside(pieces [][]api.Plane, q []api.Plane) iter.Seq2[[]api.Plane, api.Errno] {
	return func(yield func([]api.Plane, api.Errno) bool) {
		walls := cell.Lean(q)
		for _, p := range pieces {
			if cell.Apart(p, q) {
				if !yield(p, api.OK) {
					return
				}
				continue
			}
			for part, e := range parts(p, walls) {
				if !yield(part, e) {
					return
				}
			}
		}
	}
}

// parts visits what of a piece lies beyond the walls of a cell from which it is not apart, each part without what is beyond an earlier wall; an error comes last.
func parts(piece, walls []api.Plane) iter.Seq2[[]api.Plane, api.Errno] {
	return func(yield func([]api.Plane, api.Errno) bool) {
		rest := piece
		for _, h := range walls {
			if len(rest) >= api.MaxPlanes {
				yield(nil, api.ErrWork)
				return
			}
			beyond := cell.Lean(with(rest, plane.Flip(h))) // has the wall as a facet if it is full, since a part of the rest is within the wall
			if len(beyond) > 0 && !yield(beyond, api.OK) {
				return
			}
			rest = cell.Lean(with(rest, h))
		}
	}
}

// with returns a cell with one more plane, in new memory.
func with(c []api.Plane, p api.Plane) []api.Plane {
	return append(slices.Clone(c), p)
}

// gathered returns the pieces of a sequence up to its first error; ErrWork as soon as there are too many, since none of them goes away.
func gathered(pieces iter.Seq2[[]api.Plane, api.Errno]) ([][]api.Plane, api.Errno) {
	var out [][]api.Plane
	for p, e := range pieces {
		if e != api.OK {
			return nil, e
		}
		if len(out) == api.MaxPieces {
			return nil, api.ErrWork
		}
		out = append(out, p)
	}
	return out, api.OK
}
