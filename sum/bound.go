package sum

import (
	"collet/api"
	"collet/plane"
)

// bound is how far something may be away from where it is meant to be, by component.
type bound api.Vec

// valid reports whether it is an error bound.
func (b bound) valid() bool {
	return min(b.X, b.Y, b.Z) >= 0 && max(b.X, b.Y, b.Z) <= api.MaxError
}

// outwards returns how far all points within the bound of a half-space with the normal n reach out of it.
func (b bound) outwards(n api.Vec) int {
	return plane.Reach(n, api.Vec(b))
}

// inwards returns the opposite of outwards.
func (b bound) inwards(n api.Vec) int {
	return -b.outwards(n)
}

// pushed returns all planes of a cell, each pushed by what by returns for its normal; false unless the bound is an error bound, and all planes can be pushed.
func pushed(c []api.Plane, b bound, by func(n api.Vec) int) ([]api.Plane, bool) {
	if !b.valid() {
		return nil, false
	}
	var out []api.Plane
	for _, p := range c {
		moved, ok := plane.Push(p, by(p.N))
		if !ok {
			return nil, false
		}
		out = append(out, moved)
	}
	return out, true
}
