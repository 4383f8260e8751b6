package volume

import (
	"collet/api"
	"collet/plane"
)

// facet is a facet of the hull of points: its normal, which points out of the hull, and the points on it, not all of which are corners.
type facet struct {
	normal api.Vec
	points []api.Vec
}

// facetOn returns the facet on a plane, which is one of those of the hull's facets.
func facetOn(p api.Plane, l []api.Vec) facet {
	f := facet{normal: p.N}
	for _, v := range l {
		if plane.Dot(p.N, v) == p.B {
			f.points = append(f.points, v)
		}
	}
	return f
}

// corner returns one of the corners: nothing but a corner is farthest from a point.
func (f facet) corner() api.Vec {
	farthest := f.points[0]
	for _, v := range f.points {
		if squared(f.points[0], v) > squared(f.points[0], farthest) {
			farthest = v
		}
	}
	return farthest
}

// next returns the corner after a corner, counterclockwise as seen from outside of the hull: no point lies to the right of the way there.
func (f facet) next(corner api.Vec) api.Vec {
	to := corner
	for _, v := range f.points {
		left := plane.Dot(f.normal, plane.Cross(plane.Sub(to, corner), plane.Sub(v, corner)))
		if left < 0 || left == 0 && squared(corner, v) > squared(corner, to) { // the farthest one of a side is its other corner
			to = v
		}
	}
	return to
}

// fan visits the triangles of which a polygon consists, if next says which corner comes after another one: from one corner to each of the sides on which it is not.
func fan(corner api.Vec, next func(corner api.Vec) api.Vec, visit func(a, b, c api.Vec)) {
	b := next(corner)
	for c := next(b); c != corner; b, c = c, next(c) {
		visit(corner, b, c)
	}
}

// squared returns the square of the distance of two points.
func squared(a, b api.Vec) int {
	d := plane.Sub(a, b)
	return plane.Dot(d, d)
}
