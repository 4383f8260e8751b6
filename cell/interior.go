package cell

import (
	"iter"
	"slices"

	"collet/api"
)

// hasInterior reports whether the planes, whose vertices are these, leave a ball: if none of them has all vertices on its boundary, then their center lies within all of them.
func hasInterior(planes []api.Plane, corners iter.Seq[api.Point]) bool {
	touched := slices.Clone(planes) // by all vertices so far
	for v := range corners {
		touched = slices.DeleteFunc(touched, func(p api.Plane) bool { return height(p, v) < 0 })
		if len(touched) == 0 {
			return true
		}
	}
	return false
}

// fullPoints returns the vertices of a cell that is full; nothing of another one.
func fullPoints(c []api.Plane) []api.Point {
	corners := Points(c)
	if len(corners) == 0 || !hasInterior(bounded(c), slices.Values(corners)) {
		return nil
	}
	return corners
}

// carries reports whether three vertices lie on the boundary of a plane.
func carries(p api.Plane, corners []api.Point) bool {
	on := 0
	for _, v := range corners {
		if height(p, v) == 0 {
			on++
		}
	}
	return on >= 3
}

// floor returns the greatest integers that are not greater than the coordinates of a point.
func floor(v api.Point) api.Vec {
	return api.Vec{X: floorDivided(v.X, v.W), Y: floorDivided(v.Y, v.W), Z: floorDivided(v.Z, v.W)}
}

// ceil returns the least integers that are not less than the coordinates of a point.
func ceil(v api.Point) api.Vec {
	return api.Vec{X: -floorDivided(-v.X, v.W), Y: -floorDivided(-v.Y, v.W), Z: -floorDivided(-v.Z, v.W)}
}

// floorDivided returns the greatest integer that is not greater than n / d, for a positive d.
func floorDivided(n, d int) int {
	q := n / d
	if n%d < 0 {
		q--
	}
	return q
}
