package cell

import (
	"iter"
	"slices"

	"collet/api"
	"collet/plane"
)

// line is where the boundaries of two planes {N, B} and {M, C} meet: all x for which the cross product of the direction and x is the moment. The direction is the cross product of N and M, and there is no line if it is zero; the moment is B M - C N.
type line struct{ direction, moment api.Vec }

// workspace returns the planes of the workspace, in their order.
func workspace() []api.Plane {
	return []api.Plane{
		{N: api.Vec{X: 1}, B: api.MaxCoord}, {N: api.Vec{X: -1}, B: api.MaxCoord},
		{N: api.Vec{Y: 1}, B: api.MaxCoord}, {N: api.Vec{Y: -1}, B: api.MaxCoord},
		{N: api.Vec{Z: 1}, B: api.MaxCoord}, {N: api.Vec{Z: -1}, B: api.MaxCoord},
	}
}

// bounded returns the planes of valid cells, and after them those of the workspace, without the needless ones. A needless plane is in no first triple of planes that meet in a vertex: its boundary has no point of the cell, or an equal plane comes before it.
func bounded(cells ...[]api.Plane) []api.Plane {
	all := append(slices.Concat(cells...), workspace()...)
	var out []api.Plane
	for i, p := range all {
		before := slices.ContainsFunc(all[:i], func(q api.Plane) bool { return q.N == p.N && q.B <= p.B })
		after := slices.ContainsFunc(all[i+1:], func(q api.Plane) bool { return q.N == p.N && q.B < p.B })
		if !before && !after {
			out = append(out, p)
		}
	}
	return out
}

// meetings visits all triples of planes, in order, and yields the points in which they meet.
func meetings(planes []api.Plane) iter.Seq[api.Point] {
	return func(yield func(api.Point) bool) {
		for i, p := range planes {
			rest := planes[i+1:]
			for k, q := range rest {
				l := common(p, q)
				for _, r := range rest[k+1:] {
					if v, ok := meet(l, r); ok && !yield(v) {
						return
					}
				}
			}
		}
	}
}

// common returns the line of two planes.
func common(p, q api.Plane) line {
	moment := plane.Sub(times(p.B, q.N), times(q.B, p.N))
	return line{direction: plane.Cross(p.N, q.N), moment: moment}
}

// meet returns the point of a line on the boundary of a plane; false unless it is the only one.
func meet(l line, p api.Plane) (api.Point, bool) {
	w := plane.Dot(l.direction, p.N)
	if w == 0 {
		return api.Point{}, false
	}
	v := plane.Add(plane.Cross(l.moment, p.N), times(p.B, l.direction))
	if w < 0 {
		return api.Point{X: -v.X, Y: -v.Y, Z: -v.Z, W: -w}, true
	}
	return api.Point{X: v.X, Y: v.Y, Z: v.Z, W: w}, true
}

// times returns v, n times as long.
func times(n int, v api.Vec) api.Vec {
	return api.Vec{X: n * v.X, Y: n * v.Y, Z: n * v.Z}
}

// vertices visits the points in all planes in which three of them meet, each once.
func vertices(planes []api.Plane) iter.Seq[api.Point] {
	return func(yield func(api.Point) bool) {
		found := map[api.Point]bool{}
		for v := range meetings(planes) {
			if !isIn(planes, v) {
				continue
			}
			v = reduced(v)
			if found[v] {
				continue
			}
			found[v] = true
			if !yield(v) {
				return
			}
		}
	}
}

// isIn reports whether a point lies in all half-spaces.
func isIn(planes []api.Plane, v api.Point) bool {
	for _, p := range planes {
		if height(p, v) > 0 {
			return false
		}
	}
	return true
}

// height returns a number with the sign of N v - B.
func height(p api.Plane, v api.Point) int {
	return p.N.X*v.X + p.N.Y*v.Y + p.N.Z*v.Z - p.B*v.W // less than 2^63 with the limits of valid planes, also if v is outside
}

// reduced returns a point with all four integers divided by the greatest integer that divides them.
func reduced(v api.Point) api.Point {
	_, d := plane.Prim(api.Vec{X: v.X, Y: v.Y, Z: v.Z})
	_, d = plane.Prim(api.Vec{X: d, Y: v.W}) // W is not 0, so there is a greatest one
	return api.Point{X: v.X / d, Y: v.Y / d, Z: v.Z / d, W: v.W / d}
}
