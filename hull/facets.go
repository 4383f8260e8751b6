package hull

import (
	"iter"
	"slices"

	"collet/api"
	"collet/plane"
)

// triple is three points.
type triple struct{ a, b, c api.Vec }

// flat reports whether all points of the workspace lie in one plane.
func flat(l []api.Vec) bool {
	for _, b := range l {
		if b == l[0] {
			continue
		}
		for _, c := range l {
			if p, ok := plane.Through(l[0], b, c); ok {
				return !slices.ContainsFunc(l, func(v api.Vec) bool { return plane.Dot(p.N, v) != p.B })
			}
		}
		return true // all of them lie on the line through the first one and b
	}
	return true
}

// facets visits the planes of the facets of the hull of points that do not lie in one plane, each once.
func facets(l []api.Vec) iter.Seq[api.Plane] {
	return func(yield func(api.Plane) bool) {
		points := different(l)
		found := map[api.Plane]bool{}
		for t := range triples(points) {
			p, ok := supporting(points, t)
			if !ok || found[p] {
				continue
			}
			found[p] = true
			if !yield(p) {
				return
			}
		}
	}
}

// triples visits all triples of points.
func triples(l []api.Vec) iter.Seq[triple] {
	return func(yield func(triple) bool) {
		for i, a := range l {
			for k, b := range l[:i] {
				for _, c := range l[:k] {
					if !yield(triple{a, b, c}) {
						return
					}
				}
			}
		}
	}
}

// supporting returns the plane through a triple, as the half-space that has all points; false if the triple lies on a line, or points lie on both sides.
func supporting(l []api.Vec, t triple) (api.Plane, bool) {
	normal := plane.Cross(plane.Sub(t.b, t.a), plane.Sub(t.c, t.a)) // not divided yet, as most triples are refused
	below, above := false, false
	for _, v := range l {
		height := plane.Dot(normal, plane.Sub(v, t.a))
		below, above = below || height < 0, above || height > 0
		if below && above {
			return api.Plane{}, false
		}
	}
	if above {
		return plane.Through(t.a, t.c, t.b)
	}
	return plane.Through(t.a, t.b, t.c) // false on a line, as all heights are 0 there
}

// different returns all points, each once.
func different(l []api.Vec) []api.Vec {
	var out []api.Vec
	for _, v := range l {
		if !slices.Contains(out, v) {
			out = append(out, v)
		}
	}
	return out
}

// isVertex reports whether a point of the hull with these facets is a vertex: only there do three facets meet, as just two do within an edge.
func isVertex(v api.Vec, faces []api.Plane) bool {
	meeting := 0
	for _, p := range faces {
		if plane.Dot(p.N, v) == p.B {
			meeting++
		}
	}
	return meeting >= 3
}
