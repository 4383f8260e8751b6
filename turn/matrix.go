package turn

import (
	"collet/api"
	"collet/plane"
)

// maxShift is the greatest component of a shift.
const maxShift = 4 * api.MaxCoord

// valid reports whether a frame is valid.
func valid(f api.Frame) bool {
	return Valid(f.Turn) && within(maxShift, [3]int{f.Shift.X, f.Shift.Y, f.Shift.Z})
}

// within reports whether all of three numbers are from -limit to limit.
func within(limit int, l [3]int) bool {
	for i := range 3 {
		if l[i] < -limit || l[i] > limit {
			return false
		}
	}
	return true
}

// sent returns where f sends v, and whether this is a vector of integers; f has a valid Turn, and v is so short that nothing wraps around.
func sent(f api.Frame, v api.Vec) (api.Vec, bool) {
	u := matrix(f.Turn.M).of(v)
	x, first := quotient(u.X, f.Turn.D)
	y, second := quotient(u.Y, f.Turn.D)
	z, third := quotient(u.Z, f.Turn.D)
	return plane.Add(api.Vec{X: x, Y: y, Z: z}, f.Shift), first && second && third
}

// quotient returns a / b, rounded towards 0, and whether b divides a.
func quotient(a, b int) (int, bool) {
	return a / b, a%b == 0
}

// lowest returns the turn m / d in lowest terms.
func lowest(m matrix, d int) api.Turn {
	common := m.divisor(d)
	for i := range 3 {
		for j := range 3 {
			m[i][j] /= common
		}
	}
	return api.Turn{M: m, D: d / common}
}

// matrix is a matrix, by its rows.
type matrix [3][3]int

// diagonal returns n times the matrix that changes nothing.
func diagonal(n int) matrix {
	return matrix{{n, 0, 0}, {0, n, 0}, {0, 0, n}}
}

// within reports whether all elements are from -limit to limit.
func (m matrix) within(limit int) bool {
	return within(limit, m[0]) && within(limit, m[1]) && within(limit, m[2])
}

// transposed returns the matrix whose rows are the columns of m.
func (m matrix) transposed() matrix {
	var out matrix
	for i := range 3 {
		for j := range 3 {
			out[i][j] = m[j][i]
		}
	}
	return out
}

// times returns the product of m and n.
func (m matrix) times(n matrix) matrix {
	var out matrix
	for i := range 3 {
		for j := range 3 {
			for k := range 3 {
				out[i][j] += m[i][k] * n[k][j]
			}
		}
	}
	return out
}

// row returns a row as a vector.
func (m matrix) row(i int) api.Vec {
	return api.Vec{X: m[i][0], Y: m[i][1], Z: m[i][2]}
}

// of returns the product of m and v.
func (m matrix) of(v api.Vec) api.Vec {
	return api.Vec{X: plane.Dot(m.row(0), v), Y: plane.Dot(m.row(1), v), Z: plane.Dot(m.row(2), v)}
}

// determinant returns the determinant of m.
func (m matrix) determinant() int {
	return plane.Dot(plane.Cross(m.row(0), m.row(1)), m.row(2))
}

// divisor returns the greatest integer that divides d, which is positive, and all elements.
func (m matrix) divisor(d int) int {
	for i := range 3 {
		for j := range 3 {
			a, b := d, m[i][j]
			for b != 0 {
				a, b = b, a%b
			}
			d = max(a, -a)
		}
	}
	return d
}
