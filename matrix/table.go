package matrix

import (
	"iter"

	"collet/api"
	"collet/num"
)

// table is a matrix whose columns are visited one by one, and cleared: Jordan's elimination without fractions.
//
// Of the columns that were visited, those that are not dependent are as many as rank. The first rank rows belong to them, in order: each one has scale in its own column, and 0 in the columns of the others. All other rows have 0 in all columns that were visited.
//
// Every entry is, up to its sign, a determinant of rank or rank + 1 rows and columns of the matrix that was given. There are at most 8 of them, of entries of at most 2^31, so it is at most 2^260, and everything that is computed from entries fits.
type table struct {
	rows  [][]api.Num
	width int // also if there are no rows
	rank  int
	scale api.Num // not 0
}

// newTable returns the table of a matrix, of which no column was visited.
func newTable(rows [][]int, width int) *table {
	t := &table{width: width, scale: num.Of(1)}
	for _, row := range rows {
		var entries []api.Num
		for _, n := range row {
			entries = append(entries, num.Of(n))
		}
		t.rows = append(t.rows, entries)
	}
	return t
}

// dependent visits all columns, once, and yields those that are dependent.
func (t *table) dependent() iter.Seq[int] {
	return func(yield func(int) bool) {
	columns:
		for column := range t.width {
			for i := t.rank; i < len(t.rows); i++ {
				if !isZero(t.rows[i][column]) {
					t.begin(i, column)
					continue columns
				}
			}
			if !yield(column) {
				return
			}
		}
	}
}

// begin lets the row i, which is not 0 in this column, belong to it, and clears the column in all other rows.
func (t *table) begin(i, column int) {
	first := t.rows[i]
	t.rows[i], t.rows[t.rank] = t.rows[t.rank], first
	scale := first[column]
	combine := func(row []api.Num) {
		factor := row[column]
		for k, entry := range row {
			minuend, _ := num.Mul(scale, entry)
			subtrahend, _ := num.Mul(factor, first[k])
			rest, _ := num.Sub(minuend, subtrahend)
			row[k], _, _ = num.Div(rest, t.scale) // the scale so far divides it (Sylvester's identity)
		}
	}
	for k, row := range t.rows {
		if k != t.rank {
			combine(row)
		}
	}
	t.scale = scale
	t.rank++
}

// relation visits the columns as far as the first dependent one. It returns the primitive vector that all rows send to 0 and that ends there, with a positive element; nothing if there is no such column.
func (t *table) relation() []api.Num {
	for column := range t.dependent() {
		return t.relationAt(column)
	}
	return nil
}

// relationAt returns the relation; the column is the first dependent one, and the last one that was visited.
func (t *table) relationAt(column int) []api.Num {
	v := make([]api.Num, t.width)
	for i := range column { // the row i belongs to the column i: none before was dependent
		v[i] = opposite(t.rows[i][column])
	}
	v[column] = t.scale
	var divisor api.Num
	for _, n := range v {
		divisor, _ = num.Gcd(divisor, n)
	}
	if t.scale.Neg {
		divisor = opposite(divisor)
	}
	for i, n := range v {
		v[i], _, _ = num.Div(n, divisor)
	}
	return v
}

// isZero reports whether n, which is right, is 0.
func isZero(n api.Num) bool {
	return num.Cmp(n, num.Of(0)) == 0
}

// opposite returns -n, where n is right.
func opposite(n api.Num) api.Num {
	negated, _ := num.Sub(num.Of(0), n)
	return negated
}
