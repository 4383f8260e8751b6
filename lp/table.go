package lp

import (
	"collet/api"
	"collet/num"
	"collet/ratio"
)

// table is the table of the simplex method, in its revised form and without fractions.
//
// Each of its rows belongs to a column of the basis: only these columns have values other than 0, and they are independent. The columns of the program have their indices. Those below 0 are auxiliary: -1 - i has 1 in the row i, or -1 if Rhs is negative there, and 0 in the others.
//
// A row has its row of the inverse of the basis, and at its end the value of its column, which is never negative; all of it times scale, the absolute value of the determinant of the basis. So each entry is, up to its sign, a determinant of at most 6 rows of numbers of at most 2^31: it is less than 2^194, and everything that is computed from entries fits.
type table struct {
	columns [][]api.Num // of the program
	basis   []int       // by row
	rows    [][]api.Num
	scale   api.Num              // positive
	cost    func(column int) int // what counts: at first the auxiliary columns, then the program's costs
}

// newTable returns the table whose basis is the auxiliary columns, at their costs.
func newTable(l api.Linear) *table {
	t := &table{scale: num.Of(1), cost: auxiliaryCost}
	for _, column := range l.A {
		var entries []api.Num
		for _, n := range column {
			entries = append(entries, num.Of(n))
		}
		t.columns = append(t.columns, entries)
	}
	height := len(l.Rhs)
	for i, n := range l.Rhs {
		unit := 1
		if n < 0 {
			unit = -1
		}
		entries := make([]api.Num, height+1)
		entries[i], entries[height] = num.Of(unit), num.Of(unit*n)
		t.rows = append(t.rows, entries)
		t.basis = append(t.basis, -1-i)
	}
	return t
}

// isAuxiliary reports whether a column is none of the program.
func isAuxiliary(column int) bool {
	return column < 0
}

// auxiliaryCost is 1 for auxiliary columns: they cost nothing just if they have the value 0.
func auxiliaryCost(column int) int {
	if isAuxiliary(column) {
		return 1
	}
	return 0
}

// descend exchanges columns of the basis until no exchange lowers the cost. It returns the column whose value lowers it without end, and true; false if there is none.
//
// Of several columns the first one enters, and the first one leaves (Bland's rule): so no basis comes twice, though many may have the same cost. Auxiliary columns never enter.
func (t *table) descend() (int, bool) {
	for {
		column, found := t.entering()
		if !found {
			return 0, false
		}
		parts := t.partsOf(column)
		i, found := t.leaving(parts)
		if !found {
			return column, true
		}
		t.exchange(i, column, parts)
	}
}

// entering returns the first column of the program that costs less than the basis takes for the same; false if there is none.
func (t *table) entering() (int, bool) {
	prices := t.scaledPrices()
	for k, column := range t.columns {
		if num.Cmp(times(num.Of(t.cost(k)), t.scale), inner(column, prices)) < 0 {
			return k, true
		}
	}
	return 0, false
}

// leaving returns the row whose value becomes 0 first if a column with these parts gets a value, and of several ones that of the first column; false if none becomes 0.
func (t *table) leaving(parts []api.Num) (int, bool) {
	first, found := 0, false
	for i, part := range parts {
		if sign(part) <= 0 {
			continue
		}
		if !found {
			first, found = i, true
			continue
		}
		order := num.Cmp(times(t.value(i), parts[first]), times(t.value(first), part))
		if order < 0 || order == 0 && t.basis[i] < t.basis[first] {
			first = i
		}
	}
	return first, found
}

// exchange lets a column of the program, with its parts, take the place of that of the row i, where its part is not 0. The part is negative only where the value is 0.
func (t *table) exchange(i, column int, parts []api.Num) {
	pivot, entries := parts[i], t.rows[i]
	if sign(pivot) < 0 {
		pivot = opposite(pivot)
		for k, entry := range entries {
			entries[k] = opposite(entry)
		}
	}
	for r, others := range t.rows {
		if r == i {
			continue
		}
		for k, other := range others {
			rest, _ := num.Sub(times(pivot, other), times(parts[r], entries[k]))
			others[k], _, _ = num.Div(rest, t.scale) // the scale so far divides it (Sylvester's identity)
		}
	}
	t.basis[i], t.scale = column, pivot
}

// feasible reports whether all auxiliary columns of the basis have the value 0.
func (t *table) feasible() bool {
	for i, column := range t.basis {
		if isAuxiliary(column) && sign(t.value(i)) != 0 {
			return false
		}
	}
	return true
}

// dropAuxiliary exchanges the auxiliary columns of the basis, whose values are 0, for columns of the program. One that stays belongs to a row of the program that follows from others: no column of the program has a part of it, and so its value remains 0.
func (t *table) dropAuxiliary() {
	for i, old := range t.basis {
		if !isAuxiliary(old) {
			continue
		}
		for k := range t.columns {
			if sign(inner(t.columns[k], t.rows[i])) != 0 {
				t.exchange(i, k, t.partsOf(k))
				break
			}
		}
	}
}

// partsOf returns, times scale, how much of the basis makes a column of the program.
func (t *table) partsOf(column int) []api.Num {
	var parts []api.Num
	for _, entries := range t.rows {
		parts = append(parts, inner(t.columns[column], entries))
	}
	return parts
}

// scaledPrices returns, times scale, by row of the program what 1 in it costs with the basis.
func (t *table) scaledPrices() []api.Num {
	prices := make([]api.Num, len(t.rows))
	for i, entries := range t.rows {
		cost := num.Of(t.cost(t.basis[i]))
		for k := range prices {
			prices[k], _ = num.Add(prices[k], times(cost, entries[k]))
		}
	}
	return prices
}

// prices returns, by row of the program, what 1 in it costs with the basis.
func (t *table) prices() []api.Ratio {
	var prices []api.Ratio
	for _, price := range t.scaledPrices() {
		prices = append(prices, t.unscaled(price))
	}
	return prices
}

// point returns the values of all columns of the program.
func (t *table) point() []api.Ratio {
	x := t.origin()
	for i, column := range t.basis {
		if !isAuxiliary(column) {
			x[column] = t.unscaled(t.value(i))
		}
	}
	return x
}

// direction returns how the values of all columns of the program change if that of a column grows by 1, which is none of the basis. The parts of auxiliary columns are 0.
func (t *table) direction(column int) []api.Ratio {
	z := t.origin()
	z[column] = ratio.Int(1)
	for i, part := range t.partsOf(column) {
		if !isAuxiliary(t.basis[i]) {
			z[t.basis[i]] = t.unscaled(opposite(part))
		}
	}
	return z
}

// origin returns 0 for each column of the program.
func (t *table) origin() []api.Ratio {
	var zeros []api.Ratio
	for range t.columns {
		zeros = append(zeros, ratio.Int(0))
	}
	return zeros
}

// value returns, times scale, the value of the column of the row i.
func (t *table) value(i int) api.Num {
	return t.rows[i][len(t.rows)]
}

// unscaled returns n divided by scale.
func (t *table) unscaled(n api.Num) api.Ratio {
	r, _ := ratio.Of(n, t.scale)
	return r
}

// inner returns the inner product of a column of the program and as many first entries.
func inner(column, entries []api.Num) api.Num {
	var sum api.Num
	for i, n := range column {
		sum, _ = num.Add(sum, times(n, entries[i]))
	}
	return sum
}

// times returns a b, which fits.
func times(a, b api.Num) api.Num {
	product, _ := num.Mul(a, b)
	return product
}

// sign returns the sign of n: -1, 0 or 1.
func sign(n api.Num) int {
	return num.Cmp(n, num.Of(0))
}

// opposite returns -n.
func opposite(n api.Num) api.Num {
	negated, _ := num.Sub(num.Of(0), n)
	return negated
}
