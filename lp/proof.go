package lp

import (
	"collet/api"
	"collet/ratio"
)

// The proofs of valid programs. A Ratio that is not right takes part in a sum of products, and so is refused with it.

// isBest reports whether x is feasible, and y proves that none costs less.
func isBest(l api.Linear, x, y []api.Ratio) bool {
	if !leadsTo(l, x, l.Rhs) || !isBelow(l, y, l.Cost) {
		return false
	}
	cost, ok := sumOfProducts(l.Cost, x)
	bound, fits := sumOfProducts(l.Rhs, y)
	return ok && fits && ratio.Cmp(cost, bound) == 0
}

// isImpossible reports whether y proves that there is no feasible x.
func isImpossible(l api.Linear, y []api.Ratio) bool {
	if !isBelow(l, y, make([]int, len(l.A))) {
		return false
	}
	bound, ok := sumOfProducts(l.Rhs, y)
	return ok && ratio.Sign(bound) > 0
}

// isEndless reports whether x is feasible, and z lowers the cost without end.
func isEndless(l api.Linear, x, z []api.Ratio) bool {
	if !leadsTo(l, x, l.Rhs) || !leadsTo(l, z, make([]int, len(l.Rhs))) {
		return false
	}
	cost, ok := sumOfProducts(l.Cost, z)
	return ok && ratio.Sign(cost) < 0
}

// leadsTo reports whether x has an element for each column, none of which is negative, and the sums of the rows are the given ones.
func leadsTo(l api.Linear, x []api.Ratio, sums []int) bool {
	if len(x) != len(l.A) {
		return false
	}
	for _, r := range x {
		if ratio.Sign(r) < 0 {
			return false
		}
	}
	for i, want := range sums {
		sum, ok := sumOfProducts(row(l, i), x)
		if !ok || ratio.Cmp(sum, ratio.Int(want)) != 0 {
			return false
		}
	}
	return true
}

// isBelow reports whether y has an element for each row, and the sums of the columns are at most the given ones.
func isBelow(l api.Linear, y []api.Ratio, most []int) bool {
	if len(y) != len(l.Rhs) {
		return false
	}
	for k, column := range l.A {
		sum, ok := sumOfProducts(column, y)
		if !ok || ratio.Cmp(sum, ratio.Int(most[k])) > 0 {
			return false
		}
	}
	return true
}

// row returns the numbers of all columns in a row.
func row(l api.Linear, i int) []int {
	var numbers []int
	for _, column := range l.A {
		numbers = append(numbers, column[i])
	}
	return numbers
}
