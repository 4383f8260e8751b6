package ratio

import (
	"collet/api"
	"collet/num"
)

// Cmp returns -1, 0 or 1 if a is less than, equal to or greater than b; 0 if one of them is not right.
func Cmp(a, b api.Ratio) int {
	if !Right(a) || !Right(b) {
		return 0
	}
	return compare(a, b)
}

// compare compares two fractions with positive D, term by term, by their continued fractions: unlike products, the integers on the way are never longer than those of a and b.
func compare(a, b api.Ratio) int {
	order := 0
terms:
	for {
		termA, restA, _ := num.Div(a.N, a.D)
		termB, restB, _ := num.Div(b.N, b.D)
		switch order = num.Cmp(termA, termB); {
		case order != 0:
			break terms
		case isZero(restA) || isZero(restB):
			order = num.Cmp(restA, restB)
			break terms
		}
		// Two proper fractions are left: the greater one has the lesser reciprocal.
		a, b = api.Ratio{N: b.D, D: restB}, api.Ratio{N: a.D, D: restA}
	}
	return order
}

// Sign returns the sign of a; 0 if it is not right.
func Sign(a api.Ratio) int {
	if !Right(a) {
		return 0
	}
	return num.Cmp(a.N, num.Of(0))
}

// Floor returns the greatest integer that is not greater than a; false if a is not right, or the integer is no int.
func Floor(a api.Ratio) (int, bool) {
	if !Right(a) {
		return 0, false
	}
	below, _, _ := num.Div(a.N, a.D)
	return num.Int(below)
}

// Ceil returns the least integer that is not less than a; false if a is not right, or the integer is no int.
func Ceil(a api.Ratio) (int, bool) {
	if !Right(a) {
		return 0, false
	}
	below, _, _ := num.Div(opposite(a.N), a.D)
	return num.Int(opposite(below)) // negated before it becomes an int: the least int has no opposite
}
