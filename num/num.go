// Package num is layer 1: integers of up to api.MaxDigits digits to the base 2^32. See shared/doc/01-num.md.
package num

import (
	"math"

	"collet/api"
)

// Right reports whether a is right: at most MaxDigits digits, the last of which is not 0, and Neg only with digits.
func Right(a api.Num) bool {
	n := len(a.D)
	if n == 0 {
		return !a.Neg
	}
	return n <= api.MaxDigits && a.D[n-1] != 0
}

// Of returns n as a Num.
func Of(n int) api.Num {
	size := uint64(n)
	if n < 0 {
		size = -size // of the word and not of n: the least int has no opposite
	}
	return api.Num{Neg: n < 0, D: split(size)}
}

// Int returns the int that a stands for; false if a is not right, or stands for none.
func Int(a api.Num) (int, bool) {
	if !Right(a) || len(a.D) > wordDigits {
		return 0, false
	}
	size := join(a.D)
	switch {
	case a.Neg && size <= -math.MinInt:
		return int(-size), true
	case !a.Neg && size <= math.MaxInt:
		return int(size), true
	}
	return 0, false
}

// Add returns a + b; false unless both are right and the sum fits.
func Add(a, b api.Num) (api.Num, bool) {
	if !Right(a) || !Right(b) {
		return api.Num{}, false
	}
	if a.Neg == b.Neg {
		return number(a.Neg, plus(a.D, b.D))
	}
	if compare(a.D, b.D) < 0 {
		a, b = b, a
	}
	return number(a.Neg, minus(a.D, b.D))
}

// Sub returns a - b; false unless both are right and the difference fits.
func Sub(a, b api.Num) (api.Num, bool) {
	if !Right(b) { // asked before its sign changes, by which a wrong b could become right
		return api.Num{}, false
	}
	b.Neg = !b.Neg && len(b.D) > 0
	return Add(a, b)
}

// Mul returns a b; false unless both are right and the product fits.
func Mul(a, b api.Num) (api.Num, bool) {
	if !Right(a) || !Right(b) {
		return api.Num{}, false
	}
	return number(a.Neg != b.Neg, times(a.D, b.D))
}

// Div returns the q and r for which a is q b + r, and r is at least 0 and less than b's absolute value; false unless a and b are right and b is not 0.
func Div(a, b api.Num) (api.Num, api.Num, bool) {
	if !Right(a) || !Right(b) || len(b.D) == 0 {
		return api.Num{}, api.Num{}, false
	}
	q, r := divide(a.D, b.D)
	if a.Neg && len(r) > 0 {
		// The rest of the absolute values has to be subtracted from a multiple of b: the next one leaves a rest that is not negative.
		q, r = plus(q, []uint32{1}), minus(b.D, r)
	}
	// Both fit: q is at most a's absolute value (where 1 was added, b's is at least 2), and r is less than b's.
	quotient, _ := number(a.Neg != b.Neg, q)
	rest, _ := number(false, r)
	return quotient, rest, true
}

// Gcd returns the greatest common divisor of a and b, 0 if both are 0; false unless both are right.
func Gcd(a, b api.Num) (api.Num, bool) {
	if !Right(a) || !Right(b) {
		return api.Num{}, false
	}
	return number(false, common(a.D, b.D))
}

// Cmp returns -1, 0 or 1 if a is less than, equal to or greater than b; 0 if one of them is not right.
func Cmp(a, b api.Num) int {
	if !Right(a) || !Right(b) {
		return 0
	}
	switch {
	case a.Neg && b.Neg:
		return compare(b.D, a.D)
	case a.Neg:
		return -1
	case b.Neg:
		return 1
	}
	return compare(a.D, b.D)
}

// number returns the right Num with a sign and digits, zeros at the end of which are dropped; false if there are too many. It keeps d, which must be the caller's own.
func number(neg bool, d []uint32) (api.Num, bool) {
	d = trim(d)
	if len(d) > api.MaxDigits {
		return api.Num{}, false
	}
	return api.Num{Neg: neg && len(d) > 0, D: d}, true
}
