package plane

import "math"

// within reports whether all components are from -limit to limit.
func within(limit int, components ...int) bool {
	for _, n := range components {
		if n < -limit || n > limit {
			return false
		}
	}
	return true
}

// divisor returns the greatest integer that divides all components; 0 if all of them are 0, or one is the least int, which has no absolute value.
func divisor(components ...int) int {
	greatest := 0
	for _, n := range components {
		if n == math.MinInt {
			return 0
		}
		greatest = common(greatest, absolute(n))
	}
	return greatest
}

// common returns the greatest integer that divides both a and b, neither of which is negative; the other one if one is 0.
func common(a, b int) int {
	for b > 0 {
		a, b = b, a%b
	}
	return a
}

// absolute returns the absolute value of n, which for the least int wraps around.
func absolute(n int) int {
	if n < 0 {
		return -n
	}
	return n
}

// order returns -1 or 1 if in the first pair of different components the first one is less or greater; 0 if there is no such pair.
func order(pairs ...[2]int) int {
	sign := 0
differences:
	for _, pair := range pairs {
		switch {
		case pair[0] < pair[1]:
			sign = -1
			break differences
		case pair[0] > pair[1]:
			sign = 1
			break differences
		}
	}
	return sign
}
