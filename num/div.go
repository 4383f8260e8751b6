package num

import (
	"math/bits"
	"slices"
)

// divide returns how often y goes into x, and the rest; neither has zeros at its end, and y is not 0.
func divide(x, y []uint32) ([]uint32, []uint32) {
	if compare(x, y) < 0 {
		return nil, resize(x, len(x))
	}
	if len(y) == 1 {
		quotient := resize(x, len(x))
		rest := shorten(quotient, y[0])
		return trim(quotient), split(uint64(rest))
	}
	return divideLong(x, y)
}

// shorten divides d, in its place, by a digit other than 0, and returns the rest.
func shorten(d []uint32, by uint32) uint32 {
	var rest uint64
	for i, digit := range slices.Backward(d) {
		rest = rest<<digitBits | uint64(digit)
		d[i] = uint32(rest / uint64(by))
		rest %= uint64(by)
	}
	return uint32(rest)
}

// divideLong is divide for a y of at least two digits, and an x that is not less than y (Knuth's algorithm D).
func divideLong(x, y []uint32) ([]uint32, []uint32) {
	// Estimates of a digit of the quotient are good only if the highest bit of the divisor is set.
	n, shift := len(y), bits.LeadingZeros32(y[len(y)-1])
	divisor, rest := resize(y, n), resize(x, len(x)+1)
	shiftUp(divisor, shift)
	shiftUp(rest, shift)
	quotient := make([]uint32, len(rest)-n)
	for i := range slices.Backward(quotient) {
		quotient[i] = takeOut(rest[i:i+n+1], divisor)
	}
	rest = rest[:n] // the digits above are 0 now
	shiftDown(rest, shift)
	return trim(quotient), trim(rest)
}

// takeOut subtracts y from x as often as it goes, which is less than base times, and returns how often. x has one digit more than y, and the highest bit of y is set.
func takeOut(x, y []uint32) uint32 {
	n := len(y)
	q, _ := bits.Div64(uint64(x[n]), join(x[n-2:n]), join(y[n-2:]))
	q = min(q, base-1)
	// Three digits divided by two never estimate too little, and at most 1 too much.
	if decrease(x, y, uint32(q)) {
		q--
		increase(x, y)
	}
	return uint32(q)
}

// shiftUp multiplies d, in its place, by 2^shift; shift is less than digitBits, and what goes beyond d is lost.
func shiftUp(d []uint32, shift int) {
	for i, digit := range slices.Backward(d) {
		d[i] = digit << shift
		if i > 0 {
			d[i] |= uint32(uint64(d[i-1]) << shift >> digitBits)
		}
	}
}

// shiftDown divides d, in its place, by 2^shift, rounded down; shift is less than digitBits.
func shiftDown(d []uint32, shift int) {
	var above uint64
	for i, digit := range slices.Backward(d) {
		above = above<<digitBits | uint64(digit)
		d[i] = uint32(above >> shift)
	}
}
