package num

import "math/bits"

// common returns the greatest common divisor of a and b, neither of which has zeros at its end.
func common(a, b []uint32) []uint32 {
	if compare(a, b) < 0 {
		a, b = b, a
	}
	// x is never less than y, which is kept as long as x, with zeros at its end.
	x, y := resize(a, len(a)), resize(b, len(a))
	for len(x) > wordDigits {
		short := trim(y)
		if len(short) == 0 {
			return x
		}
		if m, ok := firstSteps(x, y); ok {
			m.apply(x, y)
		} else {
			_, rest := divide(x, short)
			x, y = short, resize(rest, len(short))
		}
		x = trim(x)
		y = y[:len(x)]
	}
	return split(commonWord(join(x), join(y)))
}

// commonWord is Euclid's algorithm.
func commonWord(x, y uint64) uint64 {
	for y > 0 {
		x, y = y, x%y
	}
	return x
}

// combination stands for the two sums a x + b y and c x + d y.
type combination struct{ a, b, c, d int64 }

// topBits is the length of the leading parts from which firstSteps works: with it all factors are less than 2^31, so that apply's sums of two products stay within 64 bits.
const topBits = 62

// firstSteps returns the first steps of Euclid's algorithm that the leading bits of x and y determine (Lehmer's method), all of them as one combination; false if there is none. x has at least three digits, and y is not greater, and as long.
func firstSteps(x, y []uint32) (combination, bool) {
	shift := bits.LeadingZeros32(x[len(x)-1])
	p, q := leading(x, shift), leading(y, shift)
	m := combination{a: 1, d: 1}
	for q > 0 {
		count := p / q
		rest := p - count*q
		next := combination{m.c, m.d, m.a - count*m.c, m.b - count*m.d}
		// The bits that were cut off change each sum by less than its factor of y, in units of the last bit that is left: so neither sum is negative, nor the second one greater than the first.
		if rest < abs(next.d) || q-rest < abs(next.b)+abs(next.d) {
			break
		}
		p, q, m = q, rest, next
	}
	return m, m.b != 0
}

// leading returns the topBits bits at the end of d that follow its first shift bits, which are 0.
func leading(d []uint32, shift int) int64 {
	n := len(d)
	word := join(d[n-2:])<<shift | uint64(d[n-3])<<shift>>digitBits
	return int64(word >> (64 - topBits))
}

// abs returns the absolute value.
func abs(n int64) int64 {
	return max(n, -n)
}

// apply replaces x and y by the two sums, which are not negative and no longer than x.
func (m combination) apply(x, y []uint32) {
	var first, second int64
	for i := range x {
		p, q := int64(x[i]), int64(y[i])
		first += m.a*p + m.b*q
		second += m.c*p + m.d*q
		x[i], y[i] = uint32(first), uint32(second)
		first >>= digitBits
		second >>= digitBits
	}
}
