package num

import (
	"cmp"
	"slices"
)

// The digits of absolute values, the lowest one first. No function of this file keeps or changes an argument, unless its comment says so.

const (
	base       = 1 << 32
	digitBits  = 32
	wordDigits = 2 // digits of a word of 64 bits
)

// split returns the digits of a word.
func split(word uint64) []uint32 {
	return trim([]uint32{uint32(word), uint32(word >> digitBits)})
}

// join returns the word with at most wordDigits digits.
func join(d []uint32) uint64 {
	var word uint64
	for _, digit := range slices.Backward(d) {
		word = word<<digitBits | uint64(digit)
	}
	return word
}

// trim returns the part of d without the zeros at its end; nil if nothing is left.
func trim(d []uint32) []uint32 {
	for i, digit := range slices.Backward(d) {
		if digit != 0 {
			return d[:i+1]
		}
	}
	return nil
}

// resize returns a copy of the lowest n digits of d, with zeros where d has none.
func resize(d []uint32, n int) []uint32 {
	moved := make([]uint32, n)
	copy(moved, d)
	return moved
}

// compare returns -1, 0 or 1 if x is less than, equal to or greater than y; neither has zeros at its end.
func compare(x, y []uint32) int {
	if c := cmp.Compare(len(x), len(y)); c != 0 {
		return c
	}
	for i, digit := range slices.Backward(x) {
		if c := cmp.Compare(digit, y[i]); c != 0 {
			return c
		}
	}
	return 0
}

// plus returns x + y.
func plus(x, y []uint32) []uint32 {
	if len(x) < len(y) {
		x, y = y, x
	}
	sum := resize(x, len(x)+1)
	increase(sum, y)
	return trim(sum)
}

// minus returns x - y; x is not less than y.
func minus(x, y []uint32) []uint32 {
	rest := resize(x, len(x))
	decrease(rest, y, 1)
	return trim(rest)
}

// times returns x y.
func times(x, y []uint32) []uint32 {
	product := make([]uint32, len(x)+len(y))
	for i, factor := range x {
		product[i+len(y)] = addTimes(product[i:i+len(y)], y, factor)
	}
	return trim(product)
}

// addTimes adds factor y to x, which is as long, and returns what is carried beyond it.
func addTimes(x, y []uint32, factor uint32) uint32 {
	var carry uint64
	for i, digit := range y {
		carry += uint64(x[i]) + uint64(digit)*uint64(factor)
		x[i] = uint32(carry)
		carry >>= digitBits
	}
	return uint32(carry)
}

// increase adds y to x, which is at least as long; what is carried beyond x is lost.
func increase(x, y []uint32) {
	carry := uint64(addTimes(x[:len(y)], y, 1))
	for i := len(y); i < len(x) && carry > 0; i++ {
		carry += uint64(x[i])
		x[i] = uint32(carry)
		carry >>= digitBits
	}
}

// decrease subtracts factor y from x, which is at least as long, and reports whether something had to be borrowed from beyond x.
func decrease(x, y []uint32, factor uint32) bool {
	var borrow uint64
	for i := range x {
		if i < len(y) {
			borrow += uint64(y[i]) * uint64(factor)
		} else if borrow == 0 {
			return false
		}
		low := uint32(borrow)
		borrow >>= digitBits
		if x[i] < low {
			borrow++
		}
		x[i] -= low
	}
	return borrow > 0
}
