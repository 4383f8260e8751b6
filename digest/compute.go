package digest

const size = 8

// digest is the digest of a string.
type digest [size]byte

// The start, the factor and the divisor of each of the two remainders of which a digest consists. Both divisors are primes below 2^31: no byte is lost, and nothing wraps around in 64 bits.
const (
	firstStart    = 17
	firstFactor   = 48271
	firstDivisor  = 2147483629
	secondStart   = 29
	secondFactor  = 69621
	secondDivisor = 2147483587
)

const (
	byteBits      = 8
	remainderBits = 32
	lengthBytes   = 4
)

// digestOf returns the digest of some parts, one after the other, without a copy of them all.
func digestOf(parts ...string) digest {
	first, second := uint64(firstStart), uint64(secondStart)
	for _, part := range parts {
		for i := range len(part) { // bytes: a range over the string would visit runes
			c := uint64(part[i]) + 1
			first = (firstFactor*first + c) % firstDivisor
			second = (secondFactor*second + c) % secondDivisor
		}
	}
	return digestFrom(first<<remainderBits | second)
}

// digestFrom returns the bytes of a word, the most significant one first.
func digestFrom(word uint64) digest {
	var d digest
	for i := range d {
		d[i] = byte(word >> (byteBits * (size - 1 - i)))
	}
	return d
}

// text returns the bytes of d as a string.
func (d digest) text() string { return string(d[:]) }

// length returns the number of bytes of s, modulo 2^32, the least significant byte first.
func length(s string) string {
	var b [lengthBytes]byte
	for i := range b {
		b[i] = byte(len(s) >> (byteBits * i))
	}
	return string(b[:])
}
