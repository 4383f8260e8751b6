package digest_test

import (
	"encoding/hex"
	"math/big"
	"math/rand/v2"
	"strings"
	"testing"

	"collet/digest"
)

// reference returns the digest of a string by the words of the document, computed with integers of any length.
func reference(s string) string {
	return remainder(s, 17, 48271, 2147483629) + remainder(s, 29, 69621, 2147483587)
}

// remainder returns one half of a digest.
func remainder(s string, start, factor, divisor int64) string {
	x, f, d := big.NewInt(start), big.NewInt(factor), big.NewInt(divisor)
	for _, c := range []byte(s) {
		x.Mul(x, f).Add(x, big.NewInt(int64(c)+1)).Mod(x, d)
	}
	return string(x.FillBytes(make([]byte, 4)))
}

// counted returns a string with the number of its bytes in front of it.
func counted(s string) string {
	n := len(s)
	return string([]byte{byte(n), byte(n >> 8), byte(n >> 16), byte(n >> 24)}) + s
}

// fromHex returns the bytes that are written in hexadecimal.
func fromHex(t *testing.T, s string) string {
	t.Helper()
	b, err := hex.DecodeString(s)
	if err != nil {
		t.Fatal(err)
	}
	return string(b)
}

// wanted complains unless a digest is what it should be.
func wanted(t *testing.T, name, got, want string) {
	t.Helper()
	if got != want {
		t.Errorf("%s: %x instead of %x", name, got, want)
	}
}

// allBytes returns each byte once.
func allBytes() string {
	b := make([]byte, 256)
	for i := range b {
		b[i] = byte(i)
	}
	return string(b)
}

// samples returns strings of many kinds, some of which are no valid UTF-8.
func samples() []string {
	return []string{
		"", "\x00", "\xff", "\x00\x00", "\xff\xff", "a", "b", "ab", "ba", "collet", "é", "水\x00火",
		"\xff\xfe\xc3(", "\x80", "\xc3", "\xf0\x9f\x98", "\x01", "\x02a", "\x03", "\x04\x00\x00\x00\x00", "\x05", "\x7f", "\x80\x81",
		allBytes(), strings.Repeat("\xff", 256), strings.Repeat("\x00", 255), strings.Repeat("z", 1000), digest.Missing(), digest.Of(""), "\x00\x00\x00\x01",
	}
}

// chance returns strings of less than n bytes, the same ones for the same seed.
func chance(seed uint64, n int) func() string {
	r := rand.New(rand.NewPCG(seed, 2))
	return func() string {
		b := make([]byte, r.IntN(n))
		for i := range b {
			b[i] = byte(r.Uint32())
		}
		return string(b)
	}
}

// changed returns s with another byte at a place.
func changed(s string, place int, by byte) string {
	b := []byte(s)
	b[place] += by
	return string(b)
}
