package num_test

import (
	"math"
	"math/big"
	"math/rand/v2"
	"slices"
	"testing"

	"collet/api"
	"collet/num"
)

// value returns what the digits and the sign of a stand for.
func value(a api.Num) *big.Int {
	v := new(big.Int)
	for _, d := range slices.Backward(a.D) {
		v.Lsh(v, 32).Or(v, big.NewInt(int64(d)))
	}
	if a.Neg {
		v.Neg(v)
	}
	return v
}

// number returns the right Num of v, however long it is.
func number(v *big.Int) api.Num {
	a := api.Num{Neg: v.Sign() < 0}
	for rest := new(big.Int).Abs(v); rest.Sign() > 0; rest.Rsh(rest, 32) {
		a.D = append(a.D, uint32(rest.Uint64()))
	}
	return a
}

// same reports whether two Nums have the same sign and digits.
func same(a, b api.Num) bool {
	return a.Neg == b.Neg && slices.Equal(a.D, b.D)
}

// isZero reports whether a is the zero value, apart from an empty slice.
func isZero(a api.Num) bool {
	return same(a, api.Num{})
}

// fits reports whether v has at most 64 digits.
func fits(v *big.Int) bool {
	return v.BitLen() <= 32*api.MaxDigits
}

// wanted complains unless got and ok are the right Num of v and true if v fits, and zero values if not.
func wanted(t *testing.T, name string, a, b, got api.Num, ok bool, v *big.Int) {
	t.Helper()
	want := api.Num{}
	if fits(v) {
		want = number(v)
	}
	if ok != fits(v) || !same(got, want) {
		t.Errorf("%s of %v and %v: %v, %v instead of %v", name, a, b, got, ok, want)
	}
}

// filled returns a Num of n digits d.
func filled(n int, d uint32) api.Num {
	return api.Num{D: slices.Repeat([]uint32{d}, n)}
}

// power returns 2^(32 n), which has n + 1 digits.
func power(n int) api.Num {
	return api.Num{D: append(make([]uint32, n), 1)}
}

// minus returns a with its sign turned round.
func minus(a api.Num) api.Num {
	return api.Num{Neg: !a.Neg && len(a.D) > 0, D: a.D}
}

// wrong returns Nums that are not right.
func wrong() []api.Num {
	return []api.Num{
		{Neg: true},
		{Neg: true, D: []uint32{}},
		{D: []uint32{0}},
		{Neg: true, D: []uint32{0}},
		{D: []uint32{0, 0}},
		{D: []uint32{1, 0}},
		{Neg: true, D: []uint32{5, 7, 0}},
		{D: append(filled(63, 1).D, 0)},
		{D: make([]uint32, 64)},
		filled(65, 1),
		minus(filled(65, 1)),
		power(64),
		{D: append(filled(64, 1).D, 0)},
		filled(5000, math.MaxUint32),
		{D: make([]uint32, 5000)},
	}
}

// edges returns right Nums at which something changes: lengths, signs, and digits that carry.
func edges() []api.Num {
	out := []api.Num{{}}
	for _, n := range []int{1, 2, 3, 5, 31, 32, 33, 63, 64} {
		for _, d := range []uint32{1, 1 << 31, math.MaxUint32} {
			out = append(out, filled(n, d), minus(filled(n, d)))
		}
		out = append(out, power(n-1), minus(power(n-1)))
	}
	for _, n := range []int{2, 3, 9, 10, 1000000000, math.MaxInt, math.MinInt, 1<<32 + 1, 1<<62 - 1} {
		out = append(out, num.Of(n))
	}
	return out
}

// chance returns right Nums of up to n digits, many of whose digits are 0 or the greatest one; the same ones for the same seed.
func chance(seed uint64, n int) func() api.Num {
	r := rand.New(rand.NewPCG(seed, 1))
	special := []uint32{0, 1, 2, 1<<31 - 1, 1 << 31, 1<<31 + 1, math.MaxUint32 - 1, math.MaxUint32}
	return func() api.Num {
		a := api.Num{D: make([]uint32, r.IntN(n+1))}
		plain := r.IntN(3) == 0
		for i := range a.D {
			a.D[i] = special[r.IntN(len(special))]
			if plain {
				a.D[i] = r.Uint32()
			}
		}
		for len(a.D) > 0 && a.D[len(a.D)-1] == 0 {
			a.D = a.D[:len(a.D)-1]
		}
		a.Neg = len(a.D) > 0 && r.IntN(2) == 0
		return a
	}
}

// pairs calls f with all pairs of edges, and with many others.
func pairs(f func(a, b api.Num)) {
	for _, a := range edges() {
		for _, b := range edges() {
			f(a, b)
		}
	}
	for i, n := range []int{2, 4, 8, 34, 64} {
		next, other := chance(uint64(i), n), chance(uint64(i+100), 64)
		for range 1500 {
			a, b := next(), next()
			f(a, b)
			f(other(), b)
		}
	}
}
