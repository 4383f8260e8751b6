package ratio_test

import (
	"math"
	"math/big"
	"math/rand/v2"
	"slices"
	"testing"

	"collet/api"
	"collet/num"
)

// value returns the integer of a right Num.
func value(a api.Num) *big.Int {
	v, ok := new(big.Int).SetString(num.Text(a), 10)
	if !ok {
		panic("value of a Num that is not right")
	}
	return v
}

// number returns the right Num of an integer that is not too long.
func number(v *big.Int) api.Num {
	a, ok := num.Parse(v.String())
	if !ok {
		panic("number of an integer that is too long")
	}
	return a
}

// rat returns what a right Ratio is.
func rat(r api.Ratio) *big.Rat {
	return new(big.Rat).SetFrac(value(r.N), value(r.D))
}

// reduced returns the right Ratio n / d.
func reduced(n, d *big.Int) api.Ratio {
	v := new(big.Rat).SetFrac(n, d)
	return api.Ratio{N: number(v.Num()), D: number(v.Denom())}
}

// small returns the Ratio with these integers, reduced or not.
func small(n, d int) api.Ratio {
	return api.Ratio{N: num.Of(n), D: num.Of(d)}
}

// whole returns the Ratio a / 1.
func whole(a api.Num) api.Ratio {
	return api.Ratio{N: a, D: num.Of(1)}
}

// part returns the Ratio 1 / a.
func part(a api.Num) api.Ratio {
	return api.Ratio{N: num.Of(1), D: a}
}

// negated returns the Ratio with the opposite sign.
func negated(r api.Ratio) api.Ratio {
	r.N.Neg = !r.N.Neg && len(r.N.D) > 0
	return r
}

// sameNum reports whether two Nums have the same sign and digits.
func sameNum(a, b api.Num) bool {
	return a.Neg == b.Neg && slices.Equal(a.D, b.D)
}

// same reports whether two Ratios have the same fields.
func same(a, b api.Ratio) bool {
	return sameNum(a.N, b.N) && sameNum(a.D, b.D)
}

// wanted complains unless got and ok are want and fine.
func wanted(t *testing.T, call string, a, b, got api.Ratio, ok bool, want api.Ratio, fine bool) {
	t.Helper()
	if ok != fine || !same(got, want) {
		t.Errorf("%s of %v and %v: %v, %v instead of %v, %v", call, a, b, got, ok, want, fine)
	}
}

// limit returns 2^(32 n), the least integer with more than n digits.
func limit(n int) *big.Int {
	return new(big.Int).Lsh(big.NewInt(1), uint(32*n))
}

// power returns limit of n as a Num.
func power(n int) api.Num {
	return api.Num{D: append(make([]uint32, n), 1)}
}

// filled returns 2^(32 n) - 1, which has n digits.
func filled(n int) api.Num {
	return api.Num{D: slices.Repeat([]uint32{math.MaxUint32}, n)}
}

// threes returns the greatest power of 3 that has at most n digits: it has exactly n, and no factor in common with a power of 2.
func threes(n int) api.Num {
	three, end := big.NewInt(3), limit(n)
	v := big.NewInt(1)
	for next := big.NewInt(3); next.Cmp(end) < 0; next.Mul(next, three) {
		v.Set(next)
	}
	return number(v)
}

// fibonacci returns the two greatest Fibonacci numbers of at most 64 digits, the greater one first: no other integers of this length have as many terms.
func fibonacci() (*big.Int, *big.Int) {
	a, b := big.NewInt(1), big.NewInt(1)
	for {
		next := new(big.Int).Add(a, b)
		if !fit(next) {
			return a, b
		}
		a, b = next, a
	}
}

// fit reports whether none of some integers is too long.
func fit(l ...*big.Int) bool {
	return !slices.ContainsFunc(l, func(v *big.Int) bool { return v.BitLen() > 32*api.MaxDigits })
}

// wrong returns Ratios that are not right.
func wrong() []api.Ratio {
	long := api.Num{D: append(filled(64).D, 1)}
	multiple := number(new(big.Int).Mul(big.NewInt(3), value(filled(63))))
	out := []api.Ratio{
		{}, small(1, 0), small(-1, 0), small(5, 0), small(1, -2), small(-1, -2), small(1, -1), small(0, -1),
		small(2, 4), small(-2, 4), small(0, 2), small(0, 7), small(6, 3), small(-9, 9), small(3, 3), small(math.MinInt, 2), small(35, 21),
		{N: filled(64), D: filled(64)}, {N: power(63), D: num.Of(2)}, {N: num.Of(2), D: power(63)}, {N: filled(64), D: filled(32)},
		{N: multiple, D: num.Of(3)}, {N: num.Of(6), D: multiple}, {N: power(40), D: number(new(big.Int).Lsh(value(threes(20)), 1))},
		part(api.Num{Neg: true, D: filled(64).D}),
	}
	for _, a := range []api.Num{{Neg: true}, {Neg: true, D: []uint32{}}, {D: []uint32{0}}, {D: []uint32{1, 0}}, {Neg: true, D: []uint32{3, 0}}, long, {Neg: true, D: long.D}, {D: make([]uint32, 64)}, {D: append(filled(64).D, 0)}, power(5000)} {
		out = append(out, whole(a), part(a), api.Ratio{N: a, D: num.Of(2)}, api.Ratio{N: num.Of(0), D: a}, api.Ratio{N: a, D: a})
	}
	return out
}

// edges returns right Ratios at which something changes: signs, lengths, integers, and the limits of ints.
func edges() []api.Ratio {
	high, low := fibonacci()
	positive := []api.Ratio{
		small(1, 1), small(2, 1), small(1, 2), small(1, 3), small(2, 3), small(3, 4), small(7, 2), small(333, 1000), small(1<<32, 3), small(5, 1<<40),
		small(math.MaxInt, 1), small(math.MaxInt, 2), part(num.Of(math.MaxInt)), whole(api.Num{D: []uint32{0, 1 << 31}}), {N: api.Num{D: []uint32{1, 0, 1}}, D: num.Of(2)},
		whole(filled(64)), part(filled(64)), whole(threes(64)), part(threes(64)), {N: filled(64), D: power(63)}, {N: power(63), D: filled(64)},
		{N: threes(64), D: power(63)}, reduced(high, low), reduced(low, high),
	}
	for _, n := range []int{1, 2, 31, 32, 33, 63} {
		positive = append(positive, whole(power(n)), part(power(n)), whole(filled(n)), part(filled(n)), api.Ratio{N: threes(n), D: power(n)})
	}
	out := []api.Ratio{small(0, 1), {N: api.Num{D: []uint32{}}, D: num.Of(1)}}
	for _, r := range positive {
		out = append(out, r, negated(r))
	}
	return out
}

// chance returns right Ratios whose integers have up to n digits, and often factors in common; the same ones for the same seed.
func chance(seed uint64, n int) func() api.Ratio {
	r := rand.New(rand.NewPCG(seed, 3))
	special := []uint32{0, 1, 2, 1 << 31, 1<<31 - 1, math.MaxUint32 - 1, math.MaxUint32}
	plain := func() *big.Int {
		v := new(big.Int)
		for range r.IntN(n + 1) {
			digit := special[r.IntN(len(special))]
			if r.IntN(2) == 0 {
				digit = r.Uint32()
			}
			v.Lsh(v, 32).Or(v, big.NewInt(int64(digit)))
		}
		return v
	}
	factors := func() *big.Int {
		v := big.NewInt(1)
		for range r.IntN(6 * n) {
			v.Mul(v, big.NewInt([]int64{2, 3, 5, 65536}[r.IntN(4)]))
		}
		if v.BitLen() > 32*n {
			v.SetInt64(30)
		}
		return v
	}
	integer := func() *big.Int {
		if r.IntN(2) == 0 {
			return factors()
		}
		return plain()
	}
	return func() api.Ratio {
		top, bottom := integer(), integer()
		if bottom.Sign() == 0 {
			bottom.SetInt64(1)
		}
		if r.IntN(2) == 0 {
			top.Neg(top)
		}
		return reduced(top, bottom)
	}
}

// pairs calls f with all pairs of edges, and with many others.
func pairs(f func(a, b api.Ratio)) {
	for _, a := range edges() {
		for _, b := range edges() {
			f(a, b)
		}
	}
	for i, n := range []int{1, 2, 8, 33, 40, 64} {
		next, other := chance(uint64(i), n), chance(uint64(i+100), 64)
		for range 200 {
			a, b := next(), next()
			f(a, b)
			f(a, a)
			f(a, negated(a))
			f(other(), b)
		}
	}
}
