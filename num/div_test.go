package num_test

import (
	"math"
	"math/big"
	"testing"

	"collet/api"
	"collet/num"
)

func TestDiv(t *testing.T) { // P1.3
	pairs(func(a, b api.Num) {
		q, r, ok := num.Div(a, b)
		if len(b.D) == 0 {
			if ok || !isZero(q) || !isZero(r) {
				t.Errorf("Div of %v and 0: %v, %v, %v", a, q, r, ok)
			}
			return
		}
		wantQ, wantR := new(big.Int).DivMod(value(a), value(b), new(big.Int))
		wanted(t, "quotient", a, b, q, ok, wantQ)
		wanted(t, "rest", a, b, r, ok, wantR)
	})
}

func TestDivExamples(t *testing.T) { // P1.3
	for _, x := range [][4]int{
		{7, 2, 3, 1}, {-7, 2, -4, 1}, {7, -2, -3, 1}, {-7, -2, 4, 1},
		{8, 2, 4, 0}, {-8, 2, -4, 0}, {8, -2, -4, 0}, {-8, -2, 4, 0},
		{0, 5, 0, 0}, {0, -5, 0, 0}, {3, 5, 0, 3}, {-3, 5, -1, 2}, {3, -5, 0, 3}, {-3, -5, 1, 2},
		{math.MinInt, 1, math.MinInt, 0}, {math.MaxInt, -1, -math.MaxInt, 0}, {math.MinInt, math.MaxInt, -2, math.MaxInt - 1},
		{1 << 62, 1 << 33, 1 << 29, 0}, {1<<62 + 3, 1 << 33, 1 << 29, 3},
	} {
		q, r, ok := num.Div(num.Of(x[0]), num.Of(x[1]))
		if !ok || !same(q, num.Of(x[2])) || !same(r, num.Of(x[3])) {
			t.Errorf("%d / %d: %v, %v, %v", x[0], x[1], q, r, ok)
		}
	}
	for _, n := range []int{0, 7, -7, math.MinInt} {
		if q, r, ok := num.Div(num.Of(n), num.Of(0)); ok || !isZero(q) || !isZero(r) {
			t.Errorf("%d / 0: %v, %v, %v", n, q, r, ok)
		}
	}
}

func TestDivLong(t *testing.T) { // P1.3
	greatest := filled(64, math.MaxUint32)
	if q, r, ok := num.Div(minus(greatest), num.Of(1)); !ok || !same(q, minus(greatest)) || !isZero(r) {
		t.Errorf("the greatest by 1: %v, %v", q, r)
	}
	if q, r, ok := num.Div(num.Of(-1), greatest); !ok || !same(q, num.Of(-1)) || r.D[0] != math.MaxUint32-1 || len(r.D) != 64 {
		t.Errorf("-1 by the greatest: %v, %v", q, r)
	}
	// dividends for which an estimated digit of the quotient is too great by one
	for _, x := range [][2]api.Num{
		{{D: []uint32{0, 0, 0, 1 << 31}}, {D: []uint32{1, 0, 1 << 31}}},
		{{D: []uint32{3, 0, 1 << 31}}, {D: []uint32{1, 0, 1 << 29}}},
		{{D: []uint32{0, 0, 1 << 31, 1<<31 - 1}}, {D: []uint32{math.MaxUint32, 0, 1 << 31}}},
		{{D: []uint32{0, math.MaxUint32 - 1, 1 << 31}}, {D: []uint32{math.MaxUint32, 1 << 31}}},
	} {
		q, r, ok := num.Div(x[0], x[1])
		wantQ, wantR := new(big.Int).DivMod(value(x[0]), value(x[1]), new(big.Int))
		if !ok || !same(q, number(wantQ)) || !same(r, number(wantR)) {
			t.Errorf("%v: %v, %v instead of %v, %v", x, q, r, wantQ, wantR)
		}
	}
}

func TestGcd(t *testing.T) { // P1.4
	pairs(func(a, b api.Num) {
		g, ok := num.Gcd(a, b)
		x, y := value(a), value(b)
		wanted(t, "Gcd", a, b, g, ok, new(big.Int).GCD(nil, nil, x.Abs(x), y.Abs(y)))
	})
	for _, x := range [][3]int{{-12, 18, 6}, {12, -18, 6}, {-12, -18, 6}, {0, 0, 0}, {0, -5, 5}, {-5, 0, 5}, {1, 0, 1}, {7, 9, 1}, {math.MinInt, 0, math.MinInt}, {math.MinInt, 6, 2}, {5, 5, 5}} {
		want := num.Of(x[2])
		want.Neg = false
		if g, ok := num.Gcd(num.Of(x[0]), num.Of(x[1])); !ok || !same(g, want) {
			t.Errorf("Gcd of %d and %d: %v, %v", x[0], x[1], g, ok)
		}
	}
}

func TestGcdOfMultiples(t *testing.T) { // P1.4
	factor, next := chance(11, 30), chance(12, 34)
	for range 3000 {
		c, x, y := value(factor()), value(next()), value(next())
		a, b := number(x.Mul(x, c)), number(y.Mul(y, c))
		g, ok := num.Gcd(a, b)
		wanted(t, "Gcd", a, b, g, ok, new(big.Int).GCD(nil, nil, x.Abs(x), y.Abs(y)))
	}
}

func TestGcdOfFibonacci(t *testing.T) { // P1.4: Euclid's algorithm has no more steps for any other integers of the same length
	a, b := big.NewInt(1), big.NewInt(1)
	for a.BitLen() <= 32*api.MaxDigits {
		if g, ok := num.Gcd(number(a), number(b)); !ok || !same(g, num.Of(1)) {
			t.Errorf("Gcd of %v and %v: %v, %v", a, b, g, ok)
		}
		a, b = new(big.Int).Add(a, b), a
	}
}
