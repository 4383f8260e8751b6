package num_test

import (
	"math"
	"math/big"
	"testing"

	"collet/api"
	"collet/num"
)

func TestRight(t *testing.T) { // P1.1
	for _, a := range edges() {
		if !num.Right(a) {
			t.Errorf("%v is not right", a)
		}
	}
	for _, a := range wrong() {
		if num.Right(a) {
			t.Errorf("%v is right", a)
		}
	}
	for n := range 70 {
		if a := filled(n, 7); num.Right(a) != (n <= 64) || num.Right(minus(a)) != (n <= 64) {
			t.Errorf("%d digits: %v", n, num.Right(a))
		}
	}
	if !num.Right(api.Num{D: []uint32{}}) {
		t.Error("an empty slice is no nil slice")
	}
	if inside := (api.Num{D: []uint32{0, 0, 3}}); !num.Right(inside) {
		t.Error("zeros that are not at the end")
	}
}

func TestOfAndInt(t *testing.T) { // P1.1
	ints := []int{0, 1, -1, 9, 1<<31 - 1, 1 << 31, 1<<32 - 1, 1 << 32, 1<<32 + 1, -(1 << 32), 1 << 40, math.MaxInt, math.MaxInt - 1, -math.MaxInt, math.MinInt, math.MinInt + 1}
	for _, n := range ints {
		a := num.Of(n)
		if !same(a, number(big.NewInt(int64(n)))) {
			t.Errorf("Of of %d: %v", n, a)
		}
		if m, ok := num.Int(a); m != n || !ok {
			t.Errorf("Int of %d: %d, %v", n, m, ok)
		}
	}
	// the examples of the chapter
	if a := num.Of(4294967296); !same(a, api.Num{D: []uint32{0, 1}}) {
		t.Error(a)
	}
	if a := num.Of(-1); !same(a, api.Num{Neg: true, D: []uint32{1}}) {
		t.Error(a)
	}
}

func TestIntRefuses(t *testing.T) { // P1.1
	beyond := []api.Num{
		{D: []uint32{0, 1 << 31}},                 // 2^63
		{Neg: true, D: []uint32{1, 1 << 31}},      // -(2^63) - 1
		{D: []uint32{math.MaxUint32, 1<<32 - 1}},  // 2^64 - 1
		{Neg: true, D: []uint32{0, 1<<32 - 1}},    //
		{D: []uint32{0, 0, 1}},                    // 2^64
		{Neg: true, D: []uint32{0, 0, 1}},         //
		{D: []uint32{5, 0, 1}},                    // a third digit must not be lost
		{Neg: true, D: []uint32{0, 1 << 31, 1}},   //
		{D: append([]uint32{1}, power(62).D...)},  // 64 digits
		{D: append([]uint32{1}, power(100).D...)}, //
	}
	for _, a := range append(beyond, wrong()...) {
		if n, ok := num.Int(a); n != 0 || ok {
			t.Errorf("Int of %v: %d, %v", a, n, ok)
		}
	}
	if n, ok := num.Int(api.Num{Neg: true, D: []uint32{0, 1 << 31}}); n != math.MinInt || !ok {
		t.Errorf("-(2^63): %d, %v", n, ok)
	}
}

func TestAddSubMul(t *testing.T) { // P1.2
	pairs(func(a, b api.Num) {
		x, y := value(a), value(b)
		sum, ok := num.Add(a, b)
		wanted(t, "Add", a, b, sum, ok, new(big.Int).Add(x, y))
		rest, ok := num.Sub(a, b)
		wanted(t, "Sub", a, b, rest, ok, new(big.Int).Sub(x, y))
		product, ok := num.Mul(a, b)
		wanted(t, "Mul", a, b, product, ok, new(big.Int).Mul(x, y))
	})
}

func TestAddSubMulExamples(t *testing.T) { // P1.2
	if a, ok := num.Mul(num.Of(4294967295), num.Of(4294967295)); !ok || !same(a, api.Num{D: []uint32{1, 4294967294}}) {
		t.Error(a)
	}
	if a, ok := num.Sub(num.Of(4294967296), num.Of(1)); !ok || !same(a, api.Num{D: []uint32{4294967295}}) {
		t.Error(a)
	}
	if a, ok := num.Add(num.Of(-7), num.Of(7)); !ok || !isZero(a) {
		t.Error(a)
	}
	if a, ok := num.Mul(num.Of(-7), num.Of(0)); !ok || !isZero(a) {
		t.Error(a)
	}
}

func TestSixtyFiveDigits(t *testing.T) { // P1.2
	greatest := filled(64, math.MaxUint32)
	if a, ok := num.Add(greatest, num.Of(1)); ok || !isZero(a) {
		t.Error(a)
	}
	if a, ok := num.Sub(minus(greatest), num.Of(1)); ok || !isZero(a) {
		t.Error(a)
	}
	if a, ok := num.Mul(power(32), power(32)); ok || !isZero(a) {
		t.Error(a)
	}
	if a, ok := num.Mul(greatest, num.Of(-2)); ok || !isZero(a) {
		t.Error(a)
	}
	if a, ok := num.Sub(greatest, greatest); !ok || !isZero(a) {
		t.Error(a)
	}
	if a, ok := num.Mul(power(31), power(32)); !ok || !same(a, power(63)) {
		t.Error(a)
	}
	if a, ok := num.Mul(greatest, num.Of(-1)); !ok || !same(a, minus(greatest)) {
		t.Error(a)
	}
}

func TestWrongArguments(t *testing.T) { // P1.2 to P1.5
	for _, w := range wrong() {
		for _, a := range append(edges(), wrong()...) {
			for _, x := range [][2]api.Num{{a, w}, {w, a}} {
				if s, ok := num.Add(x[0], x[1]); ok || !isZero(s) {
					t.Errorf("Add of %v: %v, %v", x, s, ok)
				}
				if s, ok := num.Sub(x[0], x[1]); ok || !isZero(s) {
					t.Errorf("Sub of %v: %v, %v", x, s, ok)
				}
				if p, ok := num.Mul(x[0], x[1]); ok || !isZero(p) {
					t.Errorf("Mul of %v: %v, %v", x, p, ok)
				}
				if q, r, ok := num.Div(x[0], x[1]); ok || !isZero(q) || !isZero(r) {
					t.Errorf("Div of %v: %v, %v, %v", x, q, r, ok)
				}
				if g, ok := num.Gcd(x[0], x[1]); ok || !isZero(g) {
					t.Errorf("Gcd of %v: %v, %v", x, g, ok)
				}
				if c := num.Cmp(x[0], x[1]); c != 0 {
					t.Errorf("Cmp of %v: %d", x, c)
				}
			}
		}
	}
}

func TestCmp(t *testing.T) { // P1.5
	pairs(func(a, b api.Num) {
		if got, want := num.Cmp(a, b), value(a).Cmp(value(b)); got != want {
			t.Errorf("Cmp of %v and %v: %d", a, b, got)
		}
		if num.Cmp(a, a) != 0 {
			t.Errorf("Cmp of %v and itself", a)
		}
	})
	for _, x := range [][3]int{{1, 2, -1}, {2, 1, 1}, {-1, -2, 1}, {-2, -1, -1}, {-1, 1, -1}, {1, -1, 1}, {0, 0, 0}, {0, 1, -1}, {0, -1, 1}, {1 << 32, 1<<32 - 1, 1}, {-(1 << 32), 1 - 1<<32, -1}, {1<<32 + 5, 1<<33 + 1, -1}} {
		if got := num.Cmp(num.Of(x[0]), num.Of(x[1])); got != x[2] {
			t.Errorf("Cmp of %d and %d: %d", x[0], x[1], got)
		}
	}
}
