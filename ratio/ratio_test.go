package ratio_test

import (
	"math"
	"math/big"
	"testing"

	"collet/api"
	"collet/num"
	"collet/ratio"
)

func TestRight(t *testing.T) { // P3.1
	for _, r := range edges() {
		if !ratio.Right(r) {
			t.Errorf("%v is not right", r)
		}
	}
	for _, r := range wrong() {
		if ratio.Right(r) {
			t.Errorf("%v is right", r)
		}
	}
	for n := -12; n <= 12; n++ {
		for d := -12; d <= 12; d++ {
			divisor := new(big.Int).GCD(nil, nil, big.NewInt(int64(max(n, -n))), big.NewInt(int64(max(d, -d))))
			if got, want := ratio.Right(small(n, d)), d > 0 && divisor.Int64() == 1; got != want {
				t.Errorf("%d / %d: %v", n, d, got)
			}
		}
	}
}

// integers returns right Nums of all lengths, and of both signs.
func integers() []api.Num {
	out := []api.Num{num.Of(0), {D: []uint32{}}, num.Of(math.MinInt), num.Of(math.MaxInt)}
	for _, n := range []int{1, 2, 3, 4, 6, 12, 35, 1 << 40} {
		out = append(out, num.Of(n), num.Of(-n))
	}
	for _, n := range []int{1, 2, 32, 63, 64} {
		for _, a := range []api.Num{power(n - 1), filled(n), threes(n)} {
			out = append(out, a, api.Num{Neg: true, D: a.D})
		}
	}
	return out
}

func TestOf(t *testing.T) { // P3.2
	for _, n := range integers() {
		for _, d := range integers() {
			got, ok := ratio.Of(n, d)
			if len(d.D) == 0 {
				wanted(t, "Of", whole(n), whole(d), got, ok, api.Ratio{}, false)
			} else {
				wanted(t, "Of", whole(n), whole(d), got, ok, reduced(value(n), value(d)), true)
			}
		}
	}
	for _, x := range [][4]int{{6, -4, -3, 2}, {0, -7, 0, 1}, {0, 7, 0, 1}, {-6, -4, 3, 2}, {-6, 4, -3, 2}, {5, 1, 5, 1}, {5, -1, -5, 1}, {1, math.MaxInt, 1, math.MaxInt}, {math.MinInt, 2, -1 << 62, 1}} {
		got, ok := ratio.Of(num.Of(x[0]), num.Of(x[1]))
		wanted(t, "Of", small(x[0], 1), small(x[1], 1), got, ok, small(x[2], x[3]), true)
	}
}

func TestOfRefuses(t *testing.T) { // P3.2
	for _, w := range []api.Num{{Neg: true}, {D: []uint32{0}}, {D: []uint32{1, 0}}, {Neg: true, D: []uint32{1, 0}}, power(64), {Neg: true, D: power(64).D}, {D: make([]uint32, 3)}} {
		for _, a := range append(integers(), w) {
			got, ok := ratio.Of(a, w)
			wanted(t, "Of", whole(a), whole(w), got, ok, api.Ratio{}, false)
			got, ok = ratio.Of(w, a)
			wanted(t, "Of", whole(w), whole(a), got, ok, api.Ratio{}, false)
		}
	}
}

func TestInt(t *testing.T) { // P3.2
	for _, n := range []int{0, 1, -1, 7, -7, 1 << 32, math.MaxInt, math.MinInt, -math.MaxInt} {
		if got := ratio.Int(n); !same(got, small(n, 1)) || !ratio.Right(got) {
			t.Errorf("%d: %v", n, got)
		}
	}
}

func TestFrac(t *testing.T) { // P3.2
	ints := []int{0, 1, -1, 2, -2, 3, -3, 4, 6, 35, 1 << 40, math.MaxInt, -math.MaxInt, math.MinInt}
	for _, n := range ints {
		for _, d := range ints {
			want := api.Ratio{}
			if d > 0 {
				want = reduced(big.NewInt(int64(n)), big.NewInt(int64(d)))
			}
			if got := ratio.Frac(api.Frac{N: n, D: d}); !same(got, want) {
				t.Errorf("%d / %d: %v", n, d, got)
			}
		}
	}
	for _, x := range [][4]int{{2, 4, 1, 2}, {-3, 1, -3, 1}, {0, 5, 0, 1}} {
		if got := ratio.Frac(api.Frac{N: x[0], D: x[1]}); !same(got, small(x[2], x[3])) {
			t.Errorf("%v: %v", x, got)
		}
	}
}

// sum returns what Add is to return.
func sum(a, b api.Ratio) (api.Ratio, bool) {
	first := new(big.Int).Mul(value(a.N), value(b.D))
	second := new(big.Int).Mul(value(b.N), value(a.D))
	bottom := new(big.Int).Mul(value(a.D), value(b.D))
	top := new(big.Int).Add(first, second)
	if !fit(first, second, bottom, top) {
		return api.Ratio{}, false
	}
	return reduced(top, bottom), true
}

// quotient returns what Div is to return, and with the reciprocal of b, what Mul is to.
func quotient(aN, aD, bN, bD api.Num) (api.Ratio, bool) {
	top := new(big.Int).Mul(value(aN), value(bD))
	bottom := new(big.Int).Mul(value(aD), value(bN))
	if bottom.Sign() == 0 || !fit(top, bottom) {
		return api.Ratio{}, false
	}
	return reduced(top, bottom), true
}

func TestAddAndSub(t *testing.T) { // P3.3
	pairs(func(a, b api.Ratio) {
		got, ok := ratio.Add(a, b)
		want, fine := sum(a, b)
		wanted(t, "Add", a, b, got, ok, want, fine)
		got, ok = ratio.Sub(a, b)
		want, fine = sum(a, negated(b))
		wanted(t, "Sub", a, b, got, ok, want, fine)
	})
	got, ok := ratio.Add(small(1, 6), small(1, 10))
	wanted(t, "Add", small(1, 6), small(1, 10), got, ok, small(4, 15), true)
	got, ok = ratio.Sub(small(1, 2), small(2, 3))
	wanted(t, "Sub", small(1, 2), small(2, 3), got, ok, small(-1, 6), true)
	got, ok = ratio.Sub(small(1, 2), small(1, 2))
	wanted(t, "Sub", small(1, 2), small(1, 2), got, ok, small(0, 1), true)
}

func TestMulAndDiv(t *testing.T) { // P3.4
	pairs(func(a, b api.Ratio) {
		got, ok := ratio.Mul(a, b)
		want, fine := quotient(a.N, a.D, b.D, b.N)
		wanted(t, "Mul", a, b, got, ok, want, fine)
		got, ok = ratio.Div(a, b)
		want, fine = quotient(a.N, a.D, b.N, b.D)
		wanted(t, "Div", a, b, got, ok, want, fine)
	})
	got, ok := ratio.Mul(small(2, 3), small(3, 4))
	wanted(t, "Mul", small(2, 3), small(3, 4), got, ok, small(1, 2), true)
	got, ok = ratio.Div(small(1, 2), small(-3, 4))
	wanted(t, "Div", small(1, 2), small(-3, 4), got, ok, small(-2, 3), true)
	for _, a := range edges() {
		got, ok = ratio.Div(a, small(0, 1))
		wanted(t, "Div", a, small(0, 1), got, ok, api.Ratio{}, false)
	}
}

func TestSumsThatAreTooLong(t *testing.T) { // P3.3: in each line another one of the integers is, or none
	odd := api.Num{D: append([]uint32{1}, power(29).D...)} // 2^(32*30) + 1
	for _, x := range []struct {
		a, b api.Ratio
		fits bool
	}{
		{whole(power(40)), part(odd), false},               // only a.N b.D, and with it the sum
		{part(odd), whole(power(40)), false},               // only b.N a.D, and with it the sum
		{part(power(40)), part(power(30)), false},          // only a.D b.D: the sum has 41 digits
		{part(power(32)), part(power(32)), false},          // only a.D b.D, by one digit
		{part(power(32)), negated(part(power(32))), false}, // the same, and the sum is 0
		{part(power(32)), part(power(31)), true},
		{whole(filled(64)), small(1, 1), false}, // only the sum, by one digit
		{negated(whole(filled(64))), small(-1, 1), false},
		{whole(filled(64)), small(-1, 1), true},
		{whole(filled(64)), negated(whole(filled(64))), true},
		{whole(filled(64)), small(0, 1), true},
		{part(filled(64)), small(0, 1), true},
		{small(0, 1), part(filled(64)), true},
		{part(filled(64)), small(1, 1), false}, // the sum, by one digit
		{part(filled(64)), small(-1, 1), true},
		{part(filled(64)), small(1, 2), false},                    // a.D b.D
		{api.Ratio{N: filled(64), D: power(1)}, part(odd), false}, // a.N b.D: the sum without it would fit
		{part(odd), api.Ratio{N: filled(64), D: power(1)}, false}, // b.N a.D
		{whole(power(40)), negated(whole(power(40))), true},
		{api.Ratio{N: power(40), D: odd}, small(1, 1), true},
		{api.Ratio{N: threes(20), D: power(40)}, small(0, 1), true},
		{api.Ratio{N: power(63), D: num.Of(3)}, small(1, 2), true},
		{api.Ratio{N: filled(64), D: power(1)}, small(0, 1), true},
		{api.Ratio{N: filled(64), D: power(1)}, small(1, 1), false}, // the sum of a.N and 2^32
		{api.Ratio{N: filled(64), D: power(1)}, small(-1, 1), true},
		{api.Ratio{N: filled(64), D: power(1)}, small(1, 3), false},
		{api.Ratio{N: power(63), D: filled(63)}, small(-1, 1), true},
	} {
		want, fits := sum(x.a, x.b)
		if fits != x.fits {
			t.Fatalf("the test expects of %v and %v what does not hold", x.a, x.b)
		}
		got, ok := ratio.Add(x.a, x.b)
		wanted(t, "Add", x.a, x.b, got, ok, want, fits)
		got, ok = ratio.Sub(x.a, negated(x.b))
		wanted(t, "Sub", x.a, negated(x.b), got, ok, want, fits)
	}
}

func TestProductsThatAreTooLong(t *testing.T) { // P3.4: nothing is reduced before the products are known
	mixed := api.Ratio{N: power(40), D: threes(40)}
	inverse := api.Ratio{N: threes(40), D: power(40)}
	for _, x := range []struct {
		a, b api.Ratio
		fits bool
	}{
		{whole(power(32)), whole(power(32)), false}, // only the N, by one digit
		{whole(power(32)), whole(power(31)), true},
		{part(power(32)), part(power(32)), false}, // only the D, by one digit
		{part(power(32)), part(power(31)), true},
		{mixed, inverse, false}, // both, though the product is 1
		{mixed, part(power(40)), false},
		{mixed, whole(threes(40)), false},
		{mixed, small(0, 1), true},
		{small(0, 1), part(filled(64)), true},
		{whole(filled(64)), small(-1, 1), true},
		{whole(filled(64)), small(2, 1), false},
		{whole(filled(64)), small(1, 2), true},
		{whole(power(63)), part(power(63)), true},
		{whole(power(63)), small(1<<31, 1), true},
		{whole(power(63)), small(1<<32, 1), false},
	} {
		want, fits := quotient(x.a.N, x.a.D, x.b.D, x.b.N)
		if fits != x.fits {
			t.Fatalf("the test expects of %v and %v what does not hold", x.a, x.b)
		}
		got, ok := ratio.Mul(x.a, x.b)
		wanted(t, "Mul", x.a, x.b, got, ok, want, fits)
		got, ok = ratio.Mul(x.b, x.a)
		wanted(t, "Mul", x.b, x.a, got, ok, want, fits)
		if len(x.b.N.D) == 0 || x.b.N.Neg {
			continue
		}
		got, ok = ratio.Div(x.a, api.Ratio{N: x.b.D, D: x.b.N})
		wanted(t, "Div", x.a, api.Ratio{N: x.b.D, D: x.b.N}, got, ok, want, fits)
	}
}

func TestWrongArguments(t *testing.T) { // P3.3 to P3.7
	for _, w := range wrong() {
		for _, a := range append(edges(), w, api.Ratio{}, small(2, 4)) {
			for _, x := range [][2]api.Ratio{{a, w}, {w, a}} {
				for name, call := range operations() {
					got, ok := call(x[0], x[1])
					wanted(t, name, x[0], x[1], got, ok, api.Ratio{}, false)
				}
				if c := ratio.Cmp(x[0], x[1]); c != 0 {
					t.Errorf("Cmp of %v: %d", x, c)
				}
			}
		}
		if s := ratio.Sign(w); s != 0 {
			t.Errorf("Sign of %v: %d", w, s)
		}
		if n, ok := ratio.Floor(w); n != 0 || ok {
			t.Errorf("Floor of %v: %d, %v", w, n, ok)
		}
		if n, ok := ratio.Ceil(w); n != 0 || ok {
			t.Errorf("Ceil of %v: %d, %v", w, n, ok)
		}
		if s := ratio.Text(w); s != "" {
			t.Errorf("Text of %v: %q", w, s)
		}
	}
}

// operations returns the functions that calculate with two Ratios.
func operations() map[string]func(a, b api.Ratio) (api.Ratio, bool) {
	return map[string]func(a, b api.Ratio) (api.Ratio, bool){"Add": ratio.Add, "Sub": ratio.Sub, "Mul": ratio.Mul, "Div": ratio.Div}
}
