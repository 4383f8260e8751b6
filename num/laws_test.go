package num_test

import (
	"math"
	"slices"
	"strconv"
	"testing"

	"collet/api"
	"collet/num"
)

// needed returns a function that passes on a result, and complains if it is false.
func needed(t *testing.T) func(a api.Num, ok bool) api.Num {
	return func(a api.Num, ok bool) api.Num {
		t.Helper()
		if !ok {
			t.Error("false, though everything fits")
		}
		return a
	}
}

// triples calls f with three Nums whose product fits, many times.
func triples(f func(a, b, c api.Num)) {
	for i, n := range []int{1, 3, 20} {
		next := chance(uint64(i+40), n)
		for range 1000 {
			f(next(), next(), next())
		}
	}
}

func TestOrderOfSumsAndProducts(t *testing.T) { // P1.7
	triples(func(a, b, c api.Num) {
		of := needed(t)
		equal := func(law string, x, y api.Num) {
			if !same(x, y) {
				t.Errorf("%s: %v, %v, %v: %v and %v", law, a, b, c, x, y)
			}
		}
		equal("a + b = b + a", of(num.Add(a, b)), of(num.Add(b, a)))
		equal("a b = b a", of(num.Mul(a, b)), of(num.Mul(b, a)))
		equal("(a + b) + c = a + (b + c)", of(num.Add(of(num.Add(a, b)), c)), of(num.Add(a, of(num.Add(b, c)))))
		equal("(a b) c = a (b c)", of(num.Mul(of(num.Mul(a, b)), c)), of(num.Mul(a, of(num.Mul(b, c)))))
		equal("c (a + b) = c a + c b", of(num.Mul(c, of(num.Add(a, b)))), of(num.Add(of(num.Mul(c, a)), of(num.Mul(c, b)))))
		equal("(a + b) - b = a", of(num.Sub(of(num.Add(a, b)), b)), a)
	})
}

func TestCommonFactors(t *testing.T) { // P1.7
	triples(func(a, b, c api.Num) {
		of := needed(t)
		g := of(num.Gcd(a, b))
		scaled := of(num.Gcd(of(num.Mul(c, a)), of(num.Mul(c, b))))
		if want := of(num.Mul(api.Num{D: c.D}, g)); !same(scaled, want) {
			t.Errorf("Gcd of c a and c b: %v, %v, %v: %v instead of %v", a, b, c, scaled, want)
		}
		if len(c.D) == 0 || len(scaled.D) == 0 {
			return
		}
		if _, r, ok := num.Div(scaled, c); !ok || !isZero(r) {
			t.Errorf("%v does not divide the Gcd %v", c, scaled)
		}
	})
}

func TestCmpOfSumsAndProducts(t *testing.T) { // P1.8
	triples(func(a, b, c api.Num) {
		of := needed(t)
		want := num.Cmp(a, b)
		if got := num.Cmp(of(num.Add(a, c)), of(num.Add(b, c))); got != want {
			t.Errorf("a + c and b + c: %v, %v, %v: %d", a, b, c, got)
		}
		if len(c.D) == 0 {
			return
		}
		c.Neg = false
		if got := num.Cmp(of(num.Mul(a, c)), of(num.Mul(b, c))); got != want {
			t.Errorf("a c and b c: %v, %v, %v: %d", a, b, c, got)
		}
		if got := num.Cmp(of(num.Mul(a, minus(c))), of(num.Mul(b, minus(c)))); got != -want {
			t.Errorf("-a c and -b c: %v, %v, %v: %d", a, b, c, got)
		}
	})
}

func TestTextGrowsByDigits(t *testing.T) { // P1.8
	next := chance(50, 63)
	of := needed(t)
	for range 500 {
		a := next()
		if len(a.D) == 0 {
			continue
		}
		a.Neg = false
		for d := range 10 {
			longer := of(num.Add(of(num.Mul(num.Of(10), a)), num.Of(d)))
			if got := num.Text(longer); got != num.Text(a)+strconv.Itoa(d) {
				t.Errorf("%v, %d: %s", a, d, got)
			}
		}
	}
}

// calls returns the results of all functions that take two Nums.
func calls(a, b api.Num) []api.Num {
	sum, _ := num.Add(a, b)
	rest, _ := num.Sub(a, b)
	product, _ := num.Mul(a, b)
	quotient, left, _ := num.Div(a, b)
	divisor, _ := num.Gcd(a, b)
	return []api.Num{sum, rest, product, quotient, left, divisor}
}

func TestNothingIsShared(t *testing.T) { // R3 of DOC.md, for P1.2 to P1.4
	try := func(a, b api.Num) {
		a.D, b.D = slices.Clip(slices.Clone(a.D)), slices.Clip(slices.Clone(b.D))
		wasA, wasB := slices.Clone(a.D), slices.Clone(b.D)
		for i := range calls(a, b) {
			results := calls(a, b)
			others := calls(a, b)
			spoilt := results[i].D[:cap(results[i].D)]
			for k := range spoilt {
				spoilt[k] ^= 0x5a5a5a5a
			}
			if !slices.Equal(a.D, wasA) || !slices.Equal(b.D, wasB) {
				t.Fatalf("result %d of %v and %v shares their memory, or a call changed them", i, wasA, wasB)
			}
			for k := range results {
				if k != i && !same(results[k], others[k]) {
					t.Fatalf("results %d and %d of %v and %v share memory", i, k, wasA, wasB)
				}
			}
		}
	}
	few := []api.Num{{}, num.Of(1), num.Of(-1), num.Of(12), num.Of(math.MinInt), filled(3, 9), minus(filled(5, 1<<31)), filled(64, math.MaxUint32), power(40)}
	for _, a := range few {
		for _, b := range few {
			try(a, b)
		}
		digits := slices.Clone(a.D)
		num.Right(a)
		num.Int(a)
		num.Cmp(a, a)
		num.Text(a)
		if !slices.Equal(a.D, digits) {
			t.Errorf("%v was changed", digits)
		}
	}
}

func TestNoPanic(t *testing.T) { // P1
	all := append(edges(), wrong()...)
	for _, a := range all {
		num.Right(a)
		num.Int(a)
		num.Text(a)
		for _, b := range all {
			calls(a, b)
			num.Cmp(a, b)
		}
	}
	for _, n := range []int{0, 1, -1, math.MaxInt, math.MinInt} {
		num.Of(n)
	}
	for first := range 256 {
		for second := range 256 {
			num.Parse(string([]byte{byte(first), byte(second)}))
			num.Parse("-123456789" + string([]byte{byte(first), byte(second)}))
		}
	}
}
