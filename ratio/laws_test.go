package ratio_test

import (
	"math"
	"slices"
	"testing"

	"collet/api"
	"collet/num"
	"collet/ratio"
)

// needed returns a function that passes on a result, and complains if it is false.
func needed(t *testing.T) func(a api.Ratio, ok bool) api.Ratio {
	return func(a api.Ratio, ok bool) api.Ratio {
		t.Helper()
		if !ok {
			t.Error("false, though nothing is too long")
		}
		return a
	}
}

// triples calls f with three Ratios with which nothing below is too long, many times.
func triples(f func(a, b, c api.Ratio)) {
	for i, n := range []int{1, 2, 6} {
		next := chance(uint64(i+40), n)
		for range 500 {
			f(next(), next(), next())
		}
	}
}

func TestLawsOfCalculating(t *testing.T) { // P3.8
	triples(func(a, b, c api.Ratio) {
		of := needed(t)
		equal := func(law string, x, y api.Ratio) {
			if !same(x, y) || !ratio.Right(x) || ratio.Cmp(x, y) != 0 {
				t.Errorf("%s: %v, %v, %v: %v and %v", law, a, b, c, x, y)
			}
		}
		equal("a + b = b + a", of(ratio.Add(a, b)), of(ratio.Add(b, a)))
		equal("a b = b a", of(ratio.Mul(a, b)), of(ratio.Mul(b, a)))
		equal("(a + b) + c = a + (b + c)", of(ratio.Add(of(ratio.Add(a, b)), c)), of(ratio.Add(a, of(ratio.Add(b, c)))))
		equal("(a b) c = a (b c)", of(ratio.Mul(of(ratio.Mul(a, b)), c)), of(ratio.Mul(a, of(ratio.Mul(b, c)))))
		equal("c (a + b) = c a + c b", of(ratio.Mul(c, of(ratio.Add(a, b)))), of(ratio.Add(of(ratio.Mul(c, a)), of(ratio.Mul(c, b)))))
		equal("(a + b) - b = a", of(ratio.Sub(of(ratio.Add(a, b)), b)), a)
		equal("a - a = 0", of(ratio.Sub(a, a)), ratio.Int(0))
		if ratio.Sign(b) != 0 {
			equal("(a b) / b = a", of(ratio.Div(of(ratio.Mul(a, b)), b)), a)
			equal("(a / b) b = a", of(ratio.Mul(of(ratio.Div(a, b)), b)), a)
		}
	})
}

func TestEqualHaveEqualFields(t *testing.T) { // P3.8
	pairs(func(a, b api.Ratio) {
		if (ratio.Cmp(a, b) == 0) != same(a, b) {
			t.Errorf("%v and %v: Cmp is %d", a, b, ratio.Cmp(a, b))
		}
	})
}

func TestCmpIsATotalOrder(t *testing.T) { // P3.9
	l := edges()
	next := chance(60, 64)
	for range 100 {
		l = append(l, next())
	}
	slices.SortFunc(l, ratio.Cmp)
	for i, a := range l {
		for k, b := range l[i:] {
			got, back := ratio.Cmp(a, b), ratio.Cmp(b, a)
			if got > 0 || got != -back || (got == 0) != same(a, b) {
				t.Errorf("%v and %v, %d places behind it in the order: %d, %d", a, b, k, got, back)
			}
		}
	}
}

func TestCmpOfSumsAndProducts(t *testing.T) { // P3.9
	triples(func(a, b, c api.Ratio) {
		of := needed(t)
		want := ratio.Cmp(a, b)
		if got := ratio.Cmp(of(ratio.Add(a, c)), of(ratio.Add(b, c))); got != want {
			t.Errorf("a + c and b + c: %v, %v, %v: %d", a, b, c, got)
		}
		if got := ratio.Cmp(of(ratio.Mul(a, c)), of(ratio.Mul(b, c))); got != want*ratio.Sign(c) {
			t.Errorf("a c and b c: %v, %v, %v: %d", a, b, c, got)
		}
		if got := ratio.Sign(of(ratio.Sub(a, b))); got != want {
			t.Errorf("a - b: %v, %v: %d", a, b, got)
		}
	})
}

func TestFloorIsBelow(t *testing.T) { // P3.10
	check := func(a api.Ratio) {
		below, fits := ratio.Floor(a)
		if fits && ratio.Cmp(ratio.Int(below), a) > 0 {
			t.Errorf("Floor of %v: %d", a, below)
		}
		if fits && below < math.MaxInt && ratio.Cmp(a, ratio.Int(below+1)) >= 0 {
			t.Errorf("Floor of %v: only %d", a, below)
		}
		above, fine := ratio.Ceil(a)
		opposite, ok := ratio.Floor(negated(a))
		if fine && ok && above != -opposite {
			t.Errorf("Ceil of %v: %d, and Floor of its opposite: %d", a, above, opposite)
		}
	}
	for _, a := range edges() {
		check(a)
	}
	triples(func(a, b, c api.Ratio) {
		check(a)
		check(b)
	})
}

// results returns the Ratios that all functions make of two.
func results(a, b api.Ratio) []api.Ratio {
	sum, _ := ratio.Add(a, b)
	rest, _ := ratio.Sub(a, b)
	product, _ := ratio.Mul(a, b)
	quotient, _ := ratio.Div(a, b)
	tops, _ := ratio.Of(a.N, b.N)
	bottoms, _ := ratio.Of(a.D, b.D)
	twice, _ := ratio.Of(a.N, a.N)
	read, _ := ratio.Parse(ratio.Text(a))
	return []api.Ratio{sum, rest, product, quotient, tops, bottoms, twice, read, ratio.Int(7), ratio.Frac(api.Frac{N: 1, D: 1})}
}

// lists returns the digits of some Ratios, as far as their memory goes.
func lists(l ...api.Ratio) [][]uint32 {
	var out [][]uint32
	for _, r := range l {
		out = append(out, r.N.D[:cap(r.N.D)], r.D.D[:cap(r.D.D)])
	}
	return out
}

func TestNothingIsShared(t *testing.T) { // R3 of DOC.md, for P3.2 to P3.7
	few := []api.Ratio{small(0, 1), small(1, 1), small(-1, 1), small(3, 1), small(-3, 2), small(1, 3), whole(power(3)), part(filled(5)), {N: threes(20), D: power(20)}, whole(filled(64))}
	for _, a := range few {
		for _, b := range few {
			all := lists(append(results(a, b), a, b)...)
			for i, spoilt := range all[:len(all)-4] {
				before := lists(append(results(a, b), a, b)...)
				for k := range spoilt {
					spoilt[k] ^= 0x5a5a5a5a
				}
				after := lists(append(results(a, b), a, b)...)
				if !slices.EqualFunc(before, after, slices.Equal[[]uint32]) {
					t.Fatalf("list %d of the results of %v and %v shares memory with them", i, a, b)
				}
				for k := range spoilt {
					spoilt[k] ^= 0x5a5a5a5a
				}
				for k, other := range all {
					if k != i && len(spoilt) > 0 && len(other) > 0 && &spoilt[0] == &other[0] {
						t.Fatalf("lists %d and %d of the results of %v and %v are the same", i, k, a, b)
					}
				}
			}
		}
	}
}

func TestNothingIsChanged(t *testing.T) { // R3 of DOC.md, for P3.1 to P3.7
	for _, a := range append(edges(), wrong()...) {
		for _, b := range []api.Ratio{small(-3, 2), part(threes(9)), a} {
			before := lists(a, b)
			for i := range before {
				before[i] = slices.Clone(before[i])
			}
			ratio.Right(a)
			ratio.Cmp(a, b)
			ratio.Sign(a)
			ratio.Floor(a)
			ratio.Ceil(a)
			results(a, b)
			if !slices.EqualFunc(before, lists(a, b), slices.Equal[[]uint32]) {
				t.Fatalf("%v was changed", before)
			}
		}
	}
}

func TestNoPanic(t *testing.T) { // P1
	all := append(edges(), wrong()...)
	for _, a := range all {
		ratio.Right(a)
		ratio.Sign(a)
		ratio.Floor(a)
		ratio.Ceil(a)
		ratio.Text(a)
		for _, b := range all {
			results(a, b)
			ratio.Cmp(a, b)
			ratio.Of(a.N, b.D)
			ratio.Of(b.D, a.N)
		}
	}
	ints := []int{0, 1, -1, 2, math.MaxInt, math.MinInt}
	for _, n := range ints {
		ratio.Int(n)
		for _, d := range ints {
			ratio.Frac(api.Frac{N: n, D: d})
			ratio.Text(small(n, d))
			ratio.Of(num.Of(n), num.Of(d))
		}
	}
	for first := range 256 {
		for second := range 256 {
			ratio.Parse(string([]byte{byte(first), byte(second)}))
			ratio.Parse("-12" + string([]byte{byte(first), '/', byte(second)}))
		}
	}
}
