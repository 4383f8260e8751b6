package ratio_test

import (
	"math"
	"math/big"
	"testing"

	"collet/api"
	"collet/num"
	"collet/ratio"
)

func TestCmp(t *testing.T) { // P3.5
	pairs(func(a, b api.Ratio) {
		if got, want := ratio.Cmp(a, b), rat(a).Cmp(rat(b)); got != want {
			t.Errorf("Cmp of %v and %v: %d", a, b, got)
		}
	})
	for _, x := range []struct {
		a, b api.Ratio
		want int
	}{
		{small(1, 3), small(333, 1000), 1},
		{small(-1, 2), small(-1, 3), -1},
		{small(1, 2), api.Ratio{}, 0},
		{api.Ratio{}, small(1, 2), 0},
		{small(0, 1), small(0, 1), 0},
		{small(3, 1), small(7, 2), -1}, // one of the fractions has no more terms
		{small(7, 2), small(3, 1), 1},
		{small(7, 2), small(10, 3), 1},
		{small(-7, 2), small(-3, 1), -1},
		{small(-7, 2), small(-4, 1), 1},
		{small(1, 2), small(-1, 2), 1},
	} {
		if got := ratio.Cmp(x.a, x.b); got != x.want {
			t.Errorf("Cmp of %v and %v: %d", x.a, x.b, got)
		}
	}
	for n := -9; n <= 9; n++ {
		for d := 1; d <= 9; d++ {
			for m := -9; m <= 9; m++ {
				a, b := ratio.Frac(api.Frac{N: n, D: d}), ratio.Frac(api.Frac{N: m, D: 7})
				if got, want := ratio.Cmp(a, b), big.NewInt(int64(7*n)).Cmp(big.NewInt(int64(m*d))); got != want {
					t.Errorf("Cmp of %d / %d and %d / 7: %d", n, d, m, got)
				}
			}
		}
	}
}

func TestCmpOfLong(t *testing.T) { // P3.5: no product of these fits, and they differ late
	high, low := fibonacci()
	lower := new(big.Int).Sub(high, low)
	less := func(v *big.Int, by int64) *big.Int { return new(big.Int).Sub(v, big.NewInt(by)) }
	greatest := value(filled(64))
	l := []api.Ratio{
		reduced(high, low), reduced(low, lower), reduced(low, high), reduced(lower, low), reduced(less(high, 1), low), reduced(high, less(low, 1)),
		reduced(greatest, less(greatest, 1)), reduced(less(greatest, 1), less(greatest, 2)), reduced(less(greatest, 1), greatest), reduced(less(greatest, 2), less(greatest, 1)),
		reduced(greatest, value(threes(64))), reduced(greatest, less(value(threes(64)), 2)), small(1, 1),
	}
	for _, a := range l {
		for _, b := range l {
			want := rat(a).Cmp(rat(b))
			if got := ratio.Cmp(a, b); got != want {
				t.Errorf("Cmp of %v and %v: %d", a, b, got)
			}
			if got := ratio.Cmp(negated(a), negated(b)); got != -want {
				t.Errorf("Cmp of the opposites of %v and %v: %d", a, b, got)
			}
			if got := ratio.Cmp(negated(a), b); got != -1 {
				t.Errorf("Cmp of the opposite of %v and %v: %d", a, b, got)
			}
		}
	}
}

func TestSign(t *testing.T) { // P3.5
	for _, r := range edges() {
		if got := ratio.Sign(r); got != value(r.N).Sign() {
			t.Errorf("Sign of %v: %d", r, got)
		}
	}
	for _, x := range [][3]int{{0, 1, 0}, {1, 5, 1}, {-1, 5, -1}, {9, 1, 1}, {-9, 1, -1}} {
		if got := ratio.Sign(small(x[0], x[1])); got != x[2] {
			t.Errorf("%v: %d", x, got)
		}
	}
}

// rounded complains unless got and ok are the int v, or 0 and false if it is none.
func rounded(t *testing.T, call string, r api.Ratio, got int, ok bool, v *big.Int) {
	t.Helper()
	want := 0
	if v.IsInt64() {
		want = int(v.Int64())
	}
	if ok != v.IsInt64() || got != want {
		t.Errorf("%s of %v: %d, %v instead of %v", call, r, got, ok, v)
	}
}

func TestFloorAndCeil(t *testing.T) { // P3.6
	check := func(r api.Ratio) {
		below, rest := new(big.Int).DivMod(value(r.N), value(r.D), new(big.Int))
		n, ok := ratio.Floor(r)
		rounded(t, "Floor", r, n, ok, below)
		if rest.Sign() > 0 {
			below.Add(below, big.NewInt(1))
		}
		n, ok = ratio.Ceil(r)
		rounded(t, "Ceil", r, n, ok, below)
	}
	for _, r := range edges() {
		check(r)
	}
	for i, size := range []int{1, 2, 3, 64} {
		next := chance(uint64(i+20), size)
		for range 500 {
			check(next())
		}
	}
	for n := -30; n <= 30; n++ {
		for d := 1; d <= 8; d++ {
			check(ratio.Frac(api.Frac{N: n, D: d}))
		}
	}
	for _, x := range [][4]int{{7, 2, 3, 4}, {-7, 2, -4, -3}, {4, 1, 4, 4}, {-4, 1, -4, -4}, {0, 1, 0, 0}, {1, 1 << 40, 0, 1}, {-1, 1 << 40, -1, 0}} {
		below, fine := ratio.Floor(small(x[0], x[1]))
		above, ok := ratio.Ceil(small(x[0], x[1]))
		if below != x[2] || above != x[3] || !fine || !ok {
			t.Errorf("%v: %d, %d", x, below, above)
		}
	}
}

func TestFloorAndCeilAtTheEnds(t *testing.T) { // P3.6: halves round the greatest and the least int
	for _, end := range []int{math.MinInt, math.MaxInt} {
		for halves := int64(-4); halves <= 4; halves++ {
			doubled := new(big.Int).Lsh(big.NewInt(int64(end)), 1)
			doubled.Add(doubled, big.NewInt(halves))
			r := reduced(doubled, big.NewInt(2))
			below := new(big.Int).Rsh(doubled, 1)
			above := new(big.Int).Rsh(doubled.Add(doubled, big.NewInt(1)), 1)
			n, ok := ratio.Floor(r)
			rounded(t, "Floor", r, n, ok, below)
			n, ok = ratio.Ceil(r)
			rounded(t, "Ceil", r, n, ok, above)
		}
	}
	if n, ok := ratio.Floor(whole(api.Num{D: []uint32{0, 1 << 31}})); n != 0 || ok {
		t.Errorf("Floor of 2^63: %d, %v", n, ok)
	}
	if n, ok := ratio.Ceil(whole(num.Of(math.MinInt))); n != math.MinInt || !ok {
		t.Errorf("Ceil of -2^63: %d, %v", n, ok)
	}
}
