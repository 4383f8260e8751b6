package matrix_test

import (
	"math"
	"math/rand/v2"
	"slices"
	"testing"

	"collet/api"
	"collet/matrix"
	"collet/num"
	"collet/ratio"
)

// long returns 2^(32 n) - 1, which has n digits.
func long(n int) api.Num {
	return api.Num{D: slices.Repeat([]uint32{math.MaxUint32}, n)}
}

// power returns 2^(32 n).
func power(n int) api.Num {
	return api.Num{D: append(make([]uint32, n), 1)}
}

// whole returns the Ratio a / 1.
func whole(a api.Num) api.Ratio { return api.Ratio{N: a, D: num.Of(1)} }

// part returns the Ratio 1 / a.
func part(a api.Num) api.Ratio { return api.Ratio{N: num.Of(1), D: a} }

// vectors returns some vectors of n elements: some with which everything fits, and some with which not all does.
func vectors(n int) [][]api.Ratio {
	r := rand.New(rand.NewPCG(uint64(n), 7))
	elements := []api.Ratio{ratio.Int(0), ratio.Int(1), ratio.Int(-1), fraction(1, 2), fraction(-7, 3), ratio.Int(math.MinInt), fraction(5, math.MaxInt), whole(long(30)), part(power(20)), {N: long(9), D: power(9)}, whole(long(64)), part(long(64)), part(power(33))}
	zeros := ratios(make([]int, n)...)
	ones := ratios(slices.Repeat([]int{1}, n)...)
	out := [][]api.Ratio{zeros, ones}
	for _, kinds := range []int{5, 7, 10, len(elements)} {
		var x []api.Ratio
		for range n {
			x = append(x, elements[r.IntN(kinds)])
		}
		out = append(out, x)
	}
	return out
}

func TestTimes(t *testing.T) { // P5.4
	count := map[bool]int{}
	some(func(rows [][]int) {
		for _, x := range vectors(columns(rows)) {
			want, fits := wantedTimes(rows, x)
			count[fits]++
			if got, ok := matrix.Times(rows, x); ok != fits || !sameRatios(got, want) {
				t.Errorf("Times of %v with %v: %v, %v instead of %v, %v", rows, x, got, ok, want, fits)
			}
		}
	})
	if count[true] == 0 || count[false] == 0 {
		t.Errorf("only one kind of results was tried: %v", count)
	}
	for _, x := range []struct {
		rows [][]int
		x    []api.Ratio
		want []api.Ratio
	}{
		{[][]int{{1, 2}, {3, 4}}, []api.Ratio{fraction(-4, 1), fraction(9, 2)}, ratios(5, 6)},
		{nil, nil, nil}, {[][]int{}, []api.Ratio{}, nil}, {[][]int{{}, {}}, nil, ratios(0, 0)}, {[][]int{{0}}, []api.Ratio{fraction(1, 3)}, ratios(0)}, {[][]int{{3}, {-most}}, []api.Ratio{fraction(1, 3)}, []api.Ratio{ratio.Int(1), fraction(-most, 3)}},
		{[][]int{{1, 1, 1}}, []api.Ratio{fraction(1, 2), fraction(1, 3), fraction(1, 6)}, ratios(1)}, {[][]int{{1, 0}, {0, 1}, {1, 1}}, ratios(5, -7), ratios(5, -7, -2)}, {[][]int{{1, 2, 3}}, ratios(100, 10, 1), ratios(123)},
	} {
		if got, ok := matrix.Times(x.rows, x.x); !ok || !sameRatios(got, x.want) {
			t.Errorf("Times of %v with %v: %v, %v", x.rows, x.x, got, ok)
		}
	}
}

func TestTimesRefuses(t *testing.T) { // P5.4: vectors of another length, and with elements that are not right
	wrong := []api.Ratio{{}, {N: num.Of(1)}, {N: num.Of(2), D: num.Of(4)}, {N: num.Of(1), D: num.Of(-2)}, {N: num.Of(0), D: num.Of(2)}, {N: api.Num{Neg: true}, D: num.Of(1)}, {N: api.Num{D: []uint32{0}}, D: num.Of(1)}, {N: num.Of(1), D: api.Num{D: []uint32{1, 0}}}, whole(power(64)), part(power(64))}
	for _, rows := range [][][]int{nil, {{}}, {{0}}, {{1}}, {{0, 0}}, {{1, 2}, {3, 4}}, {{0, 0, 0}, {1, 1, 1}}, filledWith(48, 8, 1), filledWith(48, 8, 0)} {
		n := columns(rows)
		for size := range 12 {
			x := ratios(make([]int, size)...)
			if got, ok := matrix.Times(rows, x); ok != (size == n) || !ok && len(got) > 0 {
				t.Errorf("Times of %v with %d zeros: %v, %v", rows, size, got, ok)
			}
		}
		if got, ok := matrix.Times(rows, make([]api.Ratio, 1<<16)); ok || len(got) > 0 {
			t.Errorf("Times of %v with 2^16 elements: %v, %v", rows, got, ok)
		}
		for k := range n {
			for _, w := range wrong {
				x := ratios(make([]int, n)...)
				x[k] = w
				if got, ok := matrix.Times(rows, x); ok || len(got) > 0 {
					t.Errorf("Times of %v with %v: %v, %v", rows, x, got, ok)
				}
			}
		}
	}
}

func TestTimesThatAreTooLong(t *testing.T) { // P5.4: the products and sums are just those that are named, in their order
	most64, half := whole(long(64)), part(power(33))
	for i, x := range []struct {
		rows [][]int
		x    []api.Ratio
		fits bool
	}{
		{[][]int{{1}}, []api.Ratio{most64}, true},
		{[][]int{{-1}}, []api.Ratio{most64}, true},
		{[][]int{{0}}, []api.Ratio{most64}, true},
		{[][]int{{2}}, []api.Ratio{most64}, false},                            // a product
		{[][]int{{2}}, []api.Ratio{{N: long(64), D: num.Of(2)}}, false},       // a product that is reduced only afterwards
		{[][]int{{2}}, []api.Ratio{part(long(64))}, true},                     // no D that is too long
		{[][]int{{1, 1}}, []api.Ratio{most64, ratio.Int(1)}, false},           // a sum
		{[][]int{{1, 1}}, []api.Ratio{half, half}, false},                     // a sum's D
		{[][]int{{1, -1}}, []api.Ratio{half, half}, false},                    // the same, though the sum is 0
		{[][]int{{1, 0}}, []api.Ratio{half, half}, true},                      // nothing is added
		{[][]int{{0, 0}}, []api.Ratio{part(long(64)), part(power(63))}, true}, // nor here
		{[][]int{{1, 1, 1}}, []api.Ratio{most64, ratio.Int(1), ratio.Int(-1)}, false},
		{[][]int{{1, 1, 1}}, []api.Ratio{most64, ratio.Int(-1), ratio.Int(1)}, true},
		{[][]int{{1, 1, 1}}, []api.Ratio{ratio.Int(-1), most64, ratio.Int(1)}, true}, // false from the last column on
		{[][]int{{1, 1, 1}}, []api.Ratio{ratio.Int(1), most64, ratio.Int(-1)}, false},
		{[][]int{{1, 1}, {1, 0}}, []api.Ratio{most64, ratio.Int(1)}, false}, // in the first row
		{[][]int{{1, 0}, {0, 1}, {1, 1}}, []api.Ratio{most64, ratio.Int(1)}, false},
		{[][]int{{1, 0}, {0, 1}, {1, -1}}, []api.Ratio{most64, ratio.Int(1)}, true},
	} {
		want, fits := wantedTimes(x.rows, x.x)
		if fits != x.fits {
			t.Fatalf("%d: the test expects what does not hold", i)
		}
		if got, ok := matrix.Times(x.rows, x.x); ok != fits || !sameRatios(got, want) {
			t.Errorf("%d: Times: %v, %v instead of %v, %v", i, got, ok, want, fits)
		}
	}
}
