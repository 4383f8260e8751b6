package matrix_test

import (
	"math/big"
	"slices"
	"testing"

	"collet/api"
	"collet/matrix"
	"collet/num"
	"collet/ratio"
)

func TestRank(t *testing.T) { // P5.1
	matrices(func(rows [][]int) {
		_, begins := reduce(rows)
		if got, e := matrix.Rank(rows); got != len(begins) || e != api.OK {
			t.Errorf("Rank of %v: %d, %d instead of %d", rows, got, e, len(begins))
		}
	})
	for _, x := range []struct {
		rows [][]int
		want int
	}{
		{[][]int{{1, 2}, {2, 4}}, 1}, {[][]int{{1, 2}, {3, 4}}, 2}, {nil, 0}, {[][]int{}, 0}, {[][]int{{}, {}}, 0}, {[][]int{nil, {}}, 0},
		{[][]int{{0, 0}, {0, 0}}, 0}, {[][]int{{0, 0}, {0, -most}}, 1}, {filledWith(48, 8, most), 1}, {hadamard(most), 8}, {hadamard(most)[:5], 5},
	} {
		if got, e := matrix.Rank(x.rows); got != x.want || e != api.OK {
			t.Errorf("Rank of %v: %d, %d instead of %d", x.rows, got, e, x.want)
		}
	}
}

func TestKernel(t *testing.T) { // P5.2
	matrices(func(rows [][]int) {
		want := wantedKernel(rows)
		if got, e := matrix.Kernel(rows); !slices.Equal(texts(got), want) || e != api.OK {
			t.Errorf("Kernel of %v: %v, %d instead of %v", rows, texts(got), e, want)
		}
	})
	for _, x := range []struct {
		rows [][]int
		want []string
	}{
		{[][]int{{1, 2, 0}, {2, 4, 1}}, []string{"-2", "1", "0"}}, {[][]int{{2, 3}}, []string{"-3", "2"}}, {[][]int{{0, 5}}, []string{"1", "0"}}, {[][]int{{1, 2}, {3, 4}}, nil}, {nil, nil}, {[][]int{{}, {}}, nil},
		{[][]int{{-2, 3}}, []string{"3", "2"}}, {[][]int{{4, 6}}, []string{"-3", "2"}}, {[][]int{{-4, -6}}, []string{"-3", "2"}}, {[][]int{{5, 10}}, []string{"-2", "1"}}, {[][]int{{10, 5}}, []string{"-1", "2"}}, {[][]int{{7, 0}}, []string{"0", "1"}}, {[][]int{{-7, 0}}, []string{"0", "1"}},
		{[][]int{{0}}, []string{"1"}}, {[][]int{{0, 0, 0}}, []string{"1", "0", "0"}}, {[][]int{{1, 0, 0, 4}}, []string{"0", "1", "0", "0"}}, {[][]int{{0, 1, 5}, {1, 0, 7}}, []string{"-7", "-5", "1"}}, {[][]int{{most, most - 1}}, []string{"-2147483647", "2147483648"}}, {[][]int{{most, -most}}, []string{"1", "1"}},
		{[][]int{{-1, 0, 2}, {0, -1, 3}}, []string{"2", "3", "1"}}, {[][]int{{1, 1, 1, 1}, {1, 2, 3, 4}, {1, 3, 5, 7}}, []string{"1", "-2", "1", "0"}}, {[][]int{{2, 0, 1}, {0, 3, 1}}, []string{"-3", "-2", "6"}},
	} {
		if got, e := matrix.Kernel(x.rows); !slices.Equal(texts(got), x.want) || e != api.OK {
			t.Errorf("Kernel of %v: %v, %d instead of %v", x.rows, texts(got), e, x.want)
		}
	}
}

func TestKernelIsAsItIsDescribed(t *testing.T) { // P5.2: without a reference
	matrices(func(rows [][]int) {
		n := columns(rows)
		v, _ := matrix.Kernel(rows)
		first := 0 // the first column that is a combination of those before it
		for first < n && rankOf(t, rows, first+1) == first+1 {
			first++
		}
		if first == n {
			if len(v) > 0 {
				complain(t, "Kernel", rows, texts(v), "nothing")
			}
			return
		}
		if len(v) != n {
			t.Fatalf("Kernel of %v: %v", rows, texts(v))
		}
		var divisor api.Num
		for i, a := range v {
			d, right := num.Gcd(divisor, a)
			divisor = d
			zero := num.Cmp(a, api.Num{}) == 0
			if !right || i > first && !zero || i == first && (zero || a.Neg) {
				complain(t, "Kernel", rows, texts(v), first)
			}
		}
		if num.Cmp(divisor, num.Of(1)) != 0 {
			t.Errorf("Kernel of %v: %v have a divisor", rows, texts(v))
		}
		for _, row := range rows {
			sum := new(big.Int)
			for k, a := range row {
				sum.Add(sum, new(big.Int).Mul(big.NewInt(int64(a)), rat(api.Ratio{N: v[k], D: num.Of(1)}).Num()))
			}
			if sum.Sign() != 0 {
				t.Errorf("Kernel of %v: %v is sent to %v", rows, texts(v), sum)
			}
		}
	})
}

// rankOf returns the rank of the first columns of a matrix.
func rankOf(t *testing.T, rows [][]int, columns int) int {
	t.Helper()
	var left [][]int
	for _, row := range rows {
		left = append(left, row[:columns])
	}
	rank, e := matrix.Rank(left)
	if e != api.OK {
		t.Fatalf("Rank of %v: %d", left, e)
	}
	return rank
}

// rightSides returns what is tried as the inner products with n rows.
func rightSides(n int) [][]int {
	var great, mixed []int
	for i := range n {
		great = append(great, []int{most, -most}[i%2])
		mixed = append(mixed, []int{1, -3, 0, most - 1, 7}[i%5])
	}
	return [][]int{make([]int, n), slices.Repeat([]int{1}, n), great, mixed}
}

// checkSolution complains unless Solve solves, or refuses, as it must.
func checkSolution(t *testing.T, rows [][]int, b []int) {
	t.Helper()
	got, e := matrix.Solve(rows, b)
	x, single := wantedSolution(rows, b)
	if !single {
		if e != api.ErrZero || len(got) > 0 {
			t.Errorf("Solve of %v with %v: %v, %d instead of %d", rows, b, got, e, api.ErrZero)
		}
		return
	}
	if e != api.OK || !slices.EqualFunc(got, x, func(r api.Ratio, v *big.Rat) bool { return ratio.Right(r) && rat(r).Cmp(v) == 0 }) {
		t.Errorf("Solve of %v with %v: %v, %d instead of %v", rows, b, got, e, x)
	}
}

func TestSolve(t *testing.T) { // P5.3
	matrices(func(rows [][]int) {
		if len(rows) == columns(rows) {
			for _, b := range rightSides(len(rows)) {
				checkSolution(t, rows, b)
			}
		}
	})
	next := chance(2)
	for n := range 9 {
		for range 60 {
			rows := next(n, n)
			for _, b := range rightSides(n) {
				checkSolution(t, rows, b)
			}
		}
	}
	for _, x := range []struct {
		rows [][]int
		b    []int
		want []api.Ratio
		e    api.Errno
	}{
		{[][]int{{1, 2}, {3, 4}}, []int{5, 6}, []api.Ratio{fraction(-4, 1), fraction(9, 2)}, api.OK},
		{[][]int{{1, 2}, {2, 4}}, []int{1, 2}, nil, api.ErrZero}, // more than one
		{[][]int{{1, 2}, {2, 4}}, []int{1, 3}, nil, api.ErrZero}, // none
		{[][]int{{0}}, []int{0}, nil, api.ErrZero}, {[][]int{{0}}, []int{1}, nil, api.ErrZero}, {[][]int{{0, 1}, {0, 1}}, []int{1, 1}, nil, api.ErrZero}, {[][]int{{1, 0}, {0, 0}}, []int{0, 0}, nil, api.ErrZero},
		{[][]int{{-3}}, []int{6}, ratios(-2), api.OK}, {[][]int{{-3}}, []int{0}, ratios(0), api.OK}, {[][]int{{4}}, []int{-6}, []api.Ratio{fraction(-3, 2)}, api.OK}, {[][]int{{0, 2}, {1, 0}}, []int{8, 5}, ratios(5, 4), api.OK},
		{nil, nil, nil, api.OK}, {[][]int{}, []int{}, nil, api.OK}, {[][]int{{most}}, []int{-most}, ratios(-1), api.OK}, {[][]int{{1}}, []int{most}, ratios(most), api.OK}, {[][]int{{-most}}, []int{1}, []api.Ratio{fraction(-1, most)}, api.OK},
	} {
		if got, e := matrix.Solve(x.rows, x.b); e != x.e || !sameRatios(got, x.want) {
			t.Errorf("Solve of %v with %v: %v, %d", x.rows, x.b, got, e)
		}
	}
}

func TestSolveRefuses(t *testing.T) { // P5.3
	for _, x := range []struct {
		rows [][]int
		b    []int
		want api.Errno
	}{
		{[][]int{{1, 2}}, []int{1}, api.ErrForm}, {[][]int{{1}, {2}}, []int{1, 2}, api.ErrForm}, {[][]int{{1, 2}}, []int{1, 2}, api.ErrForm}, {[][]int{{1}, {2}}, []int{1}, api.ErrForm}, {filledWith(48, 8, 1), make([]int, 48), api.ErrForm}, {filledWith(9, 8, 1), make([]int, 9), api.ErrForm}, {filledWith(7, 8, 1), make([]int, 8), api.ErrForm},
		{[][]int{{1}}, nil, api.ErrForm}, {[][]int{{1}}, []int{1, 2}, api.ErrForm}, {[][]int{{0}}, []int{}, api.ErrForm}, {nil, []int{0}, api.ErrForm}, {[][]int{{}}, nil, api.ErrForm}, {[][]int{{}}, []int{1}, api.ErrForm}, {[][]int{{1, 0}, {0, 1}}, []int{1}, api.ErrForm}, {[][]int{{1, 0}, {0, 1}}, []int{1, 2, 3}, api.ErrForm}, {[][]int{{1, 0}, {0, 1}}, make([]int, 1<<20), api.ErrForm},
		{[][]int{{1}}, []int{most + 1, 0}, api.ErrForm}, {[][]int{{1, 1}}, []int{most + 1}, api.ErrForm}, {nil, []int{-most - 1}, api.ErrForm},
		{[][]int{{1}}, []int{most + 1}, api.ErrRange}, {[][]int{{1}}, []int{-most - 1}, api.ErrRange}, {[][]int{{1, 0}, {0, 1}}, []int{0, 1 << 40}, api.ErrRange}, {[][]int{{1, 0}, {0, 1}}, []int{-1 << 63, 0}, api.ErrRange}, {hadamard(most), []int{0, 0, 0, 0, 0, 0, 0, most + 1}, api.ErrRange},
		{[][]int{{0}}, []int{most + 1}, api.ErrRange}, {[][]int{{1, 2}, {2, 4}}, []int{0, -most - 1}, api.ErrRange},
	} {
		if got, e := matrix.Solve(x.rows, x.b); e != x.want || len(got) > 0 {
			t.Errorf("Solve of %v with %v: %v, %d instead of %d", x.rows, x.b, got, e, x.want)
		}
	}
}

func TestFaultyMatrices(t *testing.T) { // P5.1 to P5.4
	for i, x := range allFaulty() {
		if got, e := matrix.Rank(x.rows); got != 0 || e != x.want {
			t.Errorf("%d: Rank: %d, %d instead of %d", i, got, e, x.want)
		}
		if got, e := matrix.Kernel(x.rows); len(got) > 0 || e != x.want {
			t.Errorf("%d: Kernel: %v, %d instead of %d", i, got, e, x.want)
		}
		for _, b := range [][]int{nil, {most + 1}, make([]int, min(len(x.rows), 49)), slices.Repeat([]int{-most - 1}, min(len(x.rows), 49))} {
			if got, e := matrix.Solve(x.rows, b); len(got) > 0 || e != x.want {
				t.Errorf("%d: Solve with %d numbers: %v, %d instead of %d", i, len(b), got, e, x.want)
			}
		}
		for n := range 12 {
			if got, ok := matrix.Times(x.rows, ratios(make([]int, n)...)); len(got) > 0 || ok {
				t.Errorf("%d: Times with %d numbers: %v, %v", i, n, got, ok)
			}
		}
		if got, ok := matrix.Times(x.rows, ratios(make([]int, min(columns(x.rows), 1<<20))...)); len(got) > 0 || ok {
			t.Errorf("%d: Times: %v, %v", i, got, ok)
		}
	}
}

func TestMatricesAtTheLimits(t *testing.T) { // P5.1 to P5.4
	rows := filledWith(48, 8, most)
	if got, e := matrix.Rank(rows); got != 1 || e != api.OK {
		t.Errorf("Rank: %d, %d", got, e)
	}
	if got, e := matrix.Kernel(rows); !slices.Equal(texts(got), []string{"-1", "1", "0", "0", "0", "0", "0", "0"}) || e != api.OK {
		t.Errorf("Kernel: %v, %d", got, e)
	}
	if got, ok := matrix.Times(rows, ratios(1, 1, 1, 1, 1, 1, 1, 1)); !sameRatios(got, slices.Repeat(ratios(8*most), 48)) || !ok {
		t.Errorf("Times: %v, %v", got, ok)
	}
	b := slices.Repeat([]int{-most}, 8)
	if got, e := matrix.Solve(hadamard(-most), b); !sameRatios(got, ratios(1, 0, 0, 0, 0, 0, 0, 0)) || e != api.OK {
		t.Errorf("Solve: %v, %d", got, e)
	}
}
