package matrix_test

import (
	"math"
	"math/big"
	"math/rand/v2"
	"slices"
	"testing"

	"collet/api"
	"collet/num"
	"collet/ratio"
)

const most = 1 << 31 // the greatest entry

// rat returns what a right Ratio is.
func rat(r api.Ratio) *big.Rat {
	v, ok := new(big.Rat).SetString(ratio.Text(r))
	if !ok {
		panic("rat of a Ratio that is not right")
	}
	return v
}

// fraction returns the right Ratio n / d.
func fraction(n, d int) api.Ratio {
	r, ok := ratio.Of(num.Of(n), num.Of(d))
	if !ok {
		panic("fraction without a value")
	}
	return r
}

// ratios returns the Ratios of some integers.
func ratios(l ...int) []api.Ratio {
	var out []api.Ratio
	for _, n := range l {
		out = append(out, ratio.Int(n))
	}
	return out
}

// sameRatios reports whether two lists have the same Ratios, all of which are right.
func sameRatios(a, b []api.Ratio) bool {
	return slices.EqualFunc(a, b, func(x, y api.Ratio) bool {
		return ratio.Right(x) && ratio.Right(y) && ratio.Cmp(x, y) == 0
	})
}

// texts returns the Texts of some Nums; the empty string for one that is not right.
func texts(l []api.Num) []string {
	var out []string
	for _, n := range l {
		out = append(out, num.Text(n))
	}
	return out
}

// reduce returns the reduced form of a matrix, which has 1 where a row begins and 0 above and below, and the columns in which rows begin: Gauss and Jordan's elimination with fractions.
func reduce(rows [][]int) ([][]*big.Rat, []int) {
	var form [][]*big.Rat
	for _, row := range rows {
		var line []*big.Rat
		for _, n := range row {
			line = append(line, big.NewRat(int64(n), 1))
		}
		form = append(form, line)
	}
	var begins []int
	for column := range columns(rows) {
		done := len(begins)
		at := slices.IndexFunc(form[done:], func(line []*big.Rat) bool { return line[column].Sign() != 0 })
		if at < 0 {
			continue
		}
		form[done], form[done+at] = form[done+at], form[done]
		inverse := new(big.Rat).Inv(form[done][column])
		for _, n := range form[done] {
			n.Mul(n, inverse)
		}
		for i, line := range form {
			factor := new(big.Rat).Set(line[column])
			for k, n := range line {
				if i != done && factor.Sign() != 0 {
					n.Sub(n, new(big.Rat).Mul(factor, form[done][k]))
				}
			}
		}
		begins = append(begins, column)
	}
	return form, begins
}

// columns returns how many columns a matrix has.
func columns(rows [][]int) int {
	if len(rows) == 0 {
		return 0
	}
	return len(rows[0])
}

// wantedKernel returns what Kernel is to return, as Texts.
func wantedKernel(rows [][]int) []string {
	form, begins := reduce(rows)
	n := columns(rows)
	if len(begins) == n {
		return nil
	}
	f := 0
	for f < len(begins) && begins[f] == f {
		f++
	}
	common := big.NewInt(1)
	for _, line := range form[:f] {
		d := line[f].Denom()
		common.Mul(common, new(big.Int).Div(d, new(big.Int).GCD(nil, nil, common, d)))
	}
	var out []string
	for i := range n {
		v := new(big.Rat)
		if i < f {
			v.Neg(form[i][f])
		} else if i == f {
			v.SetInt64(1)
		}
		out = append(out, v.Mul(v, new(big.Rat).SetInt(common)).RatString())
	}
	return out
}

// wantedSolution returns the only solution; false if there is none, or another one.
func wantedSolution(rows [][]int, b []int) ([]*big.Rat, bool) {
	var wide [][]int
	for i, row := range rows {
		wide = append(wide, append(slices.Clone(row), b[i]))
	}
	form, begins := reduce(wide)
	for i := range rows {
		if i >= len(begins) || begins[i] != i {
			return nil, false
		}
	}
	var x []*big.Rat
	for _, line := range form {
		x = append(x, line[len(rows)])
	}
	return x, true
}

// wantedTimes returns what Times is to return for a matrix without an error and an x with as many elements as there are columns.
func wantedTimes(rows [][]int, x []api.Ratio) ([]api.Ratio, bool) {
	var out []api.Ratio
	for _, row := range rows {
		sum := ratio.Int(0)
		for k, n := range row {
			product, fits := ratio.Mul(ratio.Int(n), x[k])
			if !fits {
				return nil, false
			}
			if sum, fits = ratio.Add(sum, product); !fits {
				return nil, false
			}
		}
		out = append(out, sum)
	}
	return out, true
}

// filledWith returns a matrix all of whose elements are n.
func filledWith(height, width, n int) [][]int {
	rows := make([][]int, height)
	for i := range rows {
		rows[i] = slices.Repeat([]int{n}, width)
	}
	return rows
}

// diagonal returns the square matrix with these elements on its diagonal, and 0 elsewhere.
func diagonal(l ...int) [][]int {
	rows := filledWith(len(l), len(l), 0)
	for i, n := range l {
		rows[i][i] = n
	}
	return rows
}

// hadamard returns the 8 rows of 8 elements n and -n that are orthogonal to each other: no determinant of elements of this size is greater.
func hadamard(n int) [][]int {
	rows := filledWith(8, 8, n)
	for i, row := range rows {
		for k := range row {
			for bits := i & k; bits > 0; bits &= bits - 1 {
				row[k] = -row[k]
			}
		}
	}
	return rows
}

// transposed returns the matrix whose rows are the columns.
func transposed(rows [][]int) [][]int {
	out := make([][]int, columns(rows))
	for k := range out {
		for _, row := range rows {
			out[k] = append(out[k], row[k])
		}
	}
	return out
}

// clone returns a copy of a matrix.
func clone(rows [][]int) [][]int {
	var out [][]int
	for _, row := range rows {
		out = append(out, slices.Clone(row))
	}
	return out
}

// edges returns matrices at which something changes: without rows, without columns, of the greatest size, with the greatest entries, with rows and columns of zeros, and with columns that are dependent in different places.
func edges() [][][]int {
	staircase := [][]int{{0, 0, 3, 1, 2, 5, 0, 1}, {0, 0, 0, 0, 7, 1, 1, 1}, {0, 0, 0, 0, 0, 0, 0, -4}, {0, 0, 0, 0, 0, 0, 0, 0}}
	near := hadamard(most)
	near[7] = slices.Clone(near[3])
	off := hadamard(most)
	off[7][7]++
	tall := filledWith(48, 8, 0)
	for i := range tall {
		copy(tall[i], hadamard(most)[i%8])
	}
	late := filledWith(48, 8, 0) // the rows with something come last, in the opposite order
	for k := range 8 {
		late[47-k][k] = k - 9
	}
	out := [][][]int{
		nil, {{}}, {{}, {}}, filledWith(48, 0, 0), {{0}}, {{7}}, {{-7}}, {{0, 5}}, {{2, 3}}, {{2, -3}}, {{-4, 6}}, {{6, 0, 4}},
		{{1, 2, 0}, {2, 4, 1}}, {{0, 1}, {1, 0}}, {{0, 0, 1}, {0, 1, 0}, {1, 0, 0}}, {{0, 1, 1}, {1, 0, 1}, {1, 1, 0}}, {{2, 4}, {1, 2}, {3, 6}, {0, 0}}, {{0, 0}, {0, 0}, {1, 2}},
		{{-1, 0, 2}, {0, -1, 3}}, {{-6, 4, 10}, {9, -15, 21}}, {{1, 1, 1}, {1, 2, 3}, {2, 3, 4}}, {{1, 2}, {3, 4}, {5, 6}},
		staircase, transposed(staircase), filledWith(8, 8, 0), filledWith(8, 8, most), filledWith(48, 8, -most), filledWith(48, 1, 0), filledWith(1, 8, most),
		diagonal(1, 2, 3, 4, 5, 6, 7, 8), diagonal(most, -most, most, 1, most, most, most, most), diagonal(1, 2, 3, 0, 5, 6, 7, 8), diagonal(0, 2, 3, 4), diagonal(1, 2, 3, 4, 5, 6, 7, 0),
		hadamard(1), hadamard(most), hadamard(-most), hadamard(most)[:7], hadamard(most)[:4], near, off, tall, late, transposed(hadamard(most)[:3]),
	}
	for i := range out {
		out[i] = clone(out[i])
	}
	return out
}

// chance returns matrices of all sizes, many of which have dependent columns; the same ones for the same seed.
func chance(seed uint64) func(height, width int) [][]int {
	r := rand.New(rand.NewPCG(seed, 5))
	entry := []func() int{
		func() int { return r.IntN(3) - 1 },
		func() int { return r.IntN(19) - 9 },
		func() int { return r.IntN(2*most+1) - most },
		func() int { return []int{most, -most, most - 1, 1 - most, 0, 1}[r.IntN(6)] },
		func() int { return (r.IntN(5) - 2) * (most / 2) },
	}
	return func(height, width int) [][]int {
		next := entry[r.IntN(len(entry))]
		rows := filledWith(height, width, 0)
		for _, row := range rows {
			for k := range row {
				row[k] = next()
			}
		}
		for range r.IntN(4) { // a column, or a row, becomes a combination of two others
			if height == 0 || width == 0 {
				break
			}
			to, from, other := r.IntN(width), r.IntN(width), r.IntN(width)
			s, u := r.IntN(3)-1, r.IntN(3)-1
			for _, row := range rows {
				row[to] = within(s*row[from] + u*row[other])
			}
			to, from, other = r.IntN(height), r.IntN(height), r.IntN(height)
			for k := range width {
				rows[to][k] = within(s*rows[from][k] - u*rows[other][k])
			}
		}
		return rows
	}
}

// within returns n, or the nearest entry.
func within(n int) int {
	return max(-most, min(most, n))
}

// matrices calls f with some matrices, and with all those of a few rows and columns of small elements.
func matrices(f func(rows [][]int)) {
	some(f)
	for _, size := range [][2]int{{1, 3}, {2, 2}} {
		every(size[0], size[1], []int{-4, -1, 0, 1, 3}, f)
	}
	for _, size := range [][2]int{{1, 4}, {2, 3}, {3, 2}, {3, 3}} {
		every(size[0], size[1], []int{-1, 0, 2}, f)
	}
}

// some calls f with all edges, and with many other matrices.
func some(f func(rows [][]int)) {
	for _, rows := range edges() {
		f(rows)
	}
	next := chance(1)
	for height := range 10 {
		for width := range 9 {
			for range 12 {
				f(next(height, width))
			}
		}
	}
	for _, height := range []int{12, 47, 48} {
		for width := range 9 {
			f(next(height, width))
		}
	}
}

// every calls f with all matrices of a size that have no other elements than these.
func every(height, width int, elements []int, f func(rows [][]int)) {
	rows := filledWith(height, width, 0)
	var fill func(place int)
	fill = func(place int) {
		if place == height*width {
			f(clone(rows))
			return
		}
		for _, n := range elements {
			rows[place/width][place%width] = n
			fill(place + 1)
		}
	}
	fill(0)
}

// faulty is a matrix with an error.
type faulty struct {
	rows [][]int
	want api.Errno
}

// allFaulty returns matrices with errors: each error by one element too many, too few or too great, and before those that come later.
func allFaulty() []faulty {
	short := append(filledWith(47, 8, 1), []int{1, 1, 1, 1, 1, 1, 1})
	long := append(filledWith(47, 8, 1), []int{1, 1, 1, 1, 1, 1, 1, 1, 1})
	return []faulty{
		{filledWith(49, 1, 1), api.ErrMany}, {filledWith(49, 0, 1), api.ErrMany}, {make([][]int, 49), api.ErrMany}, {make([][]int, 1<<20), api.ErrMany}, {filledWith(1, 9, 1), api.ErrMany}, {filledWith(1, 1<<20, 1), api.ErrMany}, {filledWith(9, 9, 1), api.ErrMany}, {filledWith(48, 9, 1), api.ErrMany}, {filledWith(49, 8, 1), api.ErrMany},
		{append(filledWith(48, 2, 1), []int{1}), api.ErrMany}, {[][]int{{1, 1, 1, 1, 1, 1, 1, 1, 1}, {1}}, api.ErrMany}, {filledWith(49, 1, most+1), api.ErrMany}, {filledWith(2, 9, -most-1), api.ErrMany},
		{[][]int{{1, 2}, {3}}, api.ErrForm}, {[][]int{{1}, {2, 3}}, api.ErrForm}, {[][]int{{}, {0}}, api.ErrForm}, {[][]int{{0}, nil}, api.ErrForm}, {[][]int{{1}, {1, 1, 1, 1, 1, 1, 1, 1, 1}}, api.ErrForm}, {[][]int{{1}, make([]int, 1<<20)}, api.ErrForm}, {[][]int{{1, 2}, {3, 4}, {5, 6}, {7, 8, 9}}, api.ErrForm}, {short, api.ErrForm}, {long, api.ErrForm},
		{[][]int{{most + 1, 2}, {3}}, api.ErrForm}, {[][]int{{1, 2}, {-most - 1}}, api.ErrForm}, {[][]int{{math.MaxInt, 0}, {1, math.MinInt, 0}}, api.ErrForm},
		{[][]int{{most + 1}}, api.ErrRange}, {[][]int{{-most - 1}}, api.ErrRange}, {[][]int{{math.MaxInt}}, api.ErrRange}, {[][]int{{math.MinInt}}, api.ErrRange}, {[][]int{{0, 0, 0}, {0, 0, 0}, {0, 0, most + 1}}, api.ErrRange}, {[][]int{{1, -most - 1}, {1, 1}}, api.ErrRange}, {filledWith(48, 8, most+1), api.ErrRange}, {[][]int{{1 << 32}}, api.ErrRange}, {[][]int{{1, 2}, {1 << 40, 4}}, api.ErrRange},
	}
}

// complain reports a wrong result for a matrix.
func complain(t *testing.T, call string, rows [][]int, got, want any) {
	t.Helper()
	t.Errorf("%s of %v: %v instead of %v", call, rows, got, want)
}
