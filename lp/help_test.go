package lp_test

import (
	"math"
	"math/big"
	"math/rand/v2"
	"slices"
	"testing"

	"collet/api"
	"collet/num"
	"collet/ratio"
)

const most = 1 << 31 // the greatest number of a program

// program returns the linear program with these rows, Rhs and Cost.
func program(rows [][]int, rhs, cost []int) api.Linear {
	l := api.Linear{Cost: cost, Rhs: rhs}
	for k := range cost {
		var column []int
		for _, row := range rows {
			column = append(column, row[k])
		}
		l.A = append(l.A, column)
	}
	return l
}

// integer returns what the digits and the sign of n stand for.
func integer(n api.Num) *big.Int {
	v := new(big.Int)
	for _, d := range slices.Backward(n.D) {
		v.Lsh(v, 32).Or(v, big.NewInt(int64(d)))
	}
	if n.Neg {
		v.Neg(v)
	}
	return v
}

// rat returns what a right Ratio is.
func rat(r api.Ratio) *big.Rat {
	return new(big.Rat).SetFrac(integer(r.N), integer(r.D))
}

// isRight reports whether a Ratio is right.
func isRight(r api.Ratio) bool {
	for _, n := range []api.Num{r.N, r.D} {
		if n.Neg && len(n.D) == 0 || len(n.D) > 64 || len(n.D) > 0 && n.D[len(n.D)-1] == 0 {
			return false
		}
	}
	d := integer(r.D)
	return d.Sign() > 0 && new(big.Int).GCD(nil, nil, new(big.Int).Abs(integer(r.N)), d).Cmp(big.NewInt(1)) == 0
}

// fraction returns the right Ratio n / d.
func fraction(n, d int) api.Ratio {
	r, ok := ratio.Of(num.Of(n), num.Of(d))
	if !ok {
		panic("fraction without a value")
	}
	return r
}

// ratios returns the Ratios of some integers.
func ratios(l ...int) []api.Ratio {
	var out []api.Ratio
	for _, n := range l {
		out = append(out, ratio.Int(n))
	}
	return out
}

// parse returns the Ratios with these Texts.
func parse(texts ...string) []api.Ratio {
	var out []api.Ratio
	for _, s := range texts {
		r, ok := ratio.Parse(s)
		if !ok {
			panic("no Text of a Ratio: " + s)
		}
		out = append(out, r)
	}
	return out
}

// long returns 2^(32 n) - 1, which has n digits.
func long(n int) api.Num {
	return api.Num{D: slices.Repeat([]uint32{math.MaxUint32}, n)}
}

// power returns 2^(32 n), which has n + 1 digits.
func power(n int) api.Num {
	return api.Num{D: append(make([]uint32, n), 1)}
}

// whole returns the Ratio a / 1.
func whole(a api.Num) api.Ratio { return api.Ratio{N: a, D: num.Of(1)} }

// part returns the Ratio 1 / a.
func part(a api.Num) api.Ratio { return api.Ratio{N: num.Of(1), D: a} }

// opposite returns -r.
func opposite(r api.Ratio) api.Ratio {
	r.N.Neg = !r.N.Neg && len(r.N.D) > 0
	return r
}

// wrongRatios returns Ratios that are not right.
func wrongRatios() []api.Ratio {
	return []api.Ratio{
		{}, {N: num.Of(1)}, {N: num.Of(2), D: num.Of(4)}, {N: num.Of(-1), D: num.Of(-2)}, {N: num.Of(1), D: num.Of(-1)}, {N: num.Of(0), D: num.Of(2)}, {N: api.Num{Neg: true}, D: num.Of(1)}, {N: num.Of(1), D: api.Num{Neg: true}},
		{N: api.Num{D: []uint32{0}}, D: num.Of(1)}, {N: num.Of(1), D: api.Num{D: []uint32{1, 0}}}, {N: api.Num{D: []uint32{3, 0}}, D: num.Of(1)}, whole(power(64)), part(power(64)),
	}
}

// fits reports whether none of some integers is too long.
func fits(l ...*big.Int) bool {
	for _, n := range l {
		if n.BitLen() > 32*api.MaxDigits {
			return false
		}
	}
	return true
}

// product returns a b.
func product(a, b *big.Int) *big.Int { return new(big.Int).Mul(a, b) }

// wantedSum returns the sum of products as the chapter defines it; false if there is none. The elements of x are right.
func wantedSum(numbers []int, x []api.Ratio) (*big.Rat, bool) {
	sum := new(big.Rat)
	for k, r := range x {
		n := big.NewInt(int64(numbers[k]))
		v := rat(r)
		if !fits(product(n, v.Num())) {
			return nil, false
		}
		v.Mul(v, new(big.Rat).SetInt(n))
		left, right := product(sum.Num(), v.Denom()), product(v.Num(), sum.Denom())
		if !fits(left, right, product(sum.Denom(), v.Denom()), new(big.Int).Add(left, right)) {
			return nil, false
		}
		sum.Add(sum, v)
	}
	return sum, true
}

// numbersOf returns the numbers of a row.
func numbersOf(l api.Linear, row int) []int {
	var out []int
	for _, column := range l.A {
		out = append(out, column[row])
	}
	return out
}

// wantedRows reports whether x is as long as it must be, not negative, and leads to the sums of the rows.
func wantedRows(l api.Linear, x []api.Ratio, sums []int) bool {
	if len(x) != len(l.A) {
		return false
	}
	for i, want := range sums {
		sum, ok := wantedSum(numbersOf(l, i), x)
		if !ok || sum.Cmp(new(big.Rat).SetInt64(int64(want))) != 0 {
			return false
		}
	}
	return !slices.ContainsFunc(x, func(r api.Ratio) bool { return r.N.Neg })
}

// wantedColumns reports whether y is as long as it must be, and the sums of the columns are at most those that are given.
func wantedColumns(l api.Linear, y []api.Ratio, atMost []int) bool {
	if len(y) != len(l.Rhs) {
		return false
	}
	for k, column := range l.A {
		sum, ok := wantedSum(column, y)
		if !ok || sum.Cmp(new(big.Rat).SetInt64(int64(atMost[k]))) > 0 {
			return false
		}
	}
	return true
}

// wantedCheck returns what Check is to return for a program without an error.
func wantedCheck(l api.Linear, s api.Solution) bool {
	for _, r := range slices.Concat(s.X, s.Y, s.Z) {
		if !isRight(r) {
			return false
		}
	}
	switch s.Kind {
	case 1:
		if len(s.Z) > 0 || !wantedRows(l, s.X, l.Rhs) || !wantedColumns(l, s.Y, l.Cost) {
			return false
		}
		cost, ok := wantedSum(l.Cost, s.X)
		bound, fits := wantedSum(l.Rhs, s.Y)
		return ok && fits && cost.Cmp(bound) == 0
	case 2:
		if len(s.X) > 0 || len(s.Z) > 0 || !wantedColumns(l, s.Y, make([]int, len(l.A))) {
			return false
		}
		bound, ok := wantedSum(l.Rhs, s.Y)
		return ok && bound.Sign() > 0
	case 3:
		if len(s.Y) > 0 || !wantedRows(l, s.X, l.Rhs) || !wantedRows(l, s.Z, make([]int, len(l.Rhs))) {
			return false
		}
		cost, ok := wantedSum(l.Cost, s.Z)
		return ok && cost.Sign() < 0
	}
	return false
}

// corners returns the x of a program none of whose elements is negative, and whose columns with other elements than 0 are independent.
func corners(rows [][]int, rhs []int) [][]*big.Rat {
	var out [][]*big.Rat
	n := len(rows[0])
	for set := range 1 << n {
		if x, ok := only(rows, rhs, set); ok && !slices.ContainsFunc(x, func(v *big.Rat) bool { return v.Sign() < 0 }) {
			out = append(out, x)
		}
	}
	return out
}

// only returns the only x with 0 outside of a set of columns that the rows send to rhs; false if there is none, or another one.
func only(rows [][]int, rhs []int, set int) ([]*big.Rat, bool) {
	var kept []int
	n := len(rows[0])
	for k := range n {
		if set>>k&1 == 1 {
			kept = append(kept, k)
		}
	}
	var form [][]*big.Rat
	for i, row := range rows {
		var line []*big.Rat
		for _, k := range kept {
			line = append(line, big.NewRat(int64(row[k]), 1))
		}
		form = append(form, append(line, big.NewRat(int64(rhs[i]), 1)))
	}
	for c := range kept { // Gauss and Jordan's elimination
		at := slices.IndexFunc(form[min(c, len(form)):], func(line []*big.Rat) bool { return line[c].Sign() != 0 })
		if at < 0 {
			return nil, false
		}
		form[c], form[c+at] = form[c+at], form[c]
		inverse := new(big.Rat).Inv(form[c][c])
		for _, v := range form[c] {
			v.Mul(v, inverse)
		}
		for i, line := range form {
			factor := new(big.Rat).Set(line[c])
			for k, v := range line {
				if i != c && factor.Sign() != 0 {
					v.Sub(v, new(big.Rat).Mul(factor, form[c][k]))
				}
			}
		}
	}
	x := make([]*big.Rat, n)
	for k := range x {
		x[k] = new(big.Rat)
	}
	for i, line := range form {
		value := line[len(kept)]
		if i < len(kept) {
			x[kept[i]] = value
		} else if value.Sign() != 0 {
			return nil, false
		}
	}
	return x, true
}

// costOf returns the cost of x.
func costOf(cost []int, x []*big.Rat) *big.Rat {
	sum := new(big.Rat)
	for k, v := range x {
		sum.Add(sum, new(big.Rat).Mul(v, big.NewRat(int64(cost[k]), 1)))
	}
	return sum
}

// wantedKind returns the Kind of a program of few columns, and its least cost: there is an x if there is a corner, and the cost falls without end if it does so along a corner of the directions whose elements have the sum 1.
func wantedKind(l api.Linear) (int, *big.Rat) {
	var rows [][]int
	for i := range l.Rhs {
		rows = append(rows, numbersOf(l, i))
	}
	var least *big.Rat
	for _, x := range corners(rows, l.Rhs) {
		if cost := costOf(l.Cost, x); least == nil || cost.Cmp(least) < 0 {
			least = cost
		}
	}
	if least == nil {
		return api.SoNone, nil
	}
	rows = append(rows, slices.Repeat([]int{1}, len(l.A)))
	for _, z := range corners(rows, append(make([]int, len(l.Rhs)), 1)) {
		if costOf(l.Cost, z).Sign() < 0 {
			return api.SoEndless, nil
		}
	}
	return api.SoBest, least
}

// clone returns a copy of a program.
func clone(l api.Linear) api.Linear {
	var columns [][]int
	for _, column := range l.A {
		columns = append(columns, slices.Clone(column))
	}
	return api.Linear{A: columns, Cost: slices.Clone(l.Cost), Rhs: slices.Clone(l.Rhs)}
}

// filled returns a program all of whose numbers are n.
func filled(rows, columns, n int) api.Linear {
	l := api.Linear{Cost: slices.Repeat([]int{n}, columns), Rhs: slices.Repeat([]int{n}, rows)}
	for range columns {
		l.A = append(l.A, slices.Repeat([]int{n}, rows))
	}
	return l
}

// every calls f with all lists of a size that have no other elements than these.
func every[E any](size int, elements []E, f func(l []E)) {
	l := make([]E, size)
	var fill func(place int)
	fill = func(place int) {
		if place == size {
			f(slices.Clone(l))
			return
		}
		for _, e := range elements {
			l[place] = e
			fill(place + 1)
		}
	}
	fill(0)
}

// small calls f with all programs of a few rows and columns of small numbers.
func small(f func(l api.Linear)) {
	all := func(rows, columns int, entries, costs, rhs []int) {
		every(rows*columns, entries, func(a []int) {
			every(columns, costs, func(cost []int) {
				every(rows, rhs, func(b []int) {
					l := api.Linear{Cost: cost, Rhs: b}
					for k := range columns {
						l.A = append(l.A, a[k*rows:][:rows:rows])
					}
					f(clone(l))
				})
			})
		})
	}
	all(1, 1, []int{-2, -1, 0, 1, 3}, []int{-2, 0, 1}, []int{-3, -1, 0, 2})
	all(1, 2, []int{-2, -1, 0, 1, 3}, []int{-2, 0, 1}, []int{-3, 0, 2})
	all(1, 3, []int{-1, 0, 2}, []int{-1, 2}, []int{-3, 0, 1})
	all(2, 1, []int{-2, 0, 1, 4}, []int{-1, 1}, []int{-2, 0, 1, 4})
	all(2, 2, []int{-1, 0, 2}, []int{-1, 0, 1}, []int{-2, 0, 1})
	all(2, 3, []int{-1, 0, 1}, []int{-1, 2}, []int{0, 1})
}

// edges returns programs at which something changes: with rows that follow from others, or contradict them, with columns that are 0 or equal, with many exchanges that do not lower the cost, with many that do, and of the greatest size and with the greatest numbers.
func edges() []api.Linear {
	out := []api.Linear{
		// rows of zeros, equal rows, multiples, sums, and the same with other Rhs
		program([][]int{{0}}, []int{0}, []int{1}), program([][]int{{0}}, []int{0}, []int{-1}), program([][]int{{0}}, []int{0}, []int{0}), program([][]int{{0}}, []int{1}, []int{-1}), program([][]int{{0}}, []int{-1}, []int{1}),
		program([][]int{{1, 2}, {1, 2}}, []int{4, 4}, []int{1, 1}), program([][]int{{1, 2}, {-2, -4}, {0, 0}}, []int{4, -8, 0}, []int{-1, -1}), program([][]int{{1, 2}, {1, 2}}, []int{4, 5}, []int{1, 1}), program([][]int{{1, 2}, {-1, -2}}, []int{4, 4}, []int{1, 1}),
		program([][]int{{1, 1, 0}, {0, 1, 1}, {1, 2, 1}}, []int{2, 3, 5}, []int{1, 1, 1}), program([][]int{{1, 1, 0}, {0, 1, 1}, {1, 2, 1}}, []int{2, 3, 6}, []int{1, 1, 1}), program([][]int{{1, 1, 0}, {0, 1, 1}, {1, 0, -1}}, []int{0, 0, 0}, []int{-1, 0, 0}),
		program([][]int{{1, 0, 0}, {1, 0, 0}, {1, 0, 0}, {0, 0, 0}, {-1, 0, 0}, {2, 0, 0}}, []int{1, 1, 1, 0, -1, 2}, []int{1, 1, 1}), program([][]int{{1, -1}, {1, -1}}, []int{0, 0}, []int{-1, 0}), program([][]int{{1, -1}, {1, -1}}, []int{0, 0}, []int{-1, 1}),
		// an auxiliary column that is left over and has to leave by a negative part
		program([][]int{{1, 1}, {-1, 1}}, []int{0, 0}, []int{1, -1}), program([][]int{{1, 0, 1}, {1, -1, 1}, {1, -1, -1}}, []int{1, 1, 1}, []int{0, -1, -1}), program([][]int{{2, 1, 1}, {2, 1, -1}, {2, -1, -1}}, []int{4, 4, 4}, []int{1, -5, 1}),
		// equal columns, columns of zeros, as many columns as rows, and fewer
		program([][]int{{1, 1, 1}}, []int{3}, []int{2, 2, 2}), program([][]int{{0, 1, 0}}, []int{3}, []int{2, 2, -1}), program([][]int{{1, 2}, {3, 4}}, []int{5, 11}, []int{1, 1}), program([][]int{{1, 2}, {3, 4}}, []int{5, 6}, []int{1, 1}), program([][]int{{1}, {2}, {3}}, []int{2, 4, 6}, []int{-7}), program([][]int{{1}, {2}, {3}}, []int{2, 4, 7}, []int{-7}),
		// those on which the rule of the greatest gain comes back to where it was: Beale's, Kuhn's and Chvátal's
		program([][]int{{1, 0, 0, 1, -32, -4, 36}, {0, 1, 0, 1, -24, -1, 6}, {0, 0, 1, 0, 0, 1, 0}}, []int{0, 0, 1}, []int{0, 0, 0, -3, 80, -2, 24}),
		program([][]int{{-2, -9, 1, 9, 1, 0}, {1, 3, -1, -6, 0, 3}}, []int{0, 0}, []int{-2, -3, 1, 12, 0, 0}), program([][]int{{-2, -9, 1, 9, 1, 0, 0}, {1, 3, -1, -6, 0, 3, 0}, {2, 3, -1, -12, 0, 0, 1}}, []int{0, 0, 2}, []int{-2, -3, 1, 12, 0, 0, 0}),
		program([][]int{{1, -11, -5, 18, 2, 0}, {1, -3, -1, 2, 0, 2}}, []int{0, 0}, []int{-10, 57, 9, 24, 0, 0}), program([][]int{{1, -11, -5, 18, 2, 0, 0}, {1, -3, -1, 2, 0, 2, 0}, {1, 0, 0, 0, 0, 0, 1}}, []int{0, 0, 1}, []int{-10, 57, 9, 24, 0, 0, 0}),
		// and those on which this happens if the first column enters, but another one than the first leaves, and again if that of the greatest gain enters
		{A: [][]int{{-7, 7}, {5, 1}, {4, 8}, {-6, -6}, {-9, -5}, {6, -3}}, Cost: []int{9, 7, -4, 4, -7, -3}, Rhs: []int{0, 0}},
		{A: [][]int{{1, 2, -2}, {-4, -2, -3}, {4, -1, -4}, {1, 0, 0}, {-3, -2, 2}, {-3, 1, 3}}, Cost: []int{1, -4, -2, 2, 2, 4}, Rhs: []int{0, 0, 1}},
		{A: [][]int{{-2, 1, -1}, {1, 2, 5}, {-1, -4, -3}, {5, 3, 2}, {-1, 0, 6}, {-5, 4, -2}}, Cost: []int{-3, -3, 1, 4, 2, 1}, Rhs: []int{0, 0, 0}},
		// the examples of the chapter
		program([][]int{{1, 1}}, []int{4}, []int{3, 5}), program([][]int{{1, -1}}, []int{4}, []int{-1, 0}), program([][]int{{1, 1}}, []int{-4}, []int{0, 0}), program([][]int{{1, 1}, {1, 1}}, []int{2, 3}, []int{0, 0}), program([][]int{{1, 2, 1, 0}, {3, 1, 0, 1}}, []int{4, 6}, []int{-1, -1, 0, 0}),
		// the greatest numbers
		program([][]int{{most, most - 1}, {most - 1, most - 2}}, []int{1, most}, []int{most, -most}), program([][]int{{most, -most}}, []int{-most}, []int{most, -most}), program([][]int{{-most}}, []int{most}, []int{most}), program([][]int{{most, 1}}, []int{1}, []int{-1, -most}),
		filled(1, 1, most), filled(6, 48, most), filled(6, 48, -most), filled(6, 48, 0), filled(6, 1, most), filled(1, 48, -most),
	}
	for n := 1; n <= 6; n++ {
		out = append(out, climb(n))
	}
	return append(out, greatest()...)
}

// climb returns Klee and Minty's program with n rows: a rule that always takes the greatest gain visits all of the 2^n corners.
func climb(n int) api.Linear {
	l := api.Linear{}
	power := 1
	for i := range n {
		column := make([]int, n)
		column[i] = 1
		for r := i + 1; r < n; r++ {
			column[r] = 1 << (r - i + 1)
		}
		l.A = append(l.A, column)
		l.Cost = append(l.Cost, -1<<(n-1-i))
		power *= 5
		l.Rhs = append(l.Rhs, power)
	}
	for i := range n {
		slack := make([]int, n)
		slack[i] = 1
		l.A = append(l.A, slack)
		l.Cost = append(l.Cost, 0)
	}
	return l
}

// greatest returns programs of 6 rows whose determinants are among the greatest.
func greatest() []api.Linear {
	// The rows of this matrix are as orthogonal as 6 rows of 1 and -1 can be (its determinant is 160).
	signs := [][]int{{1, 1, -1, 1, 1, -1}, {1, -1, -1, 1, -1, -1}, {1, -1, 1, -1, 1, -1}, {-1, 1, -1, -1, -1, -1}, {1, 1, -1, -1, -1, 1}, {-1, -1, -1, -1, 1, 1}}
	var out []api.Linear
	for _, columns := range []int{6, 12, 48} {
		for _, turn := range []int{1, -1} {
			l := api.Linear{}
			for k := range columns {
				column := make([]int, 6)
				for i := range column {
					column[i] = turn * signs[i][k%6] * (most - (k*k+i*k)%7*(k/6))
				}
				l.A = append(l.A, column)
				l.Cost = append(l.Cost, turn*(most-k))
			}
			for i := range 6 {
				l.Rhs = append(l.Rhs, most-i*i)
			}
			out = append(out, l)
			endless := clone(l)
			for k := range endless.Cost {
				endless.Cost[k] = within(endless.Cost[k] - turn*(k%2+1)*(most-5))
			}
			out = append(out, endless)
		}
	}
	return out
}

// chance returns programs of all sizes and kinds; the same ones for the same seed.
func chance(seed uint64) func(rows, columns int) api.Linear {
	r := rand.New(rand.NewPCG(seed, 6))
	entry := []func() int{
		func() int { return r.IntN(3) - 1 },
		func() int { return r.IntN(21) - 10 },
		func() int { return r.IntN(21) - 7 },
		func() int { return r.IntN(2*most+1) - most },
		func() int { return []int{most, -most, most - 1, 1 - most, 0, 1}[r.IntN(6)] },
	}
	return func(rows, columns int) api.Linear {
		next := entry[r.IntN(len(entry))]
		l := filled(rows, columns, 0)
		sums := make([]int, rows)
		for k, column := range l.A {
			for i := range column {
				column[i] = next()
				if k%(1+r.IntN(4)) == 0 {
					sums[i] += column[i]
				}
			}
			l.Cost[k] = next()
		}
		direct := r.IntN(3) == 0 // often there is an x: that with 1 for some of the columns
		for i := range l.Rhs {
			l.Rhs[i] = within(sums[i])
			if direct {
				l.Rhs[i] = next()
			}
		}
		if r.IntN(3) == 0 { // and often no costs below 0
			for k, n := range l.Cost {
				l.Cost[k] = max(n, -n)
			}
		}
		if rows > 1 && r.IntN(4) == 0 { // a row follows from two others, and perhaps its Rhs, too
			to, from, other := r.IntN(rows), r.IntN(rows), r.IntN(rows)
			for _, column := range l.A {
				column[to] = within(column[from] - column[other])
			}
			if r.IntN(3) > 0 {
				l.Rhs[to] = within(l.Rhs[from] - l.Rhs[other])
			}
		}
		return l
	}
}

// within returns n, or the nearest number of a program.
func within(n int) int {
	return max(-most, min(most, n))
}

// programs calls f with all edges, and with many programs of all sizes.
func programs(f func(l api.Linear)) {
	for _, l := range edges() {
		f(l)
	}
	next := chance(1)
	for rows := 1; rows <= 6; rows++ {
		for columns := 1; columns <= 12; columns++ {
			for range 12 {
				f(next(rows, columns))
			}
		}
		for _, columns := range []int{20, 33, 47, 48} {
			for range 5 {
				f(next(rows, columns))
			}
		}
	}
}

// faulty is a program with an error.
type faulty struct {
	l    api.Linear
	want api.Errno
}

// changed returns a copy of a program that f has changed.
func changed(l api.Linear, f func(l *api.Linear)) api.Linear {
	l = clone(l)
	f(&l)
	return l
}

// allFaulty returns programs with errors: each error by one element too many, too few or too great, and before those that come later.
func allFaulty() []faulty {
	out := []faulty{
		{api.Linear{}, api.ErrMany}, {filled(0, 1, 0), api.ErrMany}, {filled(1, 0, 0), api.ErrMany}, {filled(7, 1, 0), api.ErrMany}, {filled(7, 48, 1), api.ErrMany}, {filled(1, 49, 0), api.ErrMany}, {filled(6, 49, 1), api.ErrMany}, {filled(7, 49, most+1), api.ErrMany}, {filled(0, 48, 0), api.ErrMany}, {filled(6, 0, 0), api.ErrMany}, {filled(0, 0, 0), api.ErrMany},
		{api.Linear{A: make([][]int, 1<<16), Cost: make([]int, 1<<16), Rhs: make([]int, 1)}, api.ErrMany}, {api.Linear{A: make([][]int, 1), Cost: make([]int, 1), Rhs: make([]int, 1<<16)}, api.ErrMany},
		{api.Linear{A: [][]int{{1}}, Cost: []int{1}}, api.ErrMany}, {api.Linear{Cost: []int{1}, Rhs: []int{1}}, api.ErrMany}, {api.Linear{A: make([][]int, 49), Rhs: []int{1}}, api.ErrMany}, {api.Linear{A: [][]int{{1, 2, 3}}, Rhs: make([]int, 7)}, api.ErrMany},
		{api.Linear{A: [][]int{nil}, Rhs: []int{1}, Cost: []int{1}}, api.ErrForm}, {api.Linear{A: [][]int{{1}}, Rhs: []int{1}}, api.ErrForm},
	}
	add := func(l api.Linear, want api.Errno, f func(l *api.Linear)) {
		out = append(out, faulty{changed(l, f), want})
	}
	for _, size := range [][2]int{{1, 1}, {1, 2}, {2, 1}, {3, 5}, {6, 48}} {
		l := filled(size[0], size[1], most)
		add(l, api.ErrForm, func(l *api.Linear) { l.Cost = l.Cost[1:] })
		add(l, api.ErrForm, func(l *api.Linear) { l.Cost = append(l.Cost, 0) })
		add(l, api.ErrForm, func(l *api.Linear) { l.Cost = append(l.Cost, most+1); l.Rhs[0] = most + 1 })
		add(l, api.ErrForm, func(l *api.Linear) { l.Cost = make([]int, 1<<16) })
		for k := range size[1] {
			add(l, api.ErrForm, func(l *api.Linear) { l.A[k] = l.A[k][1:] })
			add(l, api.ErrForm, func(l *api.Linear) { l.A[k] = append(l.A[k], 0) })
			add(l, api.ErrForm, func(l *api.Linear) { l.A[k] = append(l.A[k], most+1); l.A[0][0] = most + 1 })
			add(l, api.ErrForm, func(l *api.Linear) { l.A[k] = append(l.A[k], 0); l.Rhs[0] = -most - 1; l.Cost[0] = most + 1 })
		}
		for _, n := range []int{most + 1, -most - 1, math.MaxInt, math.MinInt, 1 << 32, -1 << 32} {
			for k := range size[1] {
				add(l, api.ErrRange, func(l *api.Linear) { l.Cost[k] = n })
				for i := range size[0] {
					add(l, api.ErrRange, func(l *api.Linear) { l.A[k][i] = n })
				}
			}
			for i := range size[0] {
				add(l, api.ErrRange, func(l *api.Linear) { l.Rhs[i] = n })
			}
		}
	}
	return out
}

// texts returns the Texts of the lists of a solution.
func texts(s api.Solution) [3][]string {
	var out [3][]string
	for i, list := range [][]api.Ratio{s.X, s.Y, s.Z} {
		for _, r := range list {
			out[i] = append(out[i], ratio.Text(r))
		}
	}
	return out
}

// isZero reports whether a solution is the zero value, apart from empty slices.
func isZero(s api.Solution) bool {
	return s.Kind == 0 && len(s.X) == 0 && len(s.Y) == 0 && len(s.Z) == 0
}

// complain reports a wrong result for a program.
func complain(t *testing.T, call string, l api.Linear, got, want any) {
	t.Helper()
	t.Errorf("%s of %v: %v instead of %v", call, l, got, want)
}
