package matrix_test

import (
	"fmt"
	"math"
	"math/rand/v2"
	"slices"
	"testing"

	"collet/api"
	"collet/matrix"
	"collet/num"
	"collet/ratio"
)

func TestRankCountsColumnsThatAreNotDependent(t *testing.T) { // P5.5
	matrices(func(rows [][]int) {
		rank, before := 0, 0
		for k := range columns(rows) {
			next := rankOf(t, rows, k+1)
			if next < before || next > before+1 {
				t.Errorf("Rank of %d columns of %v: %d, and of one less %d", k+1, rows, next, before)
			}
			if dependent(t, rows, k) != (next == before) {
				t.Errorf("the column %d of %v is dependent or not, and the rank increases or not: %d, %d", k, rows, before, next)
			}
			rank += next - before
			before = next
		}
		if got, _ := matrix.Rank(rows); got != rank {
			complain(t, "Rank", rows, got, rank)
		}
	})
}

// dependent reports whether a column is a combination of those before it: whether Kernel finds a relation that ends there, after all dependent ones before it were left out.
func dependent(t *testing.T, rows [][]int, column int) bool {
	t.Helper()
	var kept []int
	for k := range column + 1 {
		part := make([][]int, len(rows))
		for i, row := range rows {
			for _, c := range append(slices.Clone(kept), k) {
				part[i] = append(part[i], row[c])
			}
		}
		v, e := matrix.Kernel(part)
		if e != api.OK {
			t.Fatalf("Kernel of %v: %d", part, e)
		}
		if len(v) == 0 {
			kept = append(kept, k)
		} else if num.Cmp(v[len(kept)], num.Of(0)) <= 0 {
			complain(t, "Kernel", part, texts(v), "a relation that ends at the last column")
		}
	}
	return !slices.Contains(kept, column)
}

func TestRankOfTransposed(t *testing.T) { // P5.5
	matrices(func(rows [][]int) {
		if len(rows) > 8 {
			return
		}
		rank, _ := matrix.Rank(rows)
		if got, e := matrix.Rank(transposed(rows)); got != rank || e != api.OK {
			complain(t, "Rank", transposed(rows), got, rank)
		}
	})
}

func TestRankAfterRowsChange(t *testing.T) { // P5.5
	r := rand.New(rand.NewPCG(3, 9))
	matrices(func(rows [][]int) {
		rank, _ := matrix.Rank(rows)
		changed := clone(rows)
		r.Shuffle(len(changed), func(i, k int) { changed[i], changed[k] = changed[k], changed[i] })
		if got, e := matrix.Rank(changed); got != rank || e != api.OK {
			complain(t, "Rank", changed, got, rank)
		}
		if len(rows) < 2 {
			return
		}
		to := r.IntN(len(rows))
		from := (to + 1 + r.IntN(len(rows)-1)) % len(rows)
		factor := r.IntN(7) - 3
		for k := range changed[to] {
			sum := changed[to][k] + factor*changed[from][k]
			if sum != within(sum) {
				return
			}
			changed[to][k] = sum
			if k == columns(rows)-1 {
				if got, e := matrix.Rank(changed); got != rank || e != api.OK {
					complain(t, "Rank", changed, got, rank)
				}
			}
		}
	})
}

func TestKernelIsEmptyOnlyIfTheRankIsFull(t *testing.T) { // P5.6
	matrices(func(rows [][]int) {
		rank, _ := matrix.Rank(rows)
		v, _ := matrix.Kernel(rows)
		if (len(v) == 0) != (rank == columns(rows)) {
			t.Errorf("of %v: the rank is %d, and Kernel %v", rows, rank, texts(v))
		}
		if len(v) == 0 {
			return
		}
		var x []api.Ratio
		for _, n := range v {
			x = append(x, whole(n))
		}
		if got, ok := matrix.Times(rows, x); !ok || !sameRatios(got, ratios(make([]int, len(rows))...)) {
			complain(t, "Times and Kernel", rows, got, 0)
		}
		if !slices.ContainsFunc(x, func(r api.Ratio) bool { return ratio.Sign(r) != 0 }) {
			complain(t, "Kernel", rows, texts(v), "another vector than 0")
		}
	})
}

func TestSolveAndTimes(t *testing.T) { // P5.7
	matrices(func(rows [][]int) {
		if len(rows) != columns(rows) {
			return
		}
		rank, _ := matrix.Rank(rows)
		for _, b := range rightSides(len(rows)) {
			x, e := matrix.Solve(rows, b)
			if (e == api.ErrZero) != (rank < len(rows)) || e != api.ErrZero && e != api.OK {
				t.Errorf("of %v: the rank is %d, and Solve's error %d", rows, rank, e)
			}
			if e != api.OK {
				continue
			}
			if got, ok := matrix.Times(rows, x); !ok || !sameRatios(got, ratios(b...)) {
				complain(t, "Times and Solve", rows, got, b)
			}
		}
	})
}

func TestSolveIsLinear(t *testing.T) { // P5.7
	r := rand.New(rand.NewPCG(4, 9))
	next := chance(5)
	for n := range 9 {
		for range 40 {
			rows := next(n, n)
			factor := r.IntN(200) - 100
			var a, b, sum, multiple []int
			for range n {
				p, q := r.IntN(1<<24)-1<<23, r.IntN(1<<31)-1<<30
				a, b, sum, multiple = append(a, p), append(b, q), append(sum, p+q), append(multiple, factor*p)
			}
			x, e := matrix.Solve(rows, a)
			y, _ := matrix.Solve(rows, b)
			both, _ := matrix.Solve(rows, sum)
			scaled, _ := matrix.Solve(rows, multiple)
			if e != api.OK {
				continue
			}
			for i := range n {
				added, _ := ratio.Add(x[i], y[i])
				times, _ := ratio.Mul(ratio.Int(factor), x[i])
				if ratio.Cmp(added, both[i]) != 0 || ratio.Cmp(times, scaled[i]) != 0 {
					t.Errorf("Solve of %v with %v, %v and %d: %v, %v, %v, %v", rows, a, b, factor, x, y, both, scaled)
				}
			}
		}
	}
}

// results returns the digits of all that the functions make of a matrix, as far as their memory goes.
func results(rows [][]int, b []int, x []api.Ratio) [][]uint32 {
	kernel, _ := matrix.Kernel(rows)
	solution, _ := matrix.Solve(rows, b)
	products, _ := matrix.Times(rows, x)
	var out [][]uint32
	for _, n := range kernel {
		out = append(out, n.D[:cap(n.D)])
	}
	for _, r := range slices.Concat(solution, products) {
		out = append(out, r.N.D[:cap(r.N.D)], r.D.D[:cap(r.D.D)])
	}
	return out
}

func TestNothingIsSharedOrChanged(t *testing.T) { // R3 of DOC.md, for P5.1 to P5.4
	for _, rows := range edges() {
		for _, b := range rightSides(min(len(rows), 8)) {
			for _, x := range vectors(columns(rows)) {
				before := fmt.Sprint(rows, b, x)
				matrix.Rank(rows)
				all := results(rows, b, x)
				if text := fmt.Sprint(rows, b, x); text != before {
					t.Fatalf("%s became %s", before, text)
				}
				apart(t, all)
				for _, d := range all {
					clear(d)
				}
				if text := fmt.Sprint(rows, b, x); text != before {
					t.Fatalf("%s became %s when results were changed", before, text)
				}
			}
		}
	}
}

// apart complains if two of some lists have an element in common.
func apart(t *testing.T, all [][]uint32) {
	t.Helper()
	seen := map[*uint32]bool{}
	for _, d := range all {
		for i := range d {
			if seen[&d[i]] {
				t.Fatal("two results share memory")
			}
			seen[&d[i]] = true
		}
	}
}

func TestNothingBehindRowsIsChanged(t *testing.T) { // R3 of DOC.md, for P5.1 to P5.4
	for _, rows := range edges() {
		for i, row := range rows {
			rows[i] = append(slices.Clone(row), 77)[:len(row)]
		}
		for _, b := range rightSides(len(rows)) {
			matrix.Rank(rows)
			results(rows, b, ratios(make([]int, columns(rows))...))
		}
		for _, row := range rows {
			if n := len(row); row[:n+1][n] != 77 {
				t.Fatalf("behind a row of %v: %d", rows, row[:n+1][n])
			}
		}
	}
}

func TestSameCallsSameResults(t *testing.T) { // R1 and R4 of DOC.md
	for _, rows := range edges() {
		b := make([]int, len(rows))
		x := ratios(make([]int, columns(rows))...)
		first := fmt.Sprint(results(rows, b, x))
		for range 3 {
			if next := fmt.Sprint(results(rows, b, x)); next != first {
				t.Errorf("of %v: %s and %s", rows, first, next)
			}
		}
		if len(rows) > 0 && len(rows[0]) > 0 {
			continue
		}
		for i := range rows { // nil for an empty row, and nothing else changes
			rows[i] = nil
		}
		if next := fmt.Sprint(results(rows, b, nil)); next != first {
			t.Errorf("of %v: %s and %s", rows, first, next)
		}
	}
}

func TestNoPanic(t *testing.T) { // P1
	r := rand.New(rand.NewPCG(6, 9))
	numbers := []int{0, 1, -1, most, -most, most + 1, -most - 1, math.MaxInt, math.MinInt}
	right := append(vectors(9)[5], api.Ratio{}, part(api.Num{}), whole(api.Num{Neg: true}), whole(power(64)))
	for range 20000 {
		rows := make([][]int, []int{0, 1, 2, 3, 8, 9, 48, 49, 50}[r.IntN(9)])
		n := r.IntN(11)
		for i := range rows {
			size := n
			if r.IntN(60) == 0 {
				size = r.IntN(11)
			}
			for range size {
				rows[i] = append(rows[i], numbers[r.IntN(5+r.IntN(5))])
			}
		}
		var b []int
		var x []api.Ratio
		for range r.IntN(11) {
			b = append(b, numbers[r.IntN(len(numbers))])
		}
		for range []int{n, n, r.IntN(11)}[r.IntN(3)] {
			x = append(x, right[r.IntN(len(right))])
		}
		matrix.Rank(rows)
		results(rows, b, x)
	}
}
