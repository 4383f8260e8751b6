package lp_test

import (
	"fmt"
	"math"
	"math/big"
	"math/rand/v2"
	"slices"
	"testing"

	"collet/api"
	"collet/lp"
	"collet/num"
	"collet/ratio"
)

func TestWhatCheckAcceptsIsTrue(t *testing.T) { // P6.5: for all small solutions, and all small x
	for _, l := range candidates() {
		kind, least := wantedKind(l)
		var xs [][]api.Ratio // feasible
		for _, x := range lists(len(l.A), append(ratios(0, 1, 2, 3, 4), fraction(1, 2), fraction(3, 2))...) {
			if wantedRows(l, x, l.Rhs) {
				xs = append(xs, x)
			}
		}
		if (kind == api.SoNone) != (len(xs) == 0) {
			t.Fatalf("the test expects what does not hold of %v", l)
		}
		grid(l, func(s api.Solution) {
			if !lp.Check(l, s) {
				return
			}
			if s.Kind != kind {
				complain(t, "Check", l, s.Kind, kind)
			}
			switch s.Kind {
			case api.SoBest:
				cost, _ := lp.Value(l, s.X)
				if rat(cost).Cmp(least) != 0 {
					complain(t, "Value of what Check accepts", l, ratio.Text(cost), least)
				}
				for _, x := range xs {
					if other, _ := lp.Value(l, x); ratio.Cmp(other, cost) < 0 {
						complain(t, "Value of what Check accepts", l, ratio.Text(cost), ratio.Text(other))
					}
				}
			case api.SoEndless:
				falls(t, l, s)
			}
		})
	}
}

// falls complains unless X plus multiples of Z are feasible, with costs that fall as much each time.
func falls(t *testing.T, l api.Linear, s api.Solution) {
	t.Helper()
	last, _ := lp.Value(l, s.X)
	fall, _ := lp.Value(l, s.Z)
	if ratio.Sign(fall) >= 0 {
		complain(t, "Value of Z", l, ratio.Text(fall), "less than 0")
	}
	x := s.X
	for range 4 {
		var next []api.Ratio
		for k, r := range x {
			sum, _ := ratio.Add(r, s.Z[k])
			next = append(next, sum)
		}
		cost, ok := lp.Value(l, next)
		if difference, _ := ratio.Sub(cost, last); !ok || ratio.Cmp(difference, fall) != 0 || !wantedRows(l, next, l.Rhs) {
			complain(t, "Check", l, texts(s), "no direction in which the cost falls")
		}
		x, last = next, cost
	}
}

func TestDirectionsOfSolve(t *testing.T) { // P6.5: for what Solve returns
	count := 0
	programs(func(l api.Linear) {
		if s, _ := lp.Solve(l); s.Kind == api.SoEndless {
			falls(t, l, s)
			count++
		}
	})
	if count < 100 {
		t.Errorf("only %d were tried", count)
	}
}

func TestNoPointIsBetterThanSolve(t *testing.T) { // P6.5: for corners, and points half way between them
	next := chance(7)
	for rows := 1; rows <= 3; rows++ {
		for columns := 2; columns <= 6; columns++ {
			for range 20 {
				l := next(rows, columns)
				s, _ := lp.Solve(l)
				var table [][]int
				for i := range l.Rhs {
					table = append(table, numbersOf(l, i))
				}
				all := corners(table, l.Rhs)
				if (len(all) == 0) != (s.Kind == api.SoNone) {
					complain(t, "Solve", l, s.Kind, len(all))
				}
				if s.Kind != api.SoBest {
					continue
				}
				cost, _ := lp.Value(l, s.X)
				for i, x := range all {
					middle := make([]*big.Rat, columns)
					for k, v := range x {
						middle[k] = new(big.Rat).Add(v, all[(i+1)%len(all)][k])
						middle[k].Mul(middle[k], big.NewRat(1, 2))
					}
					if costOf(l.Cost, x).Cmp(rat(cost)) < 0 || costOf(l.Cost, middle).Cmp(rat(cost)) < 0 {
						complain(t, "Solve", l, texts(s), x)
					}
				}
			}
		}
	}
}

// summary returns the Kind of a program and, with SoBest, its least cost.
func summary(t *testing.T, l api.Linear) string {
	t.Helper()
	s, e := lp.Solve(l)
	if e != api.OK || !lp.Check(l, s) {
		t.Fatalf("Solve of %v: %v, %d", l, texts(s), e)
	}
	if s.Kind != api.SoBest {
		return fmt.Sprint(s.Kind)
	}
	cost, _ := lp.Value(l, s.X)
	return fmt.Sprint(s.Kind, " ", ratio.Text(cost))
}

func TestOtherOrders(t *testing.T) { // P6.6: rows and columns in another order
	r := rand.New(rand.NewPCG(8, 6))
	programs(func(l api.Linear) {
		want := summary(t, l)
		for range 2 {
			other := clone(l)
			r.Shuffle(len(l.A), func(i, k int) {
				other.A[i], other.A[k] = other.A[k], other.A[i]
				other.Cost[i], other.Cost[k] = other.Cost[k], other.Cost[i]
			})
			r.Shuffle(len(l.Rhs), func(i, k int) {
				other.Rhs[i], other.Rhs[k] = other.Rhs[k], other.Rhs[i]
				for _, column := range other.A {
					column[i], column[k] = column[k], column[i]
				}
			})
			if got := summary(t, other); got != want {
				complain(t, "Solve", other, got, want)
			}
		}
	})
}

func TestMultiplesOfRows(t *testing.T) { // P6.6: rows that are multiplied
	r := rand.New(rand.NewPCG(9, 6))
	count := 0
	programs(func(l api.Linear) {
		want := summary(t, l)
		for _, factor := range []int{-1, 2, -3, 1000, -1 << 20} {
			other := clone(l)
			i := r.IntN(len(l.Rhs))
			other.Rhs[i] *= factor
			for _, column := range other.A {
				column[i] *= factor
			}
			if lp.Valid(other) != api.OK {
				continue
			}
			count++
			if got := summary(t, other); got != want {
				complain(t, "Solve", other, got, want)
			}
		}
	})
	if count < 1000 {
		t.Errorf("only %d were tried", count)
	}
}

// digits returns the digits of Ratios, as far as their memory goes.
func digits(l ...api.Ratio) [][]uint32 {
	var out [][]uint32
	for _, r := range l {
		out = append(out, r.N.D[:cap(r.N.D)], r.D.D[:cap(r.D.D)])
	}
	return out
}

// apart complains if two of some lists have an element in common.
func apart(t *testing.T, all [][]uint32) {
	t.Helper()
	seen := map[*uint32]bool{}
	for _, d := range all {
		for i := range d {
			if seen[&d[i]] {
				t.Fatal("two results share memory")
			}
			seen[&d[i]] = true
		}
	}
}

func TestNothingIsSharedOrChanged(t *testing.T) { // R3 of DOC.md, for P6.1 to P6.4
	programs(func(l api.Linear) {
		before := fmt.Sprint(l)
		lp.Valid(l)
		s, _ := lp.Solve(l)
		saved := texts(s)
		v, _ := lp.Value(l, s.X)
		lp.Check(l, s)
		if fmt.Sprint(l) != before || !slices.EqualFunc(pick(s), saved[:], slices.Equal) {
			t.Fatalf("%s and %v became %v and %v", before, saved, l, texts(s))
		}
		lists := digits(slices.Concat(s.X, s.Y, s.Z)...)
		apart(t, append(lists, digits(v)...))
		for _, list := range [][]api.Ratio{s.X[:cap(s.X)], s.Y[:cap(s.Y)], s.Z[:cap(s.Z)]} {
			clear(list)
		}
		for _, d := range lists {
			clear(d)
		}
		if again, _ := lp.Solve(l); fmt.Sprint(l) != before || !slices.EqualFunc(pick(again), saved[:], slices.Equal) {
			t.Fatalf("%s and %v became %v and %v when results were changed", before, saved, l, texts(again))
		}
	})
}

func TestNothingBehindListsIsChanged(t *testing.T) { // R3 of DOC.md, for P6.1 to P6.4
	longer := func(l []int) []int { return append(slices.Clone(l), 77)[:len(l)] }
	for _, l := range edges() {
		var all [][]int
		for k, column := range l.A {
			l.A[k] = longer(column)
			all = append(all, l.A[k])
		}
		l.Cost, l.Rhs = longer(l.Cost), longer(l.Rhs)
		l.A = append(slices.Clone(l.A), []int{78})[:len(l.A)]
		s, _ := lp.Solve(l)
		lp.Check(l, s)
		lp.Value(l, s.X)
		for _, list := range append(all, l.Cost, l.Rhs) {
			if n := len(list); list[:n+1][n] != 77 {
				t.Fatalf("behind a list of %v: %d", l, list[:n+1][n])
			}
		}
		if n := len(l.A); !slices.Equal(l.A[:n+1][n], []int{78}) {
			t.Fatalf("behind the columns of %v: %v", l, l.A[:n+1][n])
		}
	}
}

func TestNilAndEmpty(t *testing.T) { // R1 of DOC.md, for P6.1 to P6.4
	none := []api.Ratio{}
	programs(func(l api.Linear) {
		s, _ := lp.Solve(l)
		for _, list := range []*[]api.Ratio{&s.X, &s.Y, &s.Z} {
			if len(*list) > 0 {
				continue
			}
			for _, empty := range [][]api.Ratio{nil, none} {
				*list = empty
				if !lp.Check(l, s) {
					complain(t, "Check", l, s, true)
				}
			}
		}
	})
	for _, l := range []api.Linear{{}, {A: [][]int{}, Cost: []int{}, Rhs: []int{}}} {
		if e := lp.Valid(l); e != api.ErrMany {
			complain(t, "Valid", l, e, api.ErrMany)
		}
	}
	for _, column := range [][]int{nil, {}} {
		l := api.Linear{A: [][]int{column}, Cost: []int{1}, Rhs: []int{1}}
		if e := lp.Valid(l); e != api.ErrForm {
			complain(t, "Valid", l, e, api.ErrForm)
		}
		l = api.Linear{A: [][]int{{1}}, Cost: column, Rhs: []int{1}}
		if e := lp.Valid(l); e != api.ErrForm {
			complain(t, "Valid", l, e, api.ErrForm)
		}
		l = api.Linear{A: [][]int{{1}}, Cost: []int{1}, Rhs: column}
		if e := lp.Valid(l); e != api.ErrMany {
			complain(t, "Valid", l, e, api.ErrMany)
		}
	}
}

func TestNoPanic(t *testing.T) { // P1
	r := rand.New(rand.NewPCG(10, 6))
	numbers := []int{0, 1, -1, 2, most, -most, most + 1, -most - 1, math.MaxInt, math.MinInt}
	some := append(wrongRatios(), ratio.Int(0), ratio.Int(1), fraction(-7, 3), whole(long(64)), part(long(64)), part(power(33)), api.Ratio{N: num.Of(math.MinInt), D: num.Of(1)}, api.Ratio{N: num.Of(math.MinInt), D: num.Of(math.MaxInt)})
	list := func(size, bad int) []int {
		var out []int
		for range size {
			out = append(out, numbers[r.IntN(6+bad)])
		}
		return out
	}
	ratioList := func(sizes ...int) []api.Ratio {
		var out []api.Ratio
		for range sizes[r.IntN(len(sizes))] {
			out = append(out, some[r.IntN(len(some))])
		}
		return out
	}
	for range 20000 {
		rows, columns := []int{0, 1, 2, 3, 6, 7, 20}[r.IntN(7)], []int{0, 1, 2, 5, 48, 49}[r.IntN(6)]
		bad := max(0, r.IntN(9)-4)
		l := api.Linear{Cost: list(columns, bad), Rhs: list(rows, bad)}
		for range columns {
			size := rows
			if r.IntN(200) == 0 {
				size = r.IntN(9)
			}
			l.A = append(l.A, list(size, bad))
		}
		if r.IntN(50) == 0 {
			l.Cost = list(r.IntN(50), bad)
		}
		lp.Valid(l)
		s := api.Solution{Kind: r.IntN(6) - 1, X: ratioList(0, columns, columns, 1), Y: ratioList(0, rows, rows, 50), Z: ratioList(0, 0, columns, 3)}
		lp.Check(l, s)
		lp.Value(l, ratioList(columns, columns, 0, 60))
		if columns < 48 || r.IntN(10) == 0 {
			lp.Solve(l)
		}
	}
}
