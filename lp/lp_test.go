package lp_test

import (
	"slices"
	"testing"

	"collet/api"
	"collet/lp"
	"collet/num"
	"collet/ratio"
)

func TestValid(t *testing.T) { // P6.1
	programs(func(l api.Linear) {
		if e := lp.Valid(l); e != api.OK {
			complain(t, "Valid", l, e, api.OK)
		}
	})
	for rows := range 9 {
		for columns := range 51 {
			want := api.OK
			if rows < 1 || rows > 6 || columns < 1 || columns > 48 {
				want = api.ErrMany
			}
			for _, n := range []int{0, most, -most} {
				if e := lp.Valid(filled(rows, columns, n)); e != want {
					t.Errorf("Valid with %d rows and %d columns of %d: %d instead of %d", rows, columns, n, e, want)
				}
			}
		}
	}
	for i, x := range allFaulty() {
		if e := lp.Valid(x.l); e != x.want {
			t.Errorf("%d: Valid: %d instead of %d", i, e, x.want)
		}
	}
}

func TestFaultyPrograms(t *testing.T) { // P6.2 to P6.4: the error of Valid, or false
	for i, x := range allFaulty() {
		if s, e := lp.Solve(x.l); e != x.want || !isZero(s) {
			t.Errorf("%d: Solve: %v, %d instead of %d", i, s, e, x.want)
		}
		zeros, ones := ratios(make([]int, len(x.l.Rhs))...), ratios(make([]int, len(x.l.A))...)
		for _, s := range []api.Solution{{}, {Kind: api.SoBest}, {Kind: api.SoNone}, {Kind: api.SoEndless}, {Kind: api.SoBest, X: ones, Y: zeros}, {Kind: api.SoNone, Y: zeros}, {Kind: api.SoEndless, X: ones, Z: ones}} {
			if lp.Check(x.l, s) {
				t.Errorf("%d: Check accepts %v", i, s)
			}
		}
		for _, size := range []int{0, 1, len(x.l.A), len(x.l.Cost), len(x.l.Rhs)} {
			if v, ok := lp.Value(x.l, ratios(make([]int, size)...)); ok || len(v.D.D) > 0 {
				t.Errorf("%d: Value with %d elements: %v, %v", i, size, v, ok)
			}
		}
	}
	// proofs that would be accepted if the program had no error
	one := ratios(1)
	far := api.Linear{A: [][]int{{most + 1}}, Cost: []int{1}, Rhs: []int{most + 1}}
	if lp.Check(far, api.Solution{Kind: api.SoBest, X: one, Y: []api.Ratio{fraction(1, most+1)}}) {
		t.Error("Check accepts a program with numbers that are too great")
	}
	if lp.Check(filled(1, 49, 0), api.Solution{Kind: api.SoBest, X: ratios(make([]int, 49)...), Y: ratios(0)}) || lp.Check(filled(7, 1, 0), api.Solution{Kind: api.SoBest, X: ratios(0), Y: ratios(make([]int, 7)...)}) {
		t.Error("Check accepts a program with too many rows or columns")
	}
}

// solve returns what Solve returns for a program without an error; it complains unless this has a form that the chapter describes, and proves what it says.
func solve(t *testing.T, l api.Linear) api.Solution {
	t.Helper()
	s, e := lp.Solve(l)
	if e != api.OK {
		t.Fatalf("Solve of %v: %d", l, e)
	}
	if !wantedCheck(l, s) {
		complain(t, "Solve", l, texts(s), "a solution")
	}
	if !lp.Check(l, s) {
		complain(t, "Check of Solve", l, texts(s), true)
	}
	return s
}

func TestSolve(t *testing.T) { // P6.2
	kinds := map[int]int{}
	programs(func(l api.Linear) { kinds[solve(t, l).Kind]++ })
	if kinds[1] < 100 || kinds[2] < 100 || kinds[3] < 100 {
		t.Errorf("not all kinds of solutions were tried: %v", kinds)
	}
}

func TestSolveAsCornersSay(t *testing.T) { // P6.2: the Kind and the least cost, without proofs
	kinds := map[int]int{}
	check := func(l api.Linear) {
		if len(l.A) > 8 {
			return
		}
		kind, cost := wantedKind(l)
		kinds[kind]++
		s := solve(t, l)
		if s.Kind != kind {
			complain(t, "Solve", l, s.Kind, kind)
		} else if kind == api.SoBest {
			if v, ok := lp.Value(l, s.X); !ok || rat(v).Cmp(cost) != 0 {
				complain(t, "Solve", l, texts(s), cost)
			}
		}
	}
	small(check)
	for _, l := range edges() {
		check(l)
	}
	next := chance(2)
	for rows := 1; rows <= 6; rows++ {
		for columns := 1; columns <= 8; columns++ {
			for range 8 {
				check(next(rows, columns))
			}
		}
	}
	if kinds[1] < 1000 || kinds[2] < 1000 || kinds[3] < 1000 {
		t.Errorf("not all kinds of programs were tried: %v", kinds)
	}
}

func TestSolveExamples(t *testing.T) { // P6.2
	for _, x := range []struct {
		l    api.Linear
		want api.Solution // what is not given here is one of several possibilities
		cost string
	}{
		{program([][]int{{1, 1}}, []int{4}, []int{3, 5}), api.Solution{Kind: api.SoBest, X: parse("4", "0"), Y: parse("3")}, "12"},
		{program([][]int{{1, -1}}, []int{4}, []int{-1, 0}), api.Solution{Kind: api.SoEndless}, ""},
		{program([][]int{{1, 1}}, []int{-4}, []int{0, 0}), api.Solution{Kind: api.SoNone}, ""},
		{program([][]int{{1, 1}, {1, 1}}, []int{2, 3}, []int{0, 0}), api.Solution{Kind: api.SoNone}, ""},
		{program([][]int{{1, 2, 1, 0}, {3, 1, 0, 1}}, []int{4, 6}, []int{-1, -1, 0, 0}), api.Solution{Kind: api.SoBest, X: parse("8/5", "6/5", "0", "0"), Y: parse("-2/5", "-1/5")}, "-14/5"},
		{program([][]int{{0}}, []int{0}, []int{0}), api.Solution{Kind: api.SoBest}, "0"},
		{program([][]int{{0}}, []int{0}, []int{-1}), api.Solution{Kind: api.SoEndless}, ""},
		{program([][]int{{0}}, []int{1}, []int{-1}), api.Solution{Kind: api.SoNone}, ""},
		{program([][]int{{0}}, []int{-1}, []int{-1}), api.Solution{Kind: api.SoNone}, ""},
		{program([][]int{{-3}}, []int{-7}, []int{2}), api.Solution{Kind: api.SoBest, X: parse("7/3"), Y: parse("-2/3")}, "14/3"},
		{program([][]int{{most}}, []int{1}, []int{-most}), api.Solution{Kind: api.SoBest, X: []api.Ratio{fraction(1, most)}, Y: parse("-1")}, "-1"},
		{program([][]int{{1, 1}, {1, -1}}, []int{3, 1}, []int{0, 1}), api.Solution{Kind: api.SoBest, X: parse("2", "1"), Y: parse("1/2", "-1/2")}, "1"},
		{program([][]int{{1, 0, 0, 1, -32, -4, 36}, {0, 1, 0, 1, -24, -1, 6}, {0, 0, 1, 0, 0, 1, 0}}, []int{0, 0, 1}, []int{0, 0, 0, -3, 80, -2, 24}), api.Solution{Kind: api.SoBest}, "-5"},
		{climb(6), api.Solution{Kind: api.SoBest, X: parse("0", "0", "0", "0", "0", "15625", "5", "25", "125", "625", "3125", "0"), Y: parse("0", "0", "0", "0", "0", "-1")}, "-15625"},
	} {
		s := solve(t, x.l)
		if s.Kind != x.want.Kind || len(x.want.X) > 0 && !slices.Equal(texts(s)[0], texts(x.want)[0]) || len(x.want.Y) > 0 && !slices.Equal(texts(s)[1], texts(x.want)[1]) {
			complain(t, "Solve", x.l, texts(s), texts(x.want))
		}
		if v, ok := lp.Value(x.l, s.X); s.Kind == api.SoBest && (!ok || ratio.Text(v) != x.cost) {
			complain(t, "Value of Solve", x.l, ratio.Text(v), x.cost)
		}
	}
}

func TestSolveSaysTheSameAgain(t *testing.T) { // P6.2
	programs(func(l api.Linear) {
		first := solve(t, l)
		for range 2 {
			if s, e := lp.Solve(clone(l)); e != api.OK || s.Kind != first.Kind || !slices.EqualFunc(pick(s), pick(first), slices.Equal) {
				complain(t, "Solve", l, texts(s), texts(first))
			}
		}
	})
}

// pick returns the Texts of all lists.
func pick(s api.Solution) [][]string {
	l := texts(s)
	return l[:]
}

func TestValue(t *testing.T) { // P6.4
	elements := []api.Ratio{ratio.Int(0), ratio.Int(1), ratio.Int(-2), fraction(1, 3), fraction(-5, 2), whole(long(20)), part(long(30)), whole(long(64)), part(power(33))}
	count := map[bool]int{}
	programs(func(l api.Linear) {
		for shift := range elements {
			var x []api.Ratio
			for k := range l.A {
				x = append(x, elements[(k*k+k*shift+shift)%(shift+1)])
			}
			want, ok := wantedSum(l.Cost, x)
			count[ok]++
			if v, got := lp.Value(l, x); got != ok || ok && (!isRight(v) || rat(v).Cmp(want) != 0) || !ok && (len(v.N.D) > 0 || len(v.D.D) > 0) {
				complain(t, "Value", l, ratio.Text(v), want)
			}
		}
	})
	if count[true] == 0 || count[false] == 0 {
		t.Errorf("only one kind of results was tried: %v", count)
	}
}

func TestValueExamples(t *testing.T) { // P6.4: literal values; x need not be feasible
	most64, half := whole(long(64)), part(power(33))
	for i, x := range []struct {
		cost []int
		x    []api.Ratio
		want string // empty: false
	}{
		{[]int{3, 5}, ratios(4, 0), "12"}, {[]int{3, 5}, ratios(-1, -1), "-8"}, {[]int{3, 5}, parse("1/3", "1/5"), "2"}, {[]int{-1, -1, 0, 0}, parse("8/5", "6/5", "0", "0"), "-14/5"}, {[]int{0}, ratios(7), "0"}, {[]int{most, -most}, parse("1/2", "-1"), "3221225472"},
		{[]int{3, 5}, ratios(4), ""}, {[]int{3, 5}, ratios(4, 0, 0), ""}, {[]int{3, 5}, nil, ""}, {[]int{3}, make([]api.Ratio, 1<<16), ""},
		{[]int{1}, []api.Ratio{most64}, ratio.Text(most64)}, {[]int{-1}, []api.Ratio{most64}, "-" + ratio.Text(most64)}, {[]int{2}, []api.Ratio{most64}, ""}, {[]int{2}, []api.Ratio{{N: long(64), D: num.Of(2)}}, ""}, // a product that is reduced only afterwards
		{[]int{1, 1}, []api.Ratio{most64, ratio.Int(1)}, ""}, {[]int{1, 1, 1}, []api.Ratio{most64, ratio.Int(1), ratio.Int(-1)}, ""}, {[]int{1, 1, 1}, []api.Ratio{most64, ratio.Int(-1), ratio.Int(1)}, ratio.Text(most64)}, // in order
		{[]int{1, -1}, []api.Ratio{half, half}, ""}, {[]int{1, 0}, []api.Ratio{half, half}, ratio.Text(half)}, // a D that is too long
	} {
		l := filled(1, len(x.cost), 1)
		l.Cost = x.cost
		if v, ok := lp.Value(l, x.x); ok != (x.want != "") || ratio.Text(v) != x.want {
			t.Errorf("%d: Value: %s, %v instead of %s", i, ratio.Text(v), ok, x.want)
		}
	}
}

func TestValueOfWrongRatios(t *testing.T) { // P6.4
	for columns := 1; columns <= 4; columns++ {
		for _, n := range []int{0, 1, -3} {
			l := filled(1, columns, n)
			for k := range columns {
				for _, w := range wrongRatios() {
					x := ratios(make([]int, columns)...)
					x[k] = w
					if v, ok := lp.Value(l, x); ok || len(v.D.D) > 0 {
						t.Errorf("Value of %v with %v: %v, %v", l, x, v, ok)
					}
				}
			}
		}
	}
}
