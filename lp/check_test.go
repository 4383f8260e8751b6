package lp_test

import (
	"slices"
	"testing"

	"collet/api"
	"collet/lp"
	"collet/num"
	"collet/ratio"
)

// checked complains unless Check says of a solution what the chapter says; it returns that.
func checked(t *testing.T, l api.Linear, s api.Solution) bool {
	t.Helper()
	want := wantedCheck(l, s)
	if got := lp.Check(l, s); got != want {
		t.Errorf("Check of %v with %d, %v: %v instead of %v", l, s.Kind, texts(s), got, want)
	}
	return want
}

// lists returns all lists of a size with some small elements.
func lists(size int, elements ...api.Ratio) [][]api.Ratio {
	var out [][]api.Ratio
	every(size, elements, func(l []api.Ratio) { out = append(out, l) })
	return out
}

// candidates returns programs of which all of some small solutions are tried; each has several solutions that Check accepts, and many that it nearly does.
func candidates() []api.Linear {
	return []api.Linear{
		program([][]int{{1, 1}}, []int{2}, []int{1, 1}), program([][]int{{1, 2}}, []int{2}, []int{1, -1}), program([][]int{{1, -1}}, []int{1}, []int{-1, 0}), program([][]int{{1, -1}}, []int{0}, []int{1, -1}), program([][]int{{-1, -1}}, []int{1}, []int{1, 1}), program([][]int{{-1, 0}}, []int{2}, []int{-1, 1}), program([][]int{{0, 0}}, []int{0}, []int{-1, 2}),
		program([][]int{{1}, {1}}, []int{1, 1}, []int{-1}), program([][]int{{1}, {1}}, []int{1, 2}, []int{1}), program([][]int{{1}, {0}}, []int{1, -1}, []int{1}), program([][]int{{2}, {-2}}, []int{1, -1}, []int{0}), program([][]int{{0}, {0}}, []int{0, 0}, []int{-1}),
		program([][]int{{1}}, []int{1}, []int{1}), program([][]int{{1}}, []int{-1}, []int{1}), program([][]int{{0}}, []int{0}, []int{-2}), program([][]int{{0}}, []int{0}, []int{0}),
	}
}

// grid calls f with all small solutions of a program, of all kinds, and with lists that are missing or not mentioned, or of a wrong length.
func grid(l api.Linear, f func(s api.Solution)) {
	elements := append(ratios(-1, 0, 1, 2), fraction(1, 2), fraction(-1, 2))
	of := func(size int) [][]api.Ratio {
		out := append(lists(size, elements...), nil, slices.Repeat(ratios(0), size+1))
		if size > 1 {
			out = append(out, lists(size-1, elements...)...)
		}
		return out
	}
	few := [][]api.Ratio{nil, ratios(0), ratios(1, 1)}
	columns, rows := of(len(l.A)), of(len(l.Rhs))
	try := func(kinds []int, xs, ys, zs [][]api.Ratio) {
		for _, x := range xs {
			for _, y := range ys {
				for _, z := range zs {
					for _, kind := range kinds {
						f(api.Solution{Kind: kind, X: x, Y: y, Z: z})
					}
				}
			}
		}
	}
	try([]int{api.SoBest, api.SoNone, 0}, columns, rows, few)
	try([]int{api.SoNone, api.SoBest, -1}, few, rows, few)
	try([]int{api.SoEndless, api.SoBest, 4}, columns, few, columns)
}

func TestCheckOfAllSmallSolutions(t *testing.T) { // P6.3
	for _, l := range candidates() {
		count := map[bool]int{}
		grid(l, func(s api.Solution) { count[checked(t, l, s)]++ })
		if count[true] == 0 || count[false] == 0 {
			t.Errorf("only one kind of results was tried for %v: %v", l, count)
		}
	}
}

// moves returns a list with one element changed, left out, put in, or replaced by one that is not right.
func moves(l []api.Ratio) [][]api.Ratio {
	steps := append(parse("1", "-1", "1/1000000007", "-1/1000000007"), part(num.Of(most)), opposite(part(num.Of(most))))
	out := [][]api.Ratio{append(slices.Clone(l), ratio.Int(0))}
	for k, r := range l {
		out = append(out, slices.Delete(slices.Clone(l), k, k+1))
		add := func(r api.Ratio) {
			other := slices.Clone(l)
			other[k] = r
			out = append(out, other)
		}
		for _, step := range steps {
			sum, _ := ratio.Add(r, step)
			add(sum)
		}
		add(opposite(r))
		if k%5 == 0 {
			for _, w := range wrongRatios() {
				add(w)
			}
		}
	}
	return out
}

func TestCheckOfChangedSolutions(t *testing.T) { // P6.3
	count := map[bool]int{}
	next := chance(3)
	check := func(l api.Linear) {
		s, _ := lp.Solve(l)
		try := func(kind int, x, y, z []api.Ratio) {
			count[checked(t, l, api.Solution{Kind: kind, X: x, Y: y, Z: z})]++
		}
		for kind := range 5 {
			try(kind, s.X, s.Y, s.Z)
		}
		for _, x := range moves(s.X) {
			try(s.Kind, x, s.Y, s.Z)
		}
		for _, y := range moves(s.Y) {
			try(s.Kind, s.X, y, s.Z)
		}
		for _, z := range moves(s.Z) {
			try(s.Kind, s.X, s.Y, z)
		}
		for k := range l.Cost { // the same for another program
			for _, step := range []int{1, -1} {
				other := clone(l)
				other.Cost[k] = within(other.Cost[k] + step)
				checked(t, other, s)
			}
		}
		for i := range l.Rhs {
			other := clone(l)
			other.Rhs[i] = within(other.Rhs[i] + 1)
			checked(t, other, s)
			for k := range l.A {
				other := clone(l)
				other.A[k][i] = within(other.A[k][i] - 1)
				checked(t, other, s)
			}
		}
	}
	for _, l := range edges() {
		if len(l.A) < 13 {
			check(l)
		}
	}
	for rows := 1; rows <= 6; rows++ {
		for columns := 1; columns <= 6; columns++ {
			for range 8 {
				check(next(rows, columns))
			}
		}
	}
	if count[true] < 500 || count[false] < 500 {
		t.Errorf("not all kinds of results were tried: %v", count)
	}
}

func TestCheckExamples(t *testing.T) { // P6.3: each condition of each form, alone
	two := program([][]int{{1, 1}}, []int{4}, []int{3, 5})
	free := program([][]int{{1, -1}}, []int{4}, []int{-1, 0})
	none := program([][]int{{1, 1}, {1, 1}}, []int{2, 3}, []int{0, 0})
	for i, x := range []struct {
		l    api.Linear
		s    api.Solution
		want bool
	}{
		{two, api.Solution{Kind: api.SoBest, X: ratios(4, 0), Y: ratios(3)}, true},
		{two, api.Solution{Kind: api.SoBest, X: ratios(4, 0), Y: ratios(3), Z: []api.Ratio{}}, true},
		{two, api.Solution{Kind: api.SoBest, X: ratios(4, 0), Y: ratios(3), Z: ratios(0, 0)}, false}, // a list that is not mentioned
		{two, api.Solution{Kind: api.SoBest, X: ratios(4), Y: ratios(3)}, false},
		{two, api.Solution{Kind: api.SoBest, X: ratios(4, 0, 0), Y: ratios(3)}, false},
		{two, api.Solution{Kind: api.SoBest, X: ratios(4, 0), Y: ratios(3, 0)}, false},
		{two, api.Solution{Kind: api.SoBest, X: ratios(4, 0)}, false},
		{two, api.Solution{Kind: api.SoBest, Y: ratios(3)}, false},
		{two, api.Solution{Kind: api.SoBest, X: ratios(6, -2), Y: ratios(2)}, false},                  // a negative element; the costs are equal
		{two, api.Solution{Kind: api.SoBest, X: parse("5", "0"), Y: parse("15/4")}, false},            // another sum; the costs are equal
		{two, api.Solution{Kind: api.SoBest, X: ratios(0, 4), Y: ratios(5)}, false},                   // a price that is greater than a cost; the costs are equal
		{two, api.Solution{Kind: api.SoBest, X: ratios(0, 4), Y: ratios(3)}, false},                   // a greater cost
		{two, api.Solution{Kind: api.SoBest, X: ratios(4, 0), Y: ratios(2)}, false},                   // a lesser bound
		{two, api.Solution{Kind: api.SoBest, X: parse("4", "0"), Y: parse("5/2")}, false},             // a lesser bound
		{two, api.Solution{Kind: api.SoBest, X: []api.Ratio{ratio.Int(4), {}}, Y: parse("3")}, false}, // a Ratio that is not right
		{two, api.Solution{Kind: 0, X: ratios(4, 0), Y: ratios(3)}, false},
		{two, api.Solution{Kind: 4, X: ratios(4, 0), Y: ratios(3)}, false},
		{two, api.Solution{Kind: -1, X: ratios(4, 0), Y: ratios(3)}, false},
		{two, api.Solution{}, false},
		{program([][]int{{1, 1}}, []int{-4}, []int{0, 0}), api.Solution{Kind: api.SoNone, Y: ratios(-1)}, true},
		{program([][]int{{1, 2, 1, 0}, {3, 1, 0, 1}}, []int{4, 6}, []int{-1, -1, 0, 0}), api.Solution{Kind: api.SoBest, X: parse("8/5", "6/5", "0", "0"), Y: parse("-2/5", "-1/5")}, true},
		{free, api.Solution{Kind: api.SoEndless, X: ratios(4, 0), Z: ratios(1, 1)}, true},
		{free, api.Solution{Kind: api.SoEndless, X: parse("9/2", "1/2"), Z: parse("1/3", "1/3")}, true},
		{free, api.Solution{Kind: api.SoEndless, X: ratios(4, 0), Z: ratios(0, 0)}, false}, // the cost stays
		{free, api.Solution{Kind: api.SoEndless, X: ratios(4, 0), Z: ratios(-1, -1)}, false},
		{free, api.Solution{Kind: api.SoEndless, X: ratios(4, 0), Z: ratios(2, 1)}, false}, // not to 0
		{free, api.Solution{Kind: api.SoEndless, X: ratios(5, 0), Z: ratios(1, 1)}, false},
		{free, api.Solution{Kind: api.SoEndless, X: ratios(3, -1), Z: ratios(1, 1)}, false},
		{free, api.Solution{Kind: api.SoEndless, X: ratios(4, 0), Y: ratios(0), Z: ratios(1, 1)}, false}, // a list that is not mentioned
		{free, api.Solution{Kind: api.SoEndless, X: ratios(4, 0), Z: ratios(1)}, false},
		{free, api.Solution{Kind: api.SoEndless, X: ratios(4), Z: ratios(1, 1)}, false},
		{free, api.Solution{Kind: api.SoEndless, X: ratios(4, 0)}, false},
		{free, api.Solution{Kind: api.SoEndless, Z: ratios(1, 1)}, false},
		{program([][]int{{0, 0}}, []int{0}, []int{-1, 3}), api.Solution{Kind: api.SoEndless, X: ratios(0, 0), Z: ratios(3, -1)}, false}, // negative, though it is led to 0, and the cost falls
		{program([][]int{{1, -1}}, []int{4}, []int{1, -1}), api.Solution{Kind: api.SoEndless, X: ratios(4, 0), Z: ratios(1, 1)}, false}, // the cost stays
		{program([][]int{{1, -1}}, []int{4}, []int{1, 0}), api.Solution{Kind: api.SoEndless, X: ratios(4, 0), Z: ratios(1, 1)}, false},  // the cost rises
		{none, api.Solution{Kind: api.SoNone, Y: ratios(-1, 1)}, true},
		{none, api.Solution{Kind: api.SoNone, Y: parse("-5/4", "1")}, true},
		{none, api.Solution{Kind: api.SoNone, Y: ratios(-3, 2)}, false}, // 0
		{none, api.Solution{Kind: api.SoNone, Y: ratios(-2, 1)}, false}, // less than 0
		{none, api.Solution{Kind: api.SoNone, Y: ratios(0, 1)}, false},  // columns greater than 0
		{none, api.Solution{Kind: api.SoNone, Y: ratios(-1, 1), X: ratios(0, 0)}, false},
		{none, api.Solution{Kind: api.SoNone, Y: ratios(-1, 1), Z: ratios(0, 0)}, false},
		{none, api.Solution{Kind: api.SoNone, Y: ratios(-1)}, false},
		{none, api.Solution{Kind: api.SoNone, Y: ratios(-1, 1, 0)}, false},
		{none, api.Solution{Kind: api.SoNone}, false},
		{program([][]int{{1, 1}, {1, 1}}, []int{2, 3}, []int{9, 9}), api.Solution{Kind: api.SoNone, Y: ratios(0, 1)}, false}, // at most the cost, but not 0
	} {
		if got := lp.Check(x.l, x.s); got != x.want {
			t.Errorf("%d: Check: %v instead of %v", i, got, x.want)
		}
	}
}

func TestCheckOfSumsThatAreTooLong(t *testing.T) { // P6.3: a sum that is not there, in each place where one is needed
	great, small := whole(long(64)), part(power(33))
	one := program([][]int{{1, 0}}, []int{1}, []int{0, 0})
	for i, x := range []struct {
		l    api.Linear
		s    api.Solution
		want bool
	}{
		{one, api.Solution{Kind: api.SoBest, X: []api.Ratio{ratio.Int(1), great}, Y: ratios(0)}, true}, // 64 digits fit
		{one, api.Solution{Kind: api.SoBest, X: []api.Ratio{ratio.Int(1), small}, Y: ratios(0)}, true},
		{program([][]int{{1, 0}}, []int{1}, []int{0, -1}), api.Solution{Kind: api.SoEndless, X: []api.Ratio{ratio.Int(1), great}, Z: []api.Ratio{ratio.Int(0), great}}, true},
		{program([][]int{{1}, {0}}, []int{-1, 0}, []int{0}), api.Solution{Kind: api.SoNone, Y: []api.Ratio{ratio.Int(-1), great}}, true},
		// rows of X: a product, a sum, and a D that is too long
		{program([][]int{{1, 2, -2}}, []int{1}, []int{0, 0, 0}), api.Solution{Kind: api.SoBest, X: []api.Ratio{ratio.Int(1), great, great}, Y: ratios(0)}, false},
		{program([][]int{{1, 1, -1}}, []int{1}, []int{0, 0, 0}), api.Solution{Kind: api.SoBest, X: []api.Ratio{ratio.Int(1), great, great}, Y: ratios(0)}, false},
		{program([][]int{{1, -1, 1}}, []int{1}, []int{0, 0, 0}), api.Solution{Kind: api.SoBest, X: []api.Ratio{ratio.Int(1), great, great}, Y: ratios(0)}, true}, // the order counts
		{program([][]int{{1, 1, -1}}, []int{1}, []int{0, 0, 0}), api.Solution{Kind: api.SoBest, X: []api.Ratio{ratio.Int(1), small, small}, Y: ratios(0)}, false},
		{program([][]int{{1, 0, 0}, {0, 1, -1}}, []int{1, 0}, []int{0, 0, 0}), api.Solution{Kind: api.SoBest, X: []api.Ratio{ratio.Int(1), small, small}, Y: ratios(0, 0)}, false}, // in the second row
		{program([][]int{{1, 1, -1}}, []int{1}, []int{0, -1, -1}), api.Solution{Kind: api.SoEndless, X: []api.Ratio{ratio.Int(1), small, small}, Z: ratios(0, 1, 1)}, false},
		// the cost of X; and Rhs times Y
		{program([][]int{{1, 0, 0}}, []int{1}, []int{0, 1, 1}), api.Solution{Kind: api.SoBest, X: []api.Ratio{ratio.Int(1), small, small}, Y: ratios(0)}, false},
		{program([][]int{{1, 0, 0}}, []int{1}, []int{0, 1, 2}), api.Solution{Kind: api.SoBest, X: []api.Ratio{ratio.Int(1), ratio.Int(0), great}, Y: ratios(0)}, false},
		{program([][]int{{1, 0}, {0, 1}}, []int{1, 1}, []int{0, 0}), api.Solution{Kind: api.SoBest, X: ratios(1, 1), Y: []api.Ratio{opposite(small), opposite(small)}}, false},
		{program([][]int{{0}, {0}}, []int{0, 0}, []int{1}), api.Solution{Kind: api.SoBest, X: ratios(0), Y: []api.Ratio{small, great}}, true},
		// columns of Y
		{program([][]int{{0}, {1}, {-1}}, []int{0, 0, 0}, []int{1}), api.Solution{Kind: api.SoBest, X: ratios(0), Y: []api.Ratio{ratio.Int(0), small, small}}, false},
		{program([][]int{{1}, {1}, {-1}}, []int{-1, 0, 0}, []int{1}), api.Solution{Kind: api.SoNone, Y: []api.Ratio{ratio.Int(-1), small, small}}, false},
		{program([][]int{{1, 0}, {0, 1}, {0, -1}}, []int{-1, 0, 0}, []int{1, 1}), api.Solution{Kind: api.SoNone, Y: []api.Ratio{ratio.Int(-1), small, small}}, false}, // in the second column
		// Rhs times Y
		{program([][]int{{0}, {0}}, []int{2, 0}, []int{0}), api.Solution{Kind: api.SoNone, Y: []api.Ratio{great, ratio.Int(0)}}, false},
		{program([][]int{{0}, {0}}, []int{1, 1}, []int{0}), api.Solution{Kind: api.SoNone, Y: []api.Ratio{small, small}}, false},
		{program([][]int{{0}, {0}}, []int{1, 0}, []int{0}), api.Solution{Kind: api.SoNone, Y: []api.Ratio{small, small}}, true},
		{program([][]int{{1, 0}, {0, 1}}, []int{1, -1}, []int{0, 0}), api.Solution{Kind: api.SoNone, Y: []api.Ratio{opposite(small), opposite(small)}}, false},
		// rows of Z, and its cost
		{program([][]int{{1, 1, -1}}, []int{1}, []int{0, -1, 0}), api.Solution{Kind: api.SoEndless, X: ratios(1, 0, 0), Z: []api.Ratio{ratio.Int(0), small, small}}, false},
		{program([][]int{{1, 0, 0}}, []int{1}, []int{0, -1, -1}), api.Solution{Kind: api.SoEndless, X: ratios(1, 0, 0), Z: []api.Ratio{ratio.Int(0), small, small}}, false},
		{program([][]int{{1, 0, 0}}, []int{1}, []int{0, -1, 0}), api.Solution{Kind: api.SoEndless, X: ratios(1, 0, 0), Z: []api.Ratio{ratio.Int(0), small, small}}, true},
		// the cost of X is not needed here
		{program([][]int{{1, 0, 0}}, []int{1}, []int{0, -1, -1}), api.Solution{Kind: api.SoEndless, X: []api.Ratio{ratio.Int(1), small, small}, Z: ratios(0, 1, 1)}, true},
	} {
		if want := wantedCheck(x.l, x.s); want != x.want {
			t.Fatalf("%d: the test expects what does not hold", i)
		}
		if got := lp.Check(x.l, x.s); got != x.want {
			t.Errorf("%d: Check: %v instead of %v", i, got, x.want)
		}
	}
}

func TestCheckOfWrongRatios(t *testing.T) { // P6.3: in each list, in each place
	refused := func(l api.Linear, kind int, lists ...[]api.Ratio) {
		t.Helper()
		if len(lists) < 3 || !lp.Check(l, api.Solution{Kind: kind, X: lists[0], Y: lists[1], Z: lists[2]}) {
			t.Fatalf("the test expects what does not hold of %v", l)
		}
		for i, list := range lists {
			for k := range list {
				for _, w := range wrongRatios() {
					wrong := slices.Clone(lists)
					wrong[i] = slices.Clone(list)
					wrong[i][k] = w
					if lp.Check(l, api.Solution{Kind: kind, X: wrong[0], Y: wrong[1], Z: wrong[2]}) {
						t.Errorf("Check of %v accepts %v", l, wrong)
					}
				}
			}
		}
	}
	for _, n := range []int{0, 3} {
		zeros := filled(2, 3, 0) // all sums are 0, whatever is in the lists
		zeros.Cost = []int{n, n, n}
		refused(zeros, api.SoBest, ratios(0, 0, 0), ratios(0, 0), nil)
		zeros.Cost[0] = -1
		refused(zeros, api.SoEndless, ratios(0, 0, 0), nil, ratios(1, 0, 0))
		zeros.Rhs[1] = 1
		refused(zeros, api.SoNone, nil, ratios(0, 1), nil)
	}
}
