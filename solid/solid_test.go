package solid_test

import (
	"slices"
	"testing"

	"collet/api"
	"collet/cell"
	"collet/plane"
	"collet/solid"
)

// checkCheck complains unless Check returns the error.
func checkCheck(t *testing.T, s cells, want api.Errno) {
	t.Helper()
	if got := solid.Check(s); got != want {
		t.Errorf("Check of %d cells: %d instead of %d", len(s), got, want)
	}
}

func TestCheckOfValidSolids(t *testing.T) { // P10.1
	for _, s := range []cells{nil, {}, {nil}, make(cells, 16), flats(), {round(1), box(0, 0, 0, 1, 1, 1)}, slices.Repeat(cells{round(2)}, 16)} {
		checkCheck(t, s, api.OK)
	}
	pairs(3, 300, 16, 9, func(c planes, s cells) { checkCheck(t, s, api.OK) })
}

func TestCheckOfWrongSolids(t *testing.T) { // P10.1
	unit := box(0, 0, 0, 1, 1, 1)
	for k, bad := range slices.Concat(wrong(), long()) {
		want, other := api.ErrPlane, long()[0]
		if k >= len(wrong()) {
			want, other = api.ErrMany, wrong()[0]
		}
		for n := range 16 {
			s := slices.Repeat(cells{unit}, 16)
			s[n] = bad
			checkCheck(t, s, want)
			checkCheck(t, s[:n+1], want)
			checkCheck(t, s[:n], api.OK)
			if n < 15 { // the first error is returned
				s[15] = other
				checkCheck(t, s, want)
			}
		}
	}
	checkCheck(t, make(cells, 17), api.ErrMany)
	checkCheck(t, make(cells, 1000), api.ErrMany)
	checkCheck(t, slices.Repeat(cells{unit}, 17), api.ErrMany)
	checkCheck(t, slices.Repeat(flats()[:1], 17), api.ErrMany) // also if the cells play no part
	checkCheck(t, slices.Repeat(wrong()[:1], 17), api.ErrMany) // before the errors of the cells
	checkCheck(t, cells{{half(2, 0, 0, 1)}}, api.ErrPlane)
}

func TestMinusOfExamples(t *testing.T) { // P10.2
	unit := box(0, 0, 0, 1, 1, 1)
	for _, x := range []struct {
		c    planes
		s    cells
		want cells
	}{
		{box(0, 0, 0, 2, 1, 1), cells{box(1, 0, 0, 3, 1, 1)}, leans(unit)},
		{box(0, 0, 0, 3, 1, 1), cells{box(1, 0, 0, 2, 1, 1)}, leans(unit, box(2, 0, 0, 3, 1, 1))},
		{unit, nil, leans(unit)}, {unit, cells{box(1, 0, 0, 2, 1, 1)}, leans(unit)}, {nil, nil, cells{nil}}, {nil, cells{nil}, nil}, {unit, cells{nil}, nil}, {unit, cells{unit}, nil}, {unit, cells{box(-1, -2, -3, 4, 5, 6)}, nil},
		{nil, cells{{half(1, 0, 0, 3)}}, cells{{half(-1, 0, 0, -3)}}}, {nil, cells{{half(1, 0, 0, 24)}}, nil}, {nil, cells{{half(1, 0, 0, 24), half(0, 1, 0, 2)}}, cells{{half(0, -1, 0, -2)}}},
		{with(unit, half(1, 1, 1, 3), half(1, 0, 0, 1), half(1, 0, 0, 7)), nil, leans(unit)}, {with(unit, unit...), cells{box(1, 0, 0, 2, 1, 1)}, leans(unit)},
		{box(0, 0, 0, 3, 3, 3), cells{box(1, 1, 1, 2, 2, 2)}, leans(box(0, 0, 0, 1, 3, 3), box(1, 0, 0, 3, 1, 3), box(1, 1, 0, 3, 3, 1), box(1, 1, 2, 3, 3, 3), box(1, 2, 1, 3, 3, 2), box(2, 1, 1, 3, 2, 2))}, // in the order of -x, -y, -z, z, y, x
		{box(0, 0, 0, 4, 1, 1), cells{box(1, 0, 0, 2, 1, 1), box(3, 0, 0, 4, 1, 1)}, leans(unit, box(2, 0, 0, 3, 1, 1))},
		{box(0, 0, 0, 5, 1, 1), cells{box(3, 0, 0, 4, 1, 1), box(1, 0, 0, 2, 1, 1)}, leans(unit, box(2, 0, 0, 3, 1, 1), box(4, 0, 0, 5, 1, 1))}, // what comes of the first piece comes first
		{box(0, 0, 0, 2, 2, 1), cells{{half(1, 1, 0, 2)}}, cells{{half(-1, -1, 0, -2), half(0, 0, -1, 0), half(0, 0, 1, 1), half(0, 1, 0, 2), half(1, 0, 0, 2)}}},
	} {
		checkMinus(t, x.c, x.s, x.want, api.OK)
	}
}

func TestMinusOfCells(t *testing.T) { // P10.2 and P10.3
	none, some, work := 0, 0, 0
	check := func(c planes, s cells) {
		want, e := wantedPieces(c, s)
		checkMinus(t, c, s, want, e)
		switch {
		case e != api.OK:
			work++
		case len(want) == 0:
			none++
		default:
			some++
		}
	}
	pairs(11, 2500, 5, 6, check)
	pairs(12, 150, 16, 9, check)
	pairs(13, 60, 3, 42, check)
	if none < 300 || some < 1000 {
		t.Errorf("%d cells were covered, %d were not, and %d were too much work", none, some, work)
	}
}

func TestMinusWithoutInterior(t *testing.T) { // P10.2: what is not full plays no part
	r := source(14)
	for k, flat := range flats() {
		for _, s := range []cells{nil, {nil}, {box(0, 0, 0, 1, 1, 1)}, {flat}, flats(), slabs(5, 5, 6)} {
			checkMinus(t, flat, s, nil, api.OK)
		}
		for range 30 {
			c, s := someCell(r, 6), someSolid(r, 4, 6)
			want, e := wantedPieces(c, s)
			checkMinus(t, c, slices.Insert(copied(s), r.IntN(len(s)+1), flat), want, e)
		}
		full := round(uint64(20 + k))
		checkMinus(t, full, cells{flat}, leans(full), api.OK) // though it has 48 planes
	}
}

func TestMinusOfWrongArguments(t *testing.T) { // P10.2 and P10.3: the order of the errors
	unit, full := box(0, 0, 0, 1, 1, 1), round(4)
	work := cells{{half(1, 0, 0, 0)}} // of which comes ErrWork, if the cell has 48 planes
	checkMinus(t, full, work, nil, api.ErrWork)
	for _, c := range slices.Concat(wrong(), long()) {
		want := cell.Check(c)
		for _, s := range []cells{nil, {unit}, {nil}, {c}, wrong()[:3], long()[:2], make(cells, 17), slabs(5, 5, 6), slices.Repeat(wrong()[:1], 17)} {
			checkMinus(t, c, s, nil, want)
		}
		for _, d := range slices.Concat(flats(), cells{unit, full, nil}) {
			checkMinus(t, d, cells{c}, nil, want)
			checkMinus(t, d, cells{nil, c}, nil, want) // also if there are no pieces any more
			checkMinus(t, d, append(slices.Clone(work), c), nil, want)
			checkMinus(t, d, append(cells{c}, work...), nil, want)
			checkMinus(t, d, cells{unit, c, nil}, nil, want)
			checkMinus(t, d, slices.Repeat(cells{c}, 17), nil, api.ErrMany)
		}
	}
	checkMinus(t, wrong()[0], make(cells, 17), nil, api.ErrPlane)
	checkMinus(t, nil, make(cells, 17), nil, api.ErrMany)
	checkMinus(t, unit, slices.Repeat(cells{unit}, 17), nil, api.ErrMany)
	checkMinus(t, unit, slices.Repeat(cells{unit}, 16), nil, api.OK)
	checkMinus(t, nil, cells{wrong()[0], long()[0]}, nil, api.ErrPlane)
	checkMinus(t, nil, cells{long()[0], wrong()[0]}, nil, api.ErrMany)
	checkMinus(t, nil, append(slabs(5, 5, 5), wrong()[0]), nil, api.ErrPlane) // before ErrWork
}

func TestMinusOfManyPlanes(t *testing.T) { // P10.2: at most 48 planes of the rest
	c := round(5)
	far := box(23, 23, 23, 24, 24, 24)
	for _, x := range []struct {
		s    cells
		want cells
		e    api.Errno
	}{
		{nil, leans(c), api.OK}, {cells{far}, leans(c), api.OK}, {cells{{half(1, 0, 0, -21)}, {half(0, -1, 0, -21)}}, leans(c), api.OK}, {cells{far, flats()[0]}, leans(c), api.OK}, {cells{nil}, nil, api.OK}, {cells{far, nil, {half(1, 0, 0, 0)}}, nil, api.OK},
		{cells{{half(1, 0, 0, 24)}}, nil, api.ErrWork},                                                                                                                                                                            // though it has the same points as nil
		{cells{{half(1, 0, 0, 0)}}, nil, api.ErrWork}, {cells{far, {half(1, 0, 0, 0)}, nil}, nil, api.ErrWork}, {cells{box(0, 0, 0, 1, 1, 1)}, nil, api.ErrWork}, {cells{c}, nil, api.ErrWork}, {cells{{c[7]}}, nil, api.ErrWork}, // also for a plane that it has
		{cells{box(-22, -22, -22, 22, 22, 22)}, nil, api.ErrWork}, // also if no part is beyond a wall
	} {
		checkMinus(t, c, x.s, x.want, x.e)
	}
	for _, k := range []int{0, 9, 46, 47} {
		less := slices.Delete(slices.Clone(c), k, k+1) // 47 planes: one can be added
		beyond := leans(with(less, plane.Flip(c[k])))
		checkMinus(t, less, cells{less}, nil, api.OK)
		checkMinus(t, less, cells{{c[k]}}, beyond, api.OK)
		checkMinus(t, with(less, half(1, 0, 0, 24)), cells{{c[k]}}, beyond, api.OK) // Lean of it has 47 planes
		if k < 47 {
			checkMinus(t, less, cells{c}, nil, api.ErrWork) // the walls after it are to be added to 48 planes
		} else {
			checkMinus(t, less, cells{c}, beyond, api.OK)
		}
	}
}

func TestMinusOfRestsThatGrow(t *testing.T) { // P10.2: the rest has the planes of the walls before
	c := round(6)[:47]
	fits, work := 0, 0
	r := source(7)
	points := cell.Points(c)
	for range 300 {
		var q planes
		for range 1 + r.IntN(3) {
			v := points[r.IntN(len(points))]
			n, _ := plane.Prim(vec(v.X/v.W, v.Y/v.W, v.Z/v.W))
			top := (n.X*v.X + n.Y*v.Y + n.Z*v.Z) / v.W
			q = append(q, api.Plane{N: n, B: top - r.IntN(1+top/(1+r.IntN(30)))}) // many cut off a vertex, and no facet
		}
		want, e := wantedPieces(c, cells{q})
		checkMinus(t, c, cells{q}, want, e)
		if e == api.OK {
			fits++
		} else {
			work++
		}
	}
	if fits < 50 || work < 50 {
		t.Errorf("%d solids were not too much work, and %d were", fits, work)
	}
}

func TestMinusOfManyPieces(t *testing.T) { // P10.2: at most 200 pieces after a cell
	grid := slabs(4, 4, 7) // 200 pieces of 15 cells
	first := box(-24, -24, -24, -21, -21, -21)
	for _, x := range []struct {
		more  cells
		count int
	}{
		{nil, 200}, {cells{flats()[0]}, 200}, {cells{grid[3]}, 200}, {cells{first}, 199}, {cells{nil}, 0},
		{cells{box(-24, -24, -24, -22, -21, -21)}, 200}, {cells{box(-23, -24, -24, -22, -21, -21)}, -1}, {cells{box(-24, -24, -24, -22, -22, -21)}, -1}, {cells{box(-23, -23, -23, -22, -22, -22)}, -1}, {cells{box(-23, -24, -24, 24, -21, -21)}, 196},
		{cells{{half(1, 1, 0, 1), half(-1, -1, 0, 1)}}, -1},
		{cells{{half(0, 0, 1, -21), half(-1, 4, 0, -65), half(-1, -4, 0, 115)}}, 199}, // two parts of the first piece, so that there are 201 until it is known what is left of the others
	} {
		s := slices.Concat(grid, x.more)
		want, e := wantedPieces(nil, s)
		checkMinus(t, nil, s, want, e)
		if x.count != len(want) && (x.count >= 0 || e != api.ErrWork) {
			t.Errorf("Minus of the workspace and a grid with %v: %d pieces, %d", x.more, len(want), e)
		}
	}
	crowd := slabs(5, 5, 5) // 216 pieces
	for _, s := range []cells{crowd, append(slices.Clone(crowd), nil)} {
		checkMinus(t, nil, s, nil, api.ErrWork) // though nothing is left in the end
	}
	checkMinus(t, nil, slices.Insert(crowd, 0, nil), nil, api.OK)
	layer := box(-24, -24, -24, 24, 24, -21)
	want, e := wantedPieces(layer, slabs(5, 5, 6))
	checkMinus(t, layer, slabs(5, 5, 6), want, e)
	if len(want) != 36 || e != api.OK {
		t.Errorf("Minus of a layer and a grid: %d pieces, %d", len(want), e)
	}
}

func TestCoversOfExamples(t *testing.T) { // P10.3
	unit, next, both := box(0, 0, 0, 1, 1, 1), box(1, 0, 0, 2, 1, 1), box(0, 0, 0, 2, 1, 1)
	for _, x := range []struct {
		s    cells
		c    planes
		want bool
	}{
		{cells{unit, next}, both, true}, {cells{unit}, both, false}, {cells{next, unit}, both, true}, {nil, unit, false}, {nil, flats()[0], true}, {nil, nil, false}, {cells{nil}, nil, true}, {cells{{half(1, 0, 0, 24)}}, nil, true}, {flats(), unit, false}, {cells{unit, flats()[0]}, unit, true}, {cells{both}, unit, true}, {cells{unit}, next, false},
		{cells{{half(1, 2, 3, 1)}, {half(-1, -2, -3, -1)}}, nil, true}, {cells{{half(1, 2, 3, 1)}, {half(-1, -2, -3, -2)}}, nil, false},
	} {
		if got, e := solid.Covers(x.s, x.c); got != x.want || e != api.OK {
			t.Errorf("Covers of %v and %v: %v, %d instead of %v", x.s, x.c, got, e, x.want)
		}
	}
}

func TestCoversOfCells(t *testing.T) { // P10.3: what a solid covers is meant so
	yes, no := 0, 0
	check := func(c planes, s cells) {
		want := isCovered(c, s)
		if got, e := solid.Covers(s, c); got != want || e != api.OK {
			t.Errorf("Covers of %v and %v: %v, %d instead of %v", s, c, got, e, want)
		}
		if want {
			yes++
		} else {
			no++
		}
	}
	pairs(15, 1500, 4, 5, check)
	r := source(16)
	for range 400 { // parts of boxes that are covered for the most part
		c, s := someBox(r, 2), cells{}
		for range 1 + r.IntN(6) {
			s = append(s, someBox(r, 2))
		}
		check(c, s)
	}
	if yes < 200 || no < 200 {
		t.Errorf("%d cells were covered, and %d were not", yes, no)
	}
}

func TestApartOfExamples(t *testing.T) { // P10.4
	unit, far := box(0, 0, 0, 1, 1, 1), box(5, 5, 5, 6, 6, 6)
	around := cells{box(1, 0, 0, 2, 1, 1), box(0, 1, 0, 1, 2, 1)}
	for _, x := range []struct {
		c    planes
		s    cells
		want bool
	}{
		{unit, around, true}, {unit, append(around, unit), false}, {unit, append(cells{unit}, around...), false}, {unit, nil, true}, {nil, nil, true}, {nil, cells{nil}, false}, {flats()[0], cells{nil}, true}, {nil, flats(), true}, {nil, append(flats(), unit), false},
		{unit, slices.Repeat(cells{far}, 1000), true}, {unit, append(slices.Repeat(cells{far}, 1000), unit), false}, {unit, slices.Repeat(cells{unit}, 17), false}, // however many there are
		{unit, wrong(), true}, {unit, long(), true}, {unit, append(wrong(), unit), false}, {unit, append(long(), unit), false}, // nothing is not apart from a wrong cell
		{wrong()[0], cells{unit, nil}, true}, {long()[0], cells{unit, nil}, true}, {long()[0], nil, true},
	} {
		if got := solid.Apart(x.c, x.s); got != x.want {
			t.Errorf("Apart of %s and %d cells: %v", short(x.c), len(x.s), got)
		}
	}
}

func TestApartOfCells(t *testing.T) { // P10.4
	yes, no := 0, 0
	pairs(17, 2000, 4, 8, func(c planes, s cells) {
		want := true
		for _, q := range s {
			want = want && cell.Apart(c, q)
		}
		if got := solid.Apart(c, s); got != want {
			t.Errorf("Apart of %v and %v: %v", c, s, got)
		}
		if want {
			yes++
		} else {
			no++
		}
	})
	if yes < 200 || no < 200 {
		t.Errorf("%d cells were apart, and %d were not", yes, no)
	}
}

// checkSame complains unless Same returns just this.
func checkSame(t *testing.T, s, u cells, want bool, wantError api.Errno) {
	t.Helper()
	if got, e := solid.Same(s, u); got != want || e != wantError {
		t.Errorf("Same of %s and %s: %v, %d instead of %v, %d", short(s...), short(u...), got, e, want, wantError)
	}
}

func TestSameOfExamples(t *testing.T) { // P10.5
	unit, next, both := box(0, 0, 0, 1, 1, 1), box(1, 0, 0, 2, 1, 1), box(0, 0, 0, 2, 1, 1)
	for _, x := range []struct {
		s, t cells
		want bool
	}{
		{cells{both}, cells{unit, next}, true}, {cells{both}, cells{unit}, false}, {nil, nil, true}, {nil, cells{{}, nil}, false}, {nil, flats(), true}, {flats(), cells{}, true}, {cells{both, unit}, cells{next, both}, true}, {cells{both, nil}, cells{nil}, true},
		{cells{unit, flats()[0]}, append(flats(), unit, unit), true}, {cells{unit}, cells{next}, false}, {cells{unit, next}, cells{unit, next, box(2, 0, 0, 3, 1, 1)}, false}, {cells{nil}, cells{{half(1, 2, 3, 4)}, {half(-1, -2, -3, -4)}}, true},
	} {
		checkSame(t, x.s, x.t, x.want, api.OK)
		checkSame(t, x.t, x.s, x.want, api.OK)
	}
}

func TestSameOfWrongSolids(t *testing.T) { // P10.5: the order of the errors
	full, unit := round(8), box(0, 0, 0, 1, 1, 1)
	for _, good := range []cells{nil, {nil}, {unit}, {full, {half(1, 0, 0, 0)}}, slabs(5, 5, 6)} {
		for _, x := range []struct {
			s    cells
			want api.Errno
		}{{wrong()[:1], api.ErrPlane}, {long()[:1], api.ErrMany}, {make(cells, 17), api.ErrMany}, {append(long()[:1], wrong()[0]), api.ErrMany}, {append(wrong()[:1], long()[0]), api.ErrPlane}, {cells{unit, nil, wrong()[3]}, api.ErrPlane}} {
			checkSame(t, good, x.s, false, x.want)
			checkSame(t, x.s, good, false, x.want)
			checkSame(t, x.s, wrong()[:1], false, x.want)
			checkSame(t, x.s, make(cells, 17), false, x.want)
		}
	}
}

func TestSameStopsAtTheFirstCell(t *testing.T) { // P10.5
	full, unit, far := round(9), box(0, 0, 0, 1, 1, 1), box(23, 23, 23, 24, 24, 24)
	cut := planes{half(1, 0, 0, 0)} // by which full is too much work
	for _, x := range []struct {
		s, t cells
		want bool
		e    api.Errno
	}{
		{cells{full}, cells{cut}, false, api.ErrWork}, {cells{cut}, cells{full}, false, api.OK}, {cells{far, full}, cells{cut}, false, api.OK}, {cells{full, far}, cells{cut}, false, api.ErrWork}, {cells{cut, full, far}, cells{cut}, false, api.ErrWork}, {cells{cut, far, full}, cells{cut}, false, api.OK},
		{cells{cut}, cells{cut, full}, false, api.ErrWork}, {cells{cut}, cells{cut, far, full}, false, api.OK}, {cells{cut}, cells{full, cut}, false, api.ErrWork}, // the cells of the second one
		{cells{unit}, cells{cut, full}, false, api.OK}, {cells{unit, full}, cells{cut, far}, false, api.OK}, {cells{full}, cells{full}, false, api.ErrWork}, {cells{full, nil}, cells{nil, full}, false, api.ErrWork}, {cells{nil, full}, cells{nil, full}, true, api.OK}, {cells{nil}, slabs(5, 5, 6), false, api.ErrWork}, {slabs(5, 5, 6), cells{nil}, false, api.ErrWork}, {slabs(5, 5, 6), cells{far}, false, api.OK},
	} {
		checkSame(t, x.s, x.t, x.want, x.e)
	}
}

func TestSameOfSolids(t *testing.T) { // P10.5
	r := source(18)
	yes, no := 0, 0
	for range 700 {
		s, u := someSolid(r, 3, 5), someSolid(r, 3, 5)
		switch r.IntN(4) {
		case 0:
			u = slices.Concat(u, s)
		case 1:
			r.Shuffle(len(s), func(i, k int) { s[i], s[k] = s[k], s[i] })
			u = append(copied(s), flats()[r.IntN(len(flats()))])
		}
		want := !slices.ContainsFunc(s, func(c planes) bool { return !isCovered(c, u) }) && !slices.ContainsFunc(u, func(c planes) bool { return !isCovered(c, s) })
		checkSame(t, s, u, want, api.OK)
		if want {
			yes++
		} else {
			no++
		}
	}
	if yes < 100 || no < 100 {
		t.Errorf("%d solids were the same, and %d were not", yes, no)
	}
}
