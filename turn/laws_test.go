package turn_test

import (
	"math/rand/v2"
	"slices"
	"testing"

	"collet/api"
	"collet/hull"
	"collet/plane"
	"collet/turn"
)

func TestAllIsAGroup(t *testing.T) { // P11.8
	all := turn.All()
	for _, u := range all {
		seen := map[api.Turn]bool{}
		back, ok := turn.Back(api.Frame{Turn: u})
		if !ok || back.Shift != (api.Vec{}) || !slices.Contains(all, back.Turn) {
			t.Errorf("Back of %v: %v, %v", u, back, ok)
		}
		for _, w := range all {
			both, ok := turn.After(api.Frame{Turn: u}, api.Frame{Turn: w})
			if !ok || both.Shift != (api.Vec{}) || !slices.Contains(all, both.Turn) {
				t.Errorf("After of %v and %v: %v, %v", u, w, both, ok)
			}
			seen[both.Turn] = true
		}
		if len(seen) != 24 {
			t.Errorf("only %d Turns come after %v", len(seen), u)
		}
	}
}

// checkUndone complains unless Back of the frame, if there is one, undoes it and is undone by it.
func checkUndone(t *testing.T, f api.Frame) bool {
	t.Helper()
	back, ok := turn.Back(f)
	if !ok {
		return false
	}
	if again, ok := turn.Back(back); !ok || again != f {
		t.Errorf("Back of Back of %v: %v, %v", f, again, ok)
	}
	nothing := api.Frame{Turn: one()}
	if both, ok := turn.After(f, back); !ok || both != nothing {
		t.Errorf("After of %v and what leads back: %v, %v", f, both, ok)
	}
	if both, ok := turn.After(back, f); !ok || both != nothing {
		t.Errorf("After of %v and %v, which it undoes: %v, %v", back, f, both, ok)
	}
	return true
}

func TestBackUndoes(t *testing.T) { // P11.8
	for _, u := range validTurns(25) {
		if !checkUndone(t, api.Frame{Turn: u}) {
			t.Errorf("there is no Back of %v", u)
		}
	}
	r := source(21)
	undone := 0
	for range 30000 {
		if f := someFrame(r); checkUndone(t, f) && f.Turn.D > 1 {
			undone++
		}
	}
	if undone < 1000 {
		t.Errorf("only %d frames were undone", undone)
	}
}

func TestAfterAndBackOfPoints(t *testing.T) { // P11.6 and P11.7
	r := source(22)
	there, further := 0, 0
	for range 60000 {
		f, g, v := someFrame(r), someFrame(r), somePoint(r)
		to, ok := turn.Apply(f, v)
		if !ok {
			continue
		}
		if back, ok := turn.Back(f); ok {
			there++
			if from, ok := turn.Apply(back, to); !ok || from != v {
				t.Errorf("Back of %v sends %v to %v, %v instead of %v", f, to, from, ok, v)
			}
		}
		end, ok := turn.Apply(g, to)
		both, is := turn.After(f, g)
		if !is {
			continue
		}
		if ok {
			further++
		}
		if got, is := turn.Apply(both, v); got != end || is != ok { // false only where the end is no point of the workspace
			t.Errorf("After of %v and %v sends %v to %v, %v instead of %v, %v", f, g, v, got, is, end, ok)
		}
	}
	if there < 1000 || further < 1000 {
		t.Errorf("%d points were sent there and back, and %d further on", there, further)
	}
}

func TestPlaneThereAndBack(t *testing.T) { // P11.4 and P11.6
	r := source(23)
	count := 0
	for range 30000 {
		f := someFrame(r)
		p := somePlane(r, f.Turn)
		to, ok := turn.Plane(f, p)
		back, is := turn.Back(f)
		if !ok || !is {
			continue
		}
		count++
		if from, ok := turn.Plane(back, to); !ok || from != p {
			t.Errorf("Back of %v sends %v to %v, %v instead of %v", f, to, from, ok, p)
		}
	}
	if count < 1000 {
		t.Errorf("only %d planes were sent there and back", count)
	}
}

// lattice returns the points of the workspace that f sends to points of the workspace.
func lattice(f api.Frame) []api.Vec {
	var out []api.Vec
	for x := -24; x <= 24; x++ {
		for y := -24; y <= 24; y++ {
			for z := -24; z <= 24; z++ {
				if _, ok := turn.Apply(f, vec(x, y, z)); ok {
					out = append(out, vec(x, y, z))
				}
			}
		}
	}
	return out
}

// places calls f with n frames, and for each of them with some points of the workspace that it sends to points of the workspace, and these.
func places(seed uint64, n, points int, f func(r *rand.Rand, frame api.Frame, from, to []api.Vec)) {
	r := source(seed)
	for n > 0 {
		frame := someFrame(r)
		l := lattice(frame)
		if len(l) < 2*points {
			continue
		}
		n--
		for range 60 {
			var from, to []api.Vec
			for range points {
				v := l[r.IntN(len(l))]
				u, _ := turn.Apply(frame, v)
				from, to = append(from, v), append(to, u)
			}
			f(r, frame, from, to)
		}
	}
}

func TestInnerProducts(t *testing.T) { // P11.9
	places(24, 25, 4, func(_ *rand.Rand, f api.Frame, from, to []api.Vec) {
		a, b := plane.Sub(from[1], from[0]), plane.Sub(from[3], from[2])
		c, d := plane.Sub(to[1], to[0]), plane.Sub(to[3], to[2])
		if plane.Dot(a, b) != plane.Dot(c, d) || plane.Dot(a, a) != plane.Dot(c, c) {
			t.Errorf("%v sends %v to %v", f, from, to)
		}
	})
}

func TestSides(t *testing.T) { // P11.9
	count := map[int]int{}
	places(25, 25, 4, func(r *rand.Rand, f api.Frame, from, to []api.Vec) {
		through, ok := plane.Through(from[0], from[1], from[2])
		for _, p := range []api.Plane{through, somePlane(r, f.Turn), {N: through.N, B: plane.Dot(through.N, from[3])}} {
			if q, is := turn.Plane(f, p); is {
				for i := range 4 {
					side := plane.Side(p, from[i])
					count[side]++
					if plane.Side(q, to[i]) != side {
						t.Errorf("%v sends %v and %v, on its side %d, to %v and %v", f, p, from[i], side, q, to[i])
					}
				}
			} else if ok && p == through {
				t.Errorf("%v sends %v to %v, but the plane through them nowhere", f, from, to)
			}
		}
	})
	if count[-1] < 1000 || count[0] < 1000 || count[1] < 1000 {
		t.Errorf("points on the sides: %v", count)
	}
}

func TestFacets(t *testing.T) { // P11.10
	full, turned := 0, 0
	check := func(r *rand.Rand, f api.Frame, from, to []api.Vec) {
		planes, e := hull.Faces(from)
		want, e2 := hull.Faces(to)
		if e != e2 {
			t.Errorf("the facets of %v: %d, but of %v: %d", from, e, to, e2)
		}
		got, ok := turn.Cell(f, planes)
		slices.SortFunc(got, plane.Compare)
		if !ok || !slices.Equal(got, want) {
			t.Errorf("%v sends the facets of %v to %v, %v instead of %v", f, from, got, ok, want)
		}
		vertices, _ := hull.Extreme(from)
		var ends []api.Vec
		for _, v := range vertices {
			u, _ := turn.Apply(f, v)
			ends = append(ends, u)
		}
		wantEnds, _ := hull.Extreme(to)
		slices.SortFunc(ends, func(a, b api.Vec) int {
			return plane.Compare(api.Plane{N: a}, api.Plane{N: b})
		})
		if !slices.Equal(ends, wantEnds) {
			t.Errorf("%v sends the vertices of %v to %v instead of %v", f, from, ends, wantEnds)
		}
		if e == api.OK {
			full++
			if f.Turn.D > 1 {
				turned++
			}
		}
	}
	for k, points := range []int{3, 4, 5, 9, 20} {
		places(uint64(26+k), 9, points, check)
	}
	if full < 1000 || turned < 500 {
		t.Errorf("%d hulls, %d of them with a denominator greater than 1", full, turned)
	}
}

func TestNothingShared(t *testing.T) { // R3
	all := turn.All()
	kept := slices.Clone(all)
	for i := range all {
		all[i] = api.Turn{}
	}
	if !slices.Equal(turn.All(), kept) {
		t.Errorf("All is changed by a change of its result")
	}
	f := moved(fifths(), 1, 2, 3)
	memory := []api.Plane{half(1, 0, 0, 4), half(1, 2, 0, 1), half(2, 0, 1, 3), half(9, 9, 9, 9), half(8, 8, 8, 8)}
	before := slices.Clone(memory)
	got, ok := turn.Cell(f, memory[:3])
	if !ok || !slices.Equal(memory, before) {
		t.Errorf("Cell changes its argument: %v", memory)
	}
	want := slices.Clone(got)
	for i := range memory {
		memory[i] = api.Plane{}
	}
	if !slices.Equal(got, want) {
		t.Errorf("the result of Cell is changed by a change of its argument")
	}
	copy(memory, before)
	for i := range cap(got) {
		got[:cap(got)][i] = half(7, 7, 7, 7)
	}
	if !slices.Equal(memory, before) {
		t.Errorf("the argument of Cell is changed by a change of its result")
	}
	same := moved(one(), 0, 0, 0) // which changes nothing
	got, _ = turn.Cell(same, memory[:3])
	got[0].B++
	if again, _ := turn.Cell(same, memory[:3]); !slices.Equal(memory, before) || !slices.Equal(again, before[:3]) {
		t.Errorf("Cell of a frame that changes nothing: %v", again)
	}
}

func TestSameResults(t *testing.T) { // R4
	r := source(31)
	for range 3000 {
		f, g := someFrame(r), someFrame(r)
		c := []api.Plane{somePlane(r, f.Turn), somePlane(r, f.Turn)}
		a, ok := turn.Cell(f, c)
		b, is := turn.Cell(f, c)
		if !slices.Equal(a, b) || ok != is {
			t.Errorf("Cell of %v and %v: %v, and then %v", f, c, a, b)
		}
		p, ok := turn.After(f, g)
		q, is := turn.After(f, g)
		if p != q || ok != is {
			t.Errorf("After of %v and %v: %v, and then %v", f, g, p, q)
		}
	}
	if !slices.Equal(turn.All(), turn.All()) {
		t.Error("All differs")
	}
}

func TestNoPanic(t *testing.T) { // P1, and the results are those of the contract
	r := source(32)
	anyFrame := func() api.Frame {
		f := someFrame(r)
		switch r.IntN(4) {
		case 0:
			f.Turn.M[r.IntN(3)][r.IntN(3)] = anyInt(r)
		case 1:
			f.Turn.D = anyInt(r)
		case 2:
			f = api.Frame{Turn: over(anyInt(r), rows{{anyInt(r), anyInt(r), anyInt(r)}, {anyInt(r), anyInt(r), anyInt(r)}, {anyInt(r), anyInt(r), anyInt(r)}})}
		}
		if r.IntN(3) == 0 {
			f.Shift = anyVec(r)
		}
		return f
	}
	for range 40000 {
		f, g, v, p := anyFrame(), anyFrame(), anyVec(r), api.Plane{N: anyVec(r), B: anyInt(r)}
		checkValid(t, f.Turn, isTurn(f.Turn))
		want, ok := wantedPoint(f, v)
		checkApply(t, f, v, want, ok)
		wantPlane, ok := wantedPlane(f, p)
		checkPlane(t, f, p, wantPlane, ok)
		checkCell(t, f, []api.Plane{p}, wantedPlanes(wantPlane, ok), ok)
		back, ok := wantedBack(f)
		checkBack(t, f, back, ok)
		both, ok := wantedAfter(f, g)
		checkAfter(t, f, g, both, ok)
	}
}

// wantedPlanes returns the cell of one plane; none if there is none.
func wantedPlanes(p api.Plane, ok bool) []api.Plane {
	if !ok {
		return nil
	}
	return []api.Plane{p}
}
