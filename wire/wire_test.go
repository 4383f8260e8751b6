package wire_test

import (
	"math"
	"slices"
	"strings"
	"testing"

	"collet/api"
	"collet/num"
	"collet/wire"
)

// is complains unless a call returns some bytes.
func is(t *testing.T, call, got string, want ...byte) {
	t.Helper()
	if got != string(want) {
		t.Errorf("%s: %v instead of %v", call, []byte(got), want)
	}
}

func TestInt(t *testing.T) { // P4.1
	is(t, "Int of 0", wire.Int(0), 0)
	is(t, "Int of -1", wire.Int(-1), 1)
	is(t, "Int of 1", wire.Int(1), 2)
	is(t, "Int of 63", wire.Int(63), 126)
	is(t, "Int of -64", wire.Int(-64), 127)
	is(t, "Int of 64", wire.Int(64), 128, 1)
	is(t, "Int of -65", wire.Int(-65), 129, 1)
	is(t, "Int of 8191", wire.Int(8191), 254, 127)
	is(t, "Int of 8192", wire.Int(8192), 128, 128, 1)
	is(t, "Int of the greatest int", wire.Int(math.MaxInt), 254, 255, 255, 255, 255, 255, 255, 255, 255, 1)
	is(t, "Int of the least int", wire.Int(math.MinInt), 255, 255, 255, 255, 255, 255, 255, 255, 255, 1)
	is(t, "Int of 2^62", wire.Int(1<<62), 128, 128, 128, 128, 128, 128, 128, 128, 128, 1)
	is(t, "Int of 2^62 - 1", wire.Int(1<<62-1), 254, 255, 255, 255, 255, 255, 255, 255, 127)
}

func TestTextAndInts(t *testing.T) { // P4.1
	is(t, "Text of ab", wire.Text("ab"), 4, 97, 98)
	is(t, "Text of nothing", wire.Text(""), 0)
	is(t, "Text of bytes, not runes", wire.Text("ä\x00\xff"), 8, 195, 164, 0, 255)
	is(t, "Text of 64 bytes", wire.Text(strings.Repeat("a", 64)), append([]byte{128, 1}, slices.Repeat([]byte{97}, 64)...)...)
	is(t, "Ints of 1, -2", wire.Ints([]int{1, -2}), 4, 2, 3)
	is(t, "Ints of nil", wire.Ints(nil), 0)
	is(t, "Ints of an empty list", wire.Ints([]int{}), 0)
	is(t, "Ints of 64, 0", wire.Ints([]int{64, 0}), 4, 128, 1, 0)
	is(t, "Ints of 64 zeros", wire.Ints(make([]int, 64)), append([]byte{128, 1}, make([]byte, 64)...)...)
}

func TestVecAndCell(t *testing.T) { // P4.2
	is(t, "Vec of 1, -1, 0", wire.Vec(api.Vec{X: 1, Y: -1}), 2, 1, 0)
	is(t, "Vec of 64, 2, -3", wire.Vec(api.Vec{X: 64, Y: 2, Z: -3}), 128, 1, 4, 5)
	is(t, "Cell of a plane", wire.Cell([]api.Plane{plane(1, 0, 0, 5)}), 2, 2, 0, 0, 10)
	is(t, "Cell of nil", wire.Cell(nil), 0)
	is(t, "Cell of no planes", wire.Cell([]api.Plane{}), 0)
	is(t, "Cell of two planes", wire.Cell([]api.Plane{plane(1, 2, 3, -4), plane(0, 0, 64, 0)}), 4, 2, 4, 6, 7, 0, 0, 128, 1, 0)
	is(t, "Cell of planes that are not valid", wire.Cell([]api.Plane{{}}), 2, 0, 0, 0, 0)
}

func TestRatio(t *testing.T) { // P4.2, P4.5
	is(t, "Ratio of -1/2", wire.Ratio(fraction("-1", "2")), 8, '-', '1', '/', '2')
	is(t, "Ratio of 0", wire.Ratio(fraction("0", "1")), 2, '0')
	is(t, "Ratio of 12", wire.Ratio(fraction("12", "1")), 4, '1', '2')
	is(t, "Ratio of 2/4", wire.Ratio(fraction("2", "4")))
	for _, r := range wrongRatios() {
		is(t, "a Ratio that is not right", wire.Ratio(r))
	}
}

func TestWrite(t *testing.T) { // P4.1, P4.2
	for _, k := range kinds() {
		for _, v := range k.values() {
			if got, want := k.write(v), k.want(v); got != want {
				t.Errorf("%s of %.200v: %.50v instead of %.50v", k.name, v, []byte(got), []byte(want))
			}
		}
	}
}

func TestWriteLong(t *testing.T) { // P4.1, P4.2
	const size = 1 << 21
	head := wantInt(size)
	if got := wire.Text(strings.Repeat("z", size)); got != head+strings.Repeat("z", size) {
		t.Error("Text of many bytes")
	}
	if got := wire.Ints(slices.Repeat([]int{-300}, size)); got != head+strings.Repeat(wantInt(-300), size) {
		t.Error("Ints of many numbers")
	}
	p := plane(1, -300, 0, 70000)
	if got := wire.Cell(slices.Repeat([]api.Plane{p}, size)); got != head+strings.Repeat(wantVec(p.N)+wantInt(p.B), size) {
		t.Error("Cell of many planes")
	}
	if got, text := wire.Ratio(fraction(longest(), "2")), longest()+"/2"; got != wantText(text) || len(got) != len(text)+2 {
		t.Error("Ratio of many digits")
	}
}

func TestArgumentsStay(t *testing.T) { // R3 of DOC.md, for P4.1 and P4.2
	l, before := []int{5, -6, 700}, []int{5, -6, 700}
	wire.Ints(l[:2])
	c, planes := []api.Plane{plane(1, 2, 3, 4), plane(5, 6, 7, 8)}, []api.Plane{plane(1, 2, 3, 4), plane(5, 6, 7, 8)}
	wire.Cell(c[:1])
	r := api.Ratio{N: api.Num{Neg: true, D: []uint32{3, 4}}, D: num.Of(5)}
	wire.Ratio(r)
	w := api.Ratio{N: api.Num{D: []uint32{4, 0}}, D: num.Of(2)}
	wire.Ratio(w)
	if !slices.Equal(l, before) || !slices.Equal(c, planes) || !same(r, api.Ratio{N: api.Num{Neg: true, D: []uint32{3, 4}}, D: num.Of(5)}) || !same(w, api.Ratio{N: api.Num{D: []uint32{4, 0}}, D: num.Of(2)}) {
		t.Errorf("changed: %v, %v, %v, %v", l, c, r, w)
	}
}
