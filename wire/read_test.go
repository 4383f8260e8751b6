package wire_test

import (
	"math"
	"slices"
	"strings"
	"testing"

	"collet/api"
	"collet/wire"
)

// reads complains unless a method does with s what the contract says: it returns the value that is found, or makes the reader bad.
func reads(t *testing.T, k kind, s string) {
	t.Helper()
	r := wire.New(s)
	got := k.read(r)
	want, size, ok := k.find(s)
	switch {
	case !ok && (!same(got, k.zero) || !r.Bad() || r.Left() != 0):
		t.Errorf("%s of %.60q: %.200v, Bad %v, Left %d instead of nothing", k.name, s, got, r.Bad(), r.Left())
	case ok && (!same(got, want) || r.Bad() || r.Left() != len(s)-size):
		t.Errorf("%s of %.60q: %.200v, Bad %v, Left %d instead of %.200v, Left %d", k.name, s, got, r.Bad(), r.Left(), want, len(s)-size)
	}
}

// eachString calls f with all strings of these bytes of at most some length.
func eachString(alphabet string, most int, f func(s string)) {
	var grow func(s string)
	grow = func(s string) {
		f(s)
		if len(s) == most {
			return
		}
		for i := range len(alphabet) {
			grow(s + alphabet[i:i+1])
		}
	}
	grow("")
}

func TestReadExamples(t *testing.T) { // P4.3, P4.4
	r := wire.New("\x04\x02\x03\x06")
	if l := r.Ints(); !slices.Equal(l, []int{1, -2}) || r.Left() != 1 || r.Bad() {
		t.Errorf("%v, Left %d, Bad %v", l, r.Left(), r.Bad())
	}
	if n := r.Int(); n != 3 || r.Left() != 0 || r.Bad() {
		t.Errorf("%d, Left %d, Bad %v", n, r.Left(), r.Bad())
	}
	if n := r.Int(); n != 0 || r.Left() != 0 || !r.Bad() {
		t.Errorf("%d, Left %d, Bad %v", n, r.Left(), r.Bad())
	}
	r = wire.New("\x80\x00")
	if n := r.Int(); n != 0 || !r.Bad() {
		t.Errorf("128 0: %d, Bad %v", n, r.Bad())
	}
	r = wire.New(wire.Text("2/4"))
	if v := r.Ratio(); !same(v, api.Ratio{}) || !r.Bad() {
		t.Errorf("2/4: %v, Bad %v", v, r.Bad())
	}
}

func TestReadWritten(t *testing.T) { // P4.3
	for _, k := range kinds() {
		for _, v := range k.values() {
			s := k.want(v)
			for _, after := range []string{"", "\x00", "\x80", "\x01\xff", s[:min(len(s), 70)]} {
				r := wire.New(s + after)
				if r.Bad() || r.Left() != len(s)+len(after) {
					t.Fatalf("New of %d bytes: Bad %v, Left %d", len(s)+len(after), r.Bad(), r.Left())
				}
				if got := k.read(r); !same(got, v) || r.Bad() || r.Left() != len(after) {
					t.Errorf("%s of %.200v with %q behind it: %.200v, Bad %v, Left %d", k.name, v, after, got, r.Bad(), r.Left())
				}
			}
		}
	}
}

func TestReadShort(t *testing.T) { // P4.3: of all short strings
	alphabets := map[string][]string{
		"Int":   {"\x00\x01\x02\x3f\x40\x7e\x7f\x80\x81\xc0\xfe\xff"},
		"Text":  {"\x00\x01\x02\x04\x05\x06\x08\x80\x81\xff"},
		"Ints":  {"\x00\x01\x02\x04\x05\x06\x08\x80\x81\xff"},
		"Vec":   {"\x00\x01\x02\x7f\x80\x81\xff"},
		"Cell":  {"\x00\x01\x02\x04\x80\x81\xff"},
		"Ratio": {"\x00\x01\x02\x04\x06\x08-/0124", "\x02\x0501x"},
	}
	for _, k := range kinds() {
		for first := range 256 { // all bytes, alone and before others
			for second := range 256 {
				reads(t, k, string([]byte{byte(first)}))
				reads(t, k, string([]byte{byte(first), byte(second)}))
				reads(t, k, string([]byte{byte(first), byte(second), 1, 1, 1}))
			}
		}
		for _, alphabet := range alphabets[k.name] {
			eachString(alphabet, 5, func(s string) { reads(t, k, s) })
		}
	}
}

func TestReadAnywhere(t *testing.T) { // P4.3: changed and cut serializations
	next := chance(7, 40)
	for range 3000 {
		s := next()
		for _, k := range kinds() {
			reads(t, k, s)
		}
	}
}

func TestReadStrange(t *testing.T) { // P4.3: codes that are too long or too great
	for _, s := range strange() {
		_, _, ok := findInt(s)
		if ok && len(s) > 0 && (len(s) > 10 || s[len(s)-1] > 1 && len(s) == 10) {
			t.Fatalf("%q should not be found", s)
		}
		for _, k := range kinds() {
			reads(t, k, s)
			reads(t, k, s+"\x01\x01\x01\x01")
			reads(t, k, "\x02"+s)
			reads(t, k, "\x02\x02\x02\x02"+s)
			reads(t, k, "\x04\x02\x02\x02\x02\x00\x00\x00"+s)
		}
	}
	for s, want := range map[string]int{"\xff\xff\xff\xff\xff\xff\xff\xff\xff\x01": math.MinInt, "\xfe\xff\xff\xff\xff\xff\xff\xff\xff\x01": math.MaxInt, "\x80\x80\x80\x80\x80\x80\x80\x80\x80\x01": 1 << 62} {
		if r := wire.New(s); r.Int() != want || r.Bad() {
			t.Errorf("%q is %d", s, want)
		}
	}
	for _, s := range []string{"", "\x80", "\x80\x00", "\xff\x00", "\x80\x80\x00", "\xff\xff\xff\xff\xff\xff\xff\xff\xff\x02", "\x80\x80\x80\x80\x80\x80\x80\x80\x80\x02", "\x80\x80\x80\x80\x80\x80\x80\x80\x80\x00", "\x80\x80\x80\x80\x80\x80\x80\x80\x80\x80\x01", strings.Repeat("\xff", 1<<20)} {
		r := wire.New(s)
		if n := r.Int(); n != 0 {
			t.Errorf("%.20q: %d", s, n)
		}
		spent(t, "after a strange code", r)
	}
}

func TestCounts(t *testing.T) { // P4.3: lengths of which there is less, and negative ones
	for _, rest := range []string{"", "a", "\x00\x00\x00\x00\x00", strings.Repeat("\x00", 500)} {
		for _, n := range []int{len(rest) + 1, len(rest) + 2, 1000, 1 << 31, 1<<32 + 1, 1 << 40, 1 << 61, math.MaxInt, -1, -2, -len(rest), -1 << 31, math.MinInt, math.MinInt + 1} {
			if n == 0 {
				continue
			}
			for _, k := range kinds() {
				if k.name == "Int" || k.name == "Vec" {
					continue
				}
				r := wire.New(wire.Int(n) + rest)
				if v := k.read(r); !same(v, k.zero) {
					t.Errorf("%s with the length %d of %d: %v", k.name, n, len(rest), v)
				}
				spent(t, "after a wrong length", r)
			}
		}
	}
}

func TestReadPart(t *testing.T) { // P4.3, P4.4: what was read before the reader became bad is not returned
	for _, s := range []string{"\x02", "\x02\x02", "\x02\x02\x80", "\x06\x02\x02\x80\x00\x02\x02", "\x04\x02\x02\x02\x02\x02\x02\x02", "\x04\x02\x02\x02\x02\x02\x02\x02\x80", "\x04\x02\x02\x02\x02", "\x04\x01\x02\x03\x04\x05\x80\x80\x00", "\x06-1/", "\x082/-3", "\x062/4", "\x063/1", "\x04-0", "\x041", "\x021/2\x80", "\x00"} {
		for _, k := range kinds() {
			reads(t, k, s)
		}
	}
	r := wire.New("\x02\x04\x80\x00\x06\x06\x06\x06")
	if v := r.Vec(); v != (api.Vec{}) {
		t.Errorf("a part of a Vec: %v", v)
	}
	spent(t, "after a part of a Vec", r)
	r = wire.New("\x04\x02\x04\x06\x08\x0a\x0c\x0e")
	if c := r.Cell(); len(c) > 0 {
		t.Errorf("a part of a Cell: %v", c)
	}
	spent(t, "after a part of a Cell", r)
	r = wire.New("\x06\x02\x04\x81\x00\x02\x02")
	if l := r.Ints(); len(l) > 0 {
		t.Errorf("a part of Ints: %v", l)
	}
	spent(t, "after a part of Ints", r)
}

func TestWrongRatios(t *testing.T) { // P4.3: texts that are not those of right Ratios
	tooLong := longest() + "0"
	for _, text := range []string{"", "2/4", "3/1", "0/2", "-0", "+1", "1/-2", "1/0", "01", " 1", "1 ", "1/2/3", "/", "1/", "/2", "a", "1\x00", tooLong, "1/" + tooLong, tooLong + "/7", strings.Repeat("7", 1<<20)} {
		r := wire.New(wire.Text(text) + wire.Text("1/2"))
		if v := r.Ratio(); !same(v, api.Ratio{}) {
			t.Errorf("Ratio of %.50q: %v", text, v)
		}
		spent(t, "after a wrong Ratio", r)
	}
}

func TestBadStaysBad(t *testing.T) { // P4.4
	for _, k := range kinds() {
		for _, good := range []string{"", wire.Text("abc"), wire.Int(9), wire.Ints([]int{1, 2, 3}), wire.Ratio(fraction("1", "2"))} {
			r := wire.New("\x80\x00" + good)
			if v := k.read(r); !same(v, k.zero) {
				t.Errorf("%s: %v", k.name, v)
			}
			spent(t, "after "+k.name, r)
		}
	}
}

func TestNilAndZero(t *testing.T) { // P4.4, R1 of DOC.md
	spent(t, "nil", nil)
	for _, k := range kinds() {
		for _, r := range []*wire.Reader{{}, new(wire.Reader), wire.New("")} {
			if r.Bad() || r.Left() != 0 {
				t.Errorf("a zero Reader: Bad %v, Left %d", r.Bad(), r.Left())
			}
			if v := k.read(r); !same(v, k.zero) {
				t.Errorf("%s of a zero Reader: %v", k.name, v)
			}
			spent(t, k.name+" of a zero Reader", r)
		}
	}
}

func TestLeft(t *testing.T) { // P4.3, P4.4: Left and Bad change nothing, and readers do not disturb each other
	s := wire.Int(64) + wire.Text("ab") + wire.Ints([]int{1, -2}) + wire.Vec(api.Vec{X: 1}) + wire.Cell([]api.Plane{plane(1, 0, 0, 5)}) + wire.Ratio(fraction("-1", "2"))
	a, b := wire.New(s), wire.New(s)
	left := []int{len(s) - 2, len(s) - 5, len(s) - 8, len(s) - 11, len(s) - 16, 0}
	for i, k := range kinds() {
		first := k.read(a)
		other := wire.New("\x80")
		other.Int()
		if second := k.read(b); !same(first, second) || same(first, k.zero) {
			t.Errorf("%s: %v and %v", k.name, first, second)
		}
		for range 3 {
			if a.Left() != left[i] || b.Left() != left[i] || a.Bad() || b.Bad() {
				t.Errorf("after %s: Left %d and %d, Bad %v and %v", k.name, a.Left(), b.Left(), a.Bad(), b.Bad())
			}
		}
	}
}

func TestResultsAreNew(t *testing.T) { // R3 of DOC.md, for P4.3
	s := wire.Ints([]int{1, 2, 3}) + wire.Cell([]api.Plane{plane(1, 2, 3, 4), plane(5, 6, 7, 8)}) + wire.Ratio(fraction("-12", "5"))
	read := func(r *wire.Reader) ([]int, []api.Plane, api.Ratio) { return r.Ints(), r.Cell(), r.Ratio() }
	r := wire.New(s + s)
	l, c, v := read(r)
	clear(l[:cap(l)])
	clear(c[:cap(c)])
	v.N.D[0], v.D.D[0] = 0, 0
	for range 2 {
		l, c, v = read(r)
		if !slices.Equal(l, []int{1, 2, 3}) || !slices.Equal(c, []api.Plane{plane(1, 2, 3, 4), plane(5, 6, 7, 8)}) || !same(v, fraction("-12", "5")) {
			t.Errorf("changed: %v, %v, %v", l, c, v)
		}
		r = wire.New(s)
	}
}
