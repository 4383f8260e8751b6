package wire_test

import (
	"bytes"
	"math"
	"math/big"
	"math/rand/v2"
	"slices"
	"strings"
	"testing"

	"collet/api"
	"collet/num"
	"collet/ratio"
	"collet/wire"
)

// kind is one of the kinds of values: its functions, and what they should do.
type kind struct {
	name   string
	values func() []any // different ones
	zero   any
	write  func(v any) string
	read   func(r *wire.Reader) any
	want   func(v any) string              // the serialization, computed in another way
	find   func(s string) (any, int, bool) // the value whose serialization is a beginning of s, and the length of this beginning
}

// kinds returns all kinds.
func kinds() []kind {
	return []kind{
		{"Int", values(ints), 0, func(v any) string { return wire.Int(v.(int)) }, func(r *wire.Reader) any { return r.Int() }, func(v any) string { return wantInt(v.(int)) }, found(findInt)},
		{"Text", values(texts), "", func(v any) string { return wire.Text(v.(string)) }, func(r *wire.Reader) any { return r.Text() }, func(v any) string { return wantText(v.(string)) }, found(findText)},
		{"Ints", values(lists), []int(nil), func(v any) string { return wire.Ints(v.([]int)) }, func(r *wire.Reader) any { return r.Ints() }, func(v any) string { return wantInts(v.([]int)) }, found(findInts)},
		{"Vec", values(vecs), api.Vec{}, func(v any) string { return wire.Vec(v.(api.Vec)) }, func(r *wire.Reader) any { return r.Vec() }, func(v any) string { return wantVec(v.(api.Vec)) }, found(findVec)},
		{"Cell", values(cells), []api.Plane(nil), func(v any) string { return wire.Cell(v.([]api.Plane)) }, func(r *wire.Reader) any { return r.Cell() }, func(v any) string { return wantCell(v.([]api.Plane)) }, found(findCell)},
		{"Ratio", values(ratios), api.Ratio{}, func(v any) string { return wire.Ratio(v.(api.Ratio)) }, func(r *wire.Reader) any { return r.Ratio() }, func(v any) string { return wantRatio(v.(api.Ratio)) }, found(findRatio)},
	}
}

// values makes of a function that returns values of one type one that returns any.
func values[T any](list func() []T) func() []any {
	return func() []any {
		var out []any
		for _, v := range list() {
			out = append(out, v)
		}
		return out
	}
}

// found makes of a function that finds values of one type one that finds any.
func found[T any](find func(s string) (T, int, bool)) func(s string) (any, int, bool) {
	return func(s string) (any, int, bool) {
		v, size, ok := find(s)
		return v, size, ok
	}
}

// same reports whether two values of one kind are equal, nil and empty lists too.
func same(a, b any) bool {
	switch x := a.(type) {
	case []int:
		return slices.Equal(x, b.([]int))
	case []api.Plane:
		return slices.Equal(x, b.([]api.Plane))
	case api.Ratio:
		y := b.(api.Ratio)
		return x.N.Neg == y.N.Neg && x.D.Neg == y.D.Neg && slices.Equal(x.N.D, y.N.D) && slices.Equal(x.D.D, y.D.D)
	}
	return a == b
}

// wantCode returns the code of n.
func wantCode(n int) *big.Int {
	v := new(big.Int).Mul(big.NewInt(2), big.NewInt(int64(n)))
	if n < 0 {
		v.Neg(v).Sub(v, big.NewInt(1))
	}
	return v
}

// wantBytes returns the bytes of a code, which may also be too great for an int.
func wantBytes(code *big.Int) string {
	rest, group, base := new(big.Int).Set(code), new(big.Int), big.NewInt(128)
	var out []byte
	for rest.DivMod(rest, base, group); rest.Sign() > 0; rest.DivMod(rest, base, group) {
		out = append(out, byte(128+group.Int64()))
	}
	return string(append(out, byte(group.Int64())))
}

func wantInt(n int) string { return wantBytes(wantCode(n)) }

func wantText(s string) string { return wantInt(len(s)) + s }

func wantInts(l []int) string {
	out := []string{wantInt(len(l))}
	for _, n := range l {
		out = append(out, wantInt(n))
	}
	return strings.Join(out, "")
}

func wantVec(v api.Vec) string { return wantInt(v.X) + wantInt(v.Y) + wantInt(v.Z) }

func wantCell(c []api.Plane) string {
	out := []string{wantInt(len(c))}
	for _, p := range c {
		out = append(out, wantVec(p.N), wantInt(p.B))
	}
	return strings.Join(out, "")
}

func wantRatio(r api.Ratio) string {
	if !ratio.Right(r) {
		return ""
	}
	text := num.Text(r.N)
	if bottom := num.Text(r.D); bottom != "1" {
		text += "/" + bottom
	}
	return wantText(text)
}

// findInt takes all bytes to the first one below 128, and asks whether they are the bytes of what they mean.
func findInt(s string) (int, int, bool) {
	size := slices.IndexFunc([]byte(s), func(c byte) bool { return c < 128 }) + 1
	if size == 0 {
		return 0, 0, false
	}
	code := new(big.Int)
	for i := size - 1; i >= 0; i-- {
		code.Lsh(code, 7).Add(code, big.NewInt(int64(s[i]&127)))
	}
	if code.BitLen() > 64 || wantBytes(code) != s[:size] {
		return 0, 0, false
	}
	n := new(big.Int).Rsh(code, 1)
	if code.Bit(0) == 1 {
		n.Neg(n).Sub(n, big.NewInt(1))
	}
	return int(n.Int64()), size, true
}

// findText tries all beginnings of a short string, and all their ends as values.
func findText(s string) (string, int, bool) {
	for size := range len(s) + 1 {
		for start := range size + 1 {
			if v := s[start:size]; wantText(v) == s[:size] {
				return v, size, true
			}
		}
	}
	return "", 0, false
}

// findMany finds n ints, one after the other.
func findMany(s string, n int) ([]int, int, bool) {
	var l []int
	at := 0
	for range n {
		v, size, ok := findInt(s[at:])
		if !ok {
			return nil, 0, false
		}
		l, at = append(l, v), at+size
	}
	return l, at, true
}

// findList finds a list whose elements have some ints each.
func findList(s string, each int) ([]int, int, bool) {
	n, start, ok := findInt(s)
	if !ok || n < 0 || n > len(s) {
		return nil, 0, false
	}
	l, size, ok := findMany(s[start:], n*each)
	if !ok {
		return nil, 0, false
	}
	return l, start + size, true
}

func findInts(s string) ([]int, int, bool) { return findList(s, 1) }

func findVec(s string) (api.Vec, int, bool) {
	l, size, ok := findMany(s, 3)
	if !ok {
		return api.Vec{}, 0, false
	}
	return api.Vec{X: l[0], Y: l[1], Z: l[2]}, size, true
}

func findCell(s string) ([]api.Plane, int, bool) {
	l, size, ok := findList(s, 4)
	var out []api.Plane
	for p := range slices.Chunk(l, 4) {
		out = append(out, plane(p[0], p[1], p[2], p[3]))
	}
	return out, size, ok
}

// findRatio asks math/big whether a text is one of a Ratio that is not too long.
func findRatio(s string) (api.Ratio, int, bool) {
	text, size, ok := findText(s)
	v, readable := new(big.Rat).SetString(text)
	if !ok || !readable || v.RatString() != text || v.Num().BitLen() > 32*api.MaxDigits || v.Denom().BitLen() > 32*api.MaxDigits {
		return api.Ratio{}, 0, false
	}
	return fraction(v.Num().String(), v.Denom().String()), size, true
}

// plane returns the plane of four numbers.
func plane(x, y, z, b int) api.Plane { return api.Plane{N: api.Vec{X: x, Y: y, Z: z}, B: b} }

// fraction returns the Ratio with these integers, reduced or not.
func fraction(n, d string) api.Ratio {
	top, topRead := num.Parse(n)
	bottom, bottomRead := num.Parse(d)
	if !topRead || !bottomRead {
		panic("fraction of what are no integers")
	}
	return api.Ratio{N: top, D: bottom}
}

// ints returns different ints: small ones, those round each length of codes, and those at the ends.
func ints() []int {
	var out []int
	for n := -300; n <= 300; n++ {
		out = append(out, n)
	}
	for bits := 9; bits < 63; bits++ {
		for _, n := range []int{1<<bits - 1, 1 << bits, 1<<bits + 1} {
			out = append(out, n, -n)
		}
	}
	out = append(out, math.MaxInt, math.MaxInt-1, math.MinInt, math.MinInt+1, math.MinInt+2, 1234567890123456789, -1234567890123456789)
	slices.Sort(out)
	return slices.Compact(out)
}

// texts returns different strings; of some the length has two bytes or more.
func texts() []string {
	out := []string{"", "ab", "ä", "\x00", "\x00\x00", "\xff", "\xff\xfe", "\x80\x00", "\x02", "\x04ab", "-1/2", "0", "2/4"}
	for _, size := range []int{1, 3, 62, 63, 64, 65, 127, 128, 129, 8191, 8192, 8193, 70000} {
		out = append(out, strings.Repeat("x", size), string(bytes.Repeat([]byte{200}, size)))
	}
	return out
}

// lists returns different lists of ints.
func lists() [][]int {
	out := [][]int{nil, {0}, {0, 0}, {1}, {-1}, {1, -2}, {-2, 1}, {64}, {-65}, {1, 64}, {128, 0}, {math.MaxInt}, {math.MinInt}, {math.MinInt, math.MaxInt, 0}, ints()}
	for _, size := range []int{3, 62, 63, 64, 65, 9000} {
		out = append(out, slices.Repeat([]int{0}, size), slices.Repeat([]int{-70}, size))
	}
	return out
}

// vecs returns different vectors.
func vecs() []api.Vec {
	few := []int{0, 1, -1, 63, -64, 64, -65, 8191, 8192, 1 << 40, math.MaxInt, math.MinInt}
	var out []api.Vec
	for _, x := range few {
		for _, y := range few {
			for _, z := range few {
				out = append(out, api.Vec{X: x, Y: y, Z: z})
			}
		}
	}
	return out
}

// cells returns different lists of planes, none of which need be a plane that is valid.
func cells() [][]api.Plane {
	out := [][]api.Plane{nil, {{}}, {{}, {}}, {plane(1, 0, 0, 5)}, {plane(0, 1, 0, 5)}, {plane(0, 0, 1, 5)}, {plane(5, 0, 0, 1)}, {plane(1, 0, 0, 5), plane(-1, 0, 0, 5)}, {plane(-1, 0, 0, 5), plane(1, 0, 0, 5)}, {plane(math.MinInt, math.MaxInt, -64, 64)}, {plane(4608, -4608, 0, -1<<21), plane(0, 0, -1, 24), plane(300, 0, 0, 300)}}
	for _, size := range []int{63, 64, 3000} {
		out = append(out, slices.Repeat([]api.Plane{plane(1, -2, 300, -400)}, size), slices.Repeat([]api.Plane{{}}, size))
	}
	return out
}

// longest returns the text of the greatest integer of 64 digits.
func longest() string {
	v := new(big.Int).Lsh(big.NewInt(1), 32*api.MaxDigits)
	return v.Sub(v, big.NewInt(1)).String()
}

// ratios returns different right Ratios.
func ratios() []api.Ratio {
	var out []api.Ratio
	for _, p := range [][2]string{{"0", "1"}, {"1", "1"}, {"-1", "1"}, {"-1", "2"}, {"1", "2"}, {"2", "1"}, {"12", "1"}, {"1", "12"}, {"-7", "3"}, {"3", "7"}, {"9223372036854775808", "1"}, {"-1", "18446744073709551616"}, {longest(), "1"}, {"-" + longest(), "2"}, {"1", longest()}, {"-2", longest()}} {
		out = append(out, fraction(p[0], p[1]))
	}
	return out
}

// wrongRatios returns Ratios that are not right.
func wrongRatios() []api.Ratio {
	one, long := num.Of(1), api.Num{D: slices.Repeat([]uint32{1}, 65)}
	return []api.Ratio{
		{}, {N: one}, {D: api.Num{Neg: true}}, fraction("2", "4"), fraction("0", "2"), fraction("3", "3"), fraction("1", "-2"), fraction("-1", "-2"), fraction("1", "0"), fraction("0", "0"), fraction("6", "2"), fraction("0", "-1"),
		{N: long, D: one}, {N: one, D: long}, {N: api.Num{Neg: true}, D: one}, {N: api.Num{D: []uint32{0}}, D: one}, {N: one, D: api.Num{D: []uint32{2, 0}}}, {N: api.Num{D: []uint32{1, 0}}, D: one}, fraction(longest(), longest()),
	}
}

// strange returns strings of which an Int can't be read.
func strange() []string {
	var out []string
	for size := range 13 { // bytes without an end, codes with too many bytes, and too great ones
		for _, c := range []byte{128, 129, 255} {
			s := string(bytes.Repeat([]byte{c}, size))
			out = append(out, s)
			if size > 0 {
				out = append(out, s+"\x00")
			}
			if size == 9 {
				out = append(out, s+"\x02", s+"\x03", s+"\x04", s+"\x40", s+"\x7f")
			}
			if size > 9 {
				out = append(out, s+"\x01", s+"\x02", s+"\x7f")
			}
		}
	}
	return out
}

// chance returns strings of up to some bytes, many of which mean something; the same ones for the same seed.
func chance(seed uint64, most int) func() string {
	r := rand.New(rand.NewPCG(seed, 4))
	var all []string
	for _, k := range kinds() {
		for _, v := range k.values() {
			if s := k.want(v); len(s) <= most {
				all = append(all, s)
			}
		}
	}
	return func() string {
		var out []byte
		for len(out) < most && r.IntN(8) > 0 {
			switch r.IntN(4) {
			case 0:
				out = append(out, byte(r.IntN(256)))
			case 1:
				out = append(out, byte(r.IntN(8)))
			default:
				out = append(out, all[r.IntN(len(all))]...)
			}
		}
		if len(out) > most {
			out = out[:most]
		}
		return string(out)
	}
}

// spent complains unless nothing can be read of a bad reader any more.
func spent(t *testing.T, what string, r *wire.Reader) {
	t.Helper()
	for range 2 {
		for _, k := range kinds() {
			if !r.Bad() || r.Left() != 0 {
				t.Fatalf("%s: Bad is %v, Left %d", what, r.Bad(), r.Left())
			}
			if v := k.read(r); !same(v, k.zero) {
				t.Fatalf("%s: then %s returns %v", what, k.name, v)
			}
		}
	}
	if !r.Bad() || r.Left() != 0 {
		t.Fatalf("%s: at last Bad is %v, Left %d", what, r.Bad(), r.Left())
	}
}
