package wire_test

import (
	"fmt"
	"math"
	"math/rand/v2"
	"slices"
	"strings"
	"testing"

	"collet/wire"
)

func TestNoBeginningOfAnother(t *testing.T) { // P4.5
	for _, k := range kinds() {
		all := map[string]string{} // the values by what they are written as
		for _, v := range k.values() {
			s, text := k.write(v), fmt.Sprintf("%q", v)
			if other, there := all[s]; there {
				t.Errorf("%s of %.200s and of %.200s are equal", k.name, text, other)
			}
			all[s] = text
		}
		var l []string
		for s := range all {
			l = append(l, s)
		}
		slices.Sort(l) // so that what begins with another one comes next to one that does
		for i := 1; i < len(l); i++ {
			if strings.HasPrefix(l[i], l[i-1]) {
				t.Errorf("%s of %.200s is a beginning of that of %.200s", k.name, all[l[i-1]], all[l[i]])
			}
		}
	}
}

func TestReadInOrder(t *testing.T) { // P4.5
	type item struct {
		kind
		value any
	}
	random := rand.New(rand.NewPCG(1, 5))
	all := kinds()
	choices := map[string][]any{}
	for _, k := range all {
		choices[k.name] = k.values()
	}
	for range 400 {
		var items []item
		var parts []string
		for range random.IntN(20) {
			k := all[random.IntN(len(all))]
			v := choices[k.name][random.IntN(len(choices[k.name]))]
			items = append(items, item{k, v})
			parts = append(parts, k.write(v))
		}
		left := len(strings.Join(parts, ""))
		r := wire.New(strings.Join(parts, ""))
		for i, x := range items {
			left -= len(parts[i])
			if got := x.read(r); !same(got, x.value) || r.Bad() || r.Left() != left {
				t.Fatalf("the %s with the index %d: %.200v instead of %.200v, Left %d instead of %d", x.name, i, got, x.value, r.Left(), left)
			}
		}
		all[random.IntN(len(all))].read(r)
		spent(t, "beyond the end", r)
	}
}

func TestBytesOfInt(t *testing.T) { // P4.6
	for _, n := range ints() {
		size := len(wire.Int(n))
		if (size == 1) != (-64 <= n && n <= 63) || size < 1 || size > 10 {
			t.Errorf("Int of %d has %d bytes", n, size)
		}
	}
	for _, n := range []int{math.MaxInt, math.MinInt, 1 << 62, -1<<62 - 1} {
		if size := len(wire.Int(n)); size != 10 {
			t.Errorf("Int of %d has %d bytes", n, size)
		}
	}
}

func TestWithoutTheLastByte(t *testing.T) { // P4.6
	for _, k := range kinds() {
		for _, v := range k.values() {
			s := k.write(v)
			r := wire.New(s[:len(s)-1])
			if got := k.read(r); !same(got, k.zero) {
				t.Errorf("%s of %.200v without the last byte: %.200v", k.name, v, got)
			}
			if !r.Bad() || r.Left() != 0 {
				t.Errorf("%s of %.200v without the last byte: Bad %v, Left %d", k.name, v, r.Bad(), r.Left())
			}
			if len(s) < 80 { // and without more of the last ones
				for end := range len(s) {
					reads(t, k, s[:end])
				}
			}
		}
	}
}

func TestNoPanic(t *testing.T) { // P1
	for _, r := range wrongRatios() {
		wire.Ratio(r)
	}
	random := rand.New(rand.NewPCG(2, 5))
	next := chance(8, 300)
	all := kinds()
	for range 20000 {
		s := next()
		r := wire.New(s)
		for before := r.Left(); !r.Bad(); before = r.Left() {
			k := all[random.IntN(len(all))]
			k.read(r)
			if left := r.Left(); !r.Bad() && left >= before {
				t.Fatalf("%s of %q has read nothing", k.name, s)
			}
		}
	}
}

func TestReadLong(t *testing.T) { // P1, P4.3
	const size = 1 << 21
	zeros := strings.Repeat("\x00", 4*size)
	for _, k := range kinds() {
		r := wire.New(wire.Int(size) + zeros)
		switch v := k.read(r); k.name {
		case "Ratio": // a long text that is none of a Ratio
			spent(t, "a long Ratio", r)
		default:
			reads := map[string]int{"Int": 0, "Text": size, "Ints": size, "Vec": 2, "Cell": 4 * size}
			if r.Bad() || r.Left() != len(zeros)-reads[k.name] || same(v, k.zero) {
				t.Errorf("%s: Bad %v, Left %d", k.name, r.Bad(), r.Left())
			}
		}
		r = wire.New(wire.Int(math.MaxInt) + zeros)
		k.read(r)
		if k.name != "Int" && k.name != "Vec" {
			spent(t, "a list without an end", r)
		}
	}
}
