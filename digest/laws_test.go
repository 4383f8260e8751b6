package digest_test

import (
	"slices"
	"strings"
	"testing"

	"collet/digest"
)

func TestOneByte(t *testing.T) { // P2.6
	for _, s := range []string{"\x00", "\xff", "ab", "\xff\xfe\xc3(", "collet", strings.Repeat("\x00", 40), allBytes()} {
		for place := range len(s) {
			seen := map[string]byte{}
			for by := range 256 {
				d := digest.Of(changed(s, place, byte(by)))
				if other, ok := seen[d]; ok {
					t.Fatalf("%q, byte %d: the same digest for the changes by %d and %d", s, place, other, by)
				}
				seen[d] = byte(by)
			}
		}
	}
}

func TestOneByteInBothHalves(t *testing.T) { // P2.6: each half of the digest alone tells the two strings apart
	next := chance(3, 60)
	for range 200 {
		s := next() + "x"
		a, b := digest.Of(s), digest.Of(changed(s, len(s)/2, 1))
		if a[:4] == b[:4] || a[4:] == b[4:] {
			t.Errorf("%q: %x and %x", s, a, b)
		}
	}
}

func TestOtherLists(t *testing.T) { // P2.8
	for n := range 34 {
		l := list(n)
		root := digest.Root(l)
		wanted(t, "Root of an equal list", digest.Root(slices.Clone(l)), root)
		for i := range l {
			for _, other := range []string{"", l[i] + "\x00", "\xff\xff", "\x00" + l[i]} {
				if other == l[i] {
					continue
				}
				longer := slices.Clone(l)
				longer[i] = other
				if digest.Root(longer) == root {
					t.Errorf("%d strings, of which that at %d is changed: the same root", n, i)
				}
			}
		}
		for i := range max(n-1, 0) {
			swapped := slices.Clone(l)
			swapped[i], swapped[i+1] = l[i+1], l[i]
			if (digest.Root(swapped) == root) != (l[i] == l[i+1]) {
				t.Errorf("%d strings, those at %d and %d exchanged", n, i, i+1)
			}
		}
	}
}

func TestOtherMessages(t *testing.T) { // P2.8
	for _, key := range []string{"k", "\x00", "\xff\xfe", allBytes()} {
		for i, msg := range samples() {
			mark := digest.Mark(key, msg)
			for k, other := range samples() {
				if digest.Check(key, other, mark) != (other == msg) {
					t.Errorf("%q: the mark of message %d for message %d", key, i, k)
				}
			}
			for place := range len(msg) {
				if digest.Check(key, changed(msg, place, 1), mark) {
					t.Errorf("%q: the mark of %q for another byte %d", key, msg, place)
				}
			}
			if digest.Check(key, msg+"\x00", mark) || digest.Check(key, "\x00"+msg, mark) || digest.Check(key, msg+key, mark) {
				t.Errorf("%q: the mark of %q for a longer message", key, msg)
			}
		}
	}
}

func TestPurposes(t *testing.T) { // P2.2 to P2.4: no purpose gives the digest of another one
	for _, a := range samples() {
		purposes := []string{digest.Chain("", a), digest.Mark("", a), digest.Leaf(a), digest.Inner("", a), digest.Missing()}
		for i, d := range purposes {
			if slices.Index(purposes, d) != i {
				t.Errorf("%q: %x serves two purposes", a, d)
			}
		}
	}
}

func TestNothingIsChanged(t *testing.T) { // R3 and R4 of DOC.md
	l := make([]string, 5, 8)
	copy(l, []string{"a", "b", "c", "\xff", ""})
	l[:8][5], l[:8][6], l[:8][7] = "x", "y", "z"
	was := slices.Clone(l[:8])
	root := digest.Root(l)
	if !slices.Equal(l[:8], was) {
		t.Errorf("%q became %q", was, l[:8])
	}
	digest.Root([]string{"another"})
	wanted(t, "the same list once more", digest.Root(l), root)
	wanted(t, "what lies behind the list", digest.Root(slices.Clone(was[:5])), root)
}

func TestNoPanic(t *testing.T) { // P1
	digest.Missing()
	digest.Root(nil)
	digest.Root([]string{})
	digest.Root(make([]string, 100001))
	for _, a := range append(samples(), strings.Repeat("\xff", 1<<20)) {
		digest.Of(a)
		digest.Leaf(a)
		digest.Root([]string{a})
		for _, b := range samples() {
			digest.Chain(a, b)
			digest.Mark(a, b)
			digest.Inner(a, b)
			digest.Root([]string{a, b, a})
			for _, mark := range []string{"", "1234567", "12345678", "123456789", a} {
				digest.Check(a, b, mark)
			}
		}
	}
}
