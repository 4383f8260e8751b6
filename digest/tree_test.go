package digest_test

import (
	"slices"
	"strconv"
	"testing"

	"collet/digest"
)

// tree returns the levels of the tree of l, by the words of the document.
func tree(l []string) [][]string {
	n := 1
	for n < len(l) {
		n *= 2
	}
	level := make([]string, n)
	for i := range level {
		level[i] = reference("\x03")
		if i < len(l) {
			level[i] = reference("\x01" + l[i])
		}
	}
	levels := [][]string{level}
	for len(level) > 1 {
		var next []string
		for pair := range slices.Chunk(level, 2) {
			next = append(next, reference("\x02"+pair[0]+pair[1]))
		}
		level = next
		levels = append(levels, level)
	}
	return levels
}

// top returns the root of the tree of l, by the words of the document.
func top(l []string) string {
	levels := tree(l)
	return levels[len(levels)-1][0]
}

// list returns n strings, some of which are equal, and some of which are no valid UTF-8.
func list(n int) []string {
	var l []string
	for i := range n {
		l = append(l, samples()[i%5]+strconv.Itoa(i/7))
	}
	return l
}

func TestRoot(t *testing.T) { // P2.5
	for n := range 70 {
		wanted(t, "Root of "+strconv.Itoa(n), digest.Root(list(n)), top(list(n)))
		wanted(t, "Root of "+strconv.Itoa(n)+" empty ones", digest.Root(make([]string, n)), top(make([]string, n)))
	}
	for _, n := range []int{127, 128, 129, 255, 256, 257, 1000, 1023, 1024, 1025} {
		wanted(t, "Root of "+strconv.Itoa(n), digest.Root(list(n)), top(list(n)))
	}
	wanted(t, "Root of samples", digest.Root(samples()), top(samples()))
}

func TestRootExamples(t *testing.T) { // P2.5
	a, b, c := digest.Leaf("a"), digest.Leaf("b"), digest.Leaf("c")
	for _, none := range [][]string{nil, {}} {
		wanted(t, "Root of nothing", digest.Root(none), digest.Missing())
	}
	wanted(t, "Root of a", digest.Root([]string{"a"}), a)
	wanted(t, "Root of a, b", digest.Root([]string{"a", "b"}), digest.Inner(a, b))
	wanted(t, "Root of b, a", digest.Root([]string{"b", "a"}), digest.Inner(b, a))
	wanted(t, "Root of a, b, c", digest.Root([]string{"a", "b", "c"}), digest.Inner(digest.Inner(a, b), digest.Inner(c, digest.Missing())))
	// computed elsewhere
	wanted(t, "Root of nothing", digest.Root(nil), fromHex(t, "000c8583001ecec5"))
	wanted(t, "Root of a", digest.Root([]string{"a"}), fromHex(t, "390950c73a5c5d7e"))
	wanted(t, "Root of a, b, c", digest.Root([]string{"a", "b", "c"}), fromHex(t, "7477199d2544b0c8"))
	wanted(t, "Root of five", digest.Root([]string{"", "\x00", "\xff", "x", ""}), fromHex(t, "04dd79392951e23e"))
}

func TestRootOfHalves(t *testing.T) { // P2.7
	next := chance(7, 20)
	for _, n := range []int{2, 4, 8, 16, 64, 256} {
		var l []string
		for range n {
			l = append(l, next())
		}
		wanted(t, "Root of "+strconv.Itoa(n), digest.Root(l), digest.Inner(digest.Root(l[:n/2]), digest.Root(l[n/2:])))
	}
}

// sides returns, for the path from a leaf to the root, the other digest of each pair.
func sides(levels [][]string, leaf int) []string {
	var l []string
	for _, level := range levels[:len(levels)-1] {
		l = append(l, level[leaf^1])
		leaf /= 2
	}
	return l
}

// climb returns the root that a leaf and the sides of its path lead to.
func climb(leaf string, place int, sides []string) string {
	for _, side := range sides {
		if place%2 == 0 {
			leaf = digest.Inner(leaf, side)
		} else {
			leaf = digest.Inner(side, leaf)
		}
		place /= 2
	}
	return leaf
}

func TestRootOfLongerList(t *testing.T) { // P2.7
	for n := range 70 {
		if n&(n-1) == 0 {
			continue
		}
		l := list(n)
		path := sides(tree(l), n)
		wanted(t, "the root before", climb(digest.Missing(), n, path), digest.Root(l))
		longer := append(l, "\xff new")
		wanted(t, "the root with one more", climb(digest.Leaf("\xff new"), n, path), digest.Root(longer))
		before, after := tree(l), tree(longer)
		place := n
		for k := range before {
			for i := range before[k] {
				if (before[k][i] != after[k][i]) != (i == place) {
					t.Errorf("%d and one more: level %d, digest %d", n, k, i)
				}
			}
			place /= 2
		}
		if digest.Root(l) == digest.Root(longer) {
			t.Errorf("%d and one more: the same root", n)
		}
	}
}
