package digest_test

import (
	"strings"
	"testing"

	"collet/digest"
)

func TestOf(t *testing.T) { // P2.1
	next := chance(1, 400)
	list := samples()
	for range 300 {
		list = append(list, next())
	}
	for c := range 256 {
		list = append(list, string([]byte{byte(c)}))
	}
	for _, s := range list {
		wanted(t, "Of", digest.Of(s), reference(s))
	}
}

func TestOfExamples(t *testing.T) { // P2.1: the chapter's examples, and others that were computed elsewhere
	for s, want := range map[string]string{
		"":              "000000110000001d",
		"\x00":          "000c8580001ecec2",
		"\xff":          "000c867f001ecfc1",
		"collet":        "7dd96c5120846d36",
		"é":             "3998356d3b2a7570",
		"\xff\xfe\xc3(": "13fbfa9b6ed3d871",
		allBytes():      "452e5fc4335c126a",
	} {
		wanted(t, "Of", digest.Of(s), fromHex(t, want))
	}
}

func TestOfDependsOnOrder(t *testing.T) { // P2.1
	if digest.Of("ab") == digest.Of("ba") || digest.Of("") == digest.Of("\x00") || digest.Of("\x00") == digest.Of("\x00\x00") {
		t.Error("other bytes with the same digest")
	}
}

func TestChain(t *testing.T) { // P2.2
	for _, before := range samples() {
		for _, s := range samples() {
			wanted(t, "Chain", digest.Chain(before, s), reference("\x04"+counted(before)+s))
		}
	}
	wanted(t, "Chain of nothing", digest.Chain("", ""), digest.Of("\x04\x00\x00\x00\x00"))
	wanted(t, "Chain of nothing", digest.Chain("", ""), fromHex(t, "157c59135c0e7e94"))
	wanted(t, "Chain of a and b", digest.Chain("a", "b"), fromHex(t, "4896722173743af1"))
	wanted(t, "Chain of 300 bytes", digest.Chain(strings.Repeat("z", 300), "\x00\xff"), fromHex(t, "20fca5c07baf111e"))
	if digest.Chain("a", "b") == digest.Chain("ab", "") || digest.Chain("a", "b") == digest.Chain("", "ab") {
		t.Error("the length of what was before does not count")
	}
}

func TestLengthOfFourBytes(t *testing.T) { // P2.2, P2.3
	wanted(t, "Chain of 2^24 + 1 bytes", digest.Chain(strings.Repeat("\x00", 1<<24+1), "end"), fromHex(t, "4fa97cf41db104c4"))
	wanted(t, "Mark with 70000 bytes", digest.Mark(strings.Repeat("k", 70000), strings.Repeat("m", 300)), fromHex(t, "42f52d532a37af9f"))
}

func TestMark(t *testing.T) { // P2.3
	for _, key := range samples() {
		for _, msg := range samples() {
			wanted(t, "Mark", digest.Mark(key, msg), reference("\x05"+counted(key)+counted(msg)+key))
		}
	}
	wanted(t, "Mark of k and m", digest.Mark("k", "m"), digest.Of("\x05\x01\x00\x00\x00k\x01\x00\x00\x00mk"))
	wanted(t, "Mark of k and m", digest.Mark("k", "m"), fromHex(t, "2794da1e3e690c8e"))
	wanted(t, "Mark of an empty key", digest.Mark("", "m"), fromHex(t, "2000036346c204fb"))
	wanted(t, "Mark of an empty message", digest.Mark("key\xff", ""), fromHex(t, "50ce9ac675575177"))
	if digest.Mark("a", "bc") == digest.Mark("ab", "c") || digest.Mark("a", "b") == digest.Mark("b", "a") {
		t.Error("keys and messages are not told apart")
	}
}

func TestCheck(t *testing.T) { // P2.3
	for _, key := range samples() {
		for _, msg := range samples() {
			mark := digest.Mark(key, msg)
			if digest.Check(key, msg, mark) != (key != "") {
				t.Errorf("Check of %q, %q and their mark: %v", key, msg, key == "")
			}
			for place := range mark {
				for _, by := range []byte{1, 0x80, 0xff} {
					if digest.Check(key, msg, changed(mark, place, by)) {
						t.Errorf("Check of %q and %q: a mark with another byte %d", key, msg, place)
					}
				}
			}
		}
	}
}

func TestCheckOfEmptyKey(t *testing.T) { // P2.3
	for _, msg := range samples() {
		for _, mark := range []string{digest.Mark("", msg), digest.Mark("k", msg), ""} {
			if digest.Check("", msg, mark) {
				t.Errorf("%q: the empty key signs with %x", msg, mark)
			}
		}
	}
	if !digest.Check("\x00", "m", digest.Mark("\x00", "m")) {
		t.Error("the byte 0 is a key")
	}
}

func TestCheckOfOtherLengths(t *testing.T) { // P2.3: also where the bytes that are there, or zeros for those that are not, would fit
	if !digest.Check("k", "207", digest.Mark("k", "207")) || digest.Mark("k", "207")[7] != 0 {
		t.Fatal("a mark that ends with the byte 0 is needed here")
	}
	for _, msg := range []string{"207", "m", "", "\xff"} {
		mark := digest.Mark("k", msg)
		for n := range len(mark) {
			if digest.Check("k", msg, mark[:n]) || digest.Check("k", msg, mark[n+1:]) {
				t.Errorf("%q: a mark that is cut at %d", msg, n)
			}
		}
		for _, mark := range []string{mark + "\x00", mark + "k", "\x00" + mark, mark + mark, strings.Repeat("\x00", 8), strings.Repeat(mark, 1000)} {
			if digest.Check("k", msg, mark) {
				t.Errorf("%q: the mark %x", msg, mark)
			}
		}
	}
}

func TestNodes(t *testing.T) { // P2.4
	for _, a := range samples() {
		wanted(t, "Leaf", digest.Leaf(a), reference("\x01"+a))
		for _, b := range samples() {
			wanted(t, "Inner", digest.Inner(a, b), reference("\x02"+a+b))
		}
	}
	wanted(t, "Missing", digest.Missing(), reference("\x03"))
	// the chapter's examples
	wanted(t, "Leaf of a", digest.Leaf("a"), digest.Of("\x01a"))
	wanted(t, "Inner of a and b", digest.Inner("a", "b"), digest.Of("\x02ab"))
	wanted(t, "Missing", digest.Missing(), digest.Of("\x03"))
	// computed elsewhere
	wanted(t, "Leaf of a", digest.Leaf("a"), fromHex(t, "390950c73a5c5d7e"))
	wanted(t, "Leaf of nothing", digest.Leaf(""), fromHex(t, "000c8581001ecec3"))
	wanted(t, "Inner of a and b", digest.Inner("a", "b"), fromHex(t, "3e6ed7df426408af"))
	wanted(t, "Missing", digest.Missing(), fromHex(t, "000c8583001ecec5"))
}
