package ratio_test

import (
	"math/big"
	"strings"
	"testing"

	"collet/api"
	"collet/ratio"
)

func TestText(t *testing.T) { // P3.7
	check := func(r api.Ratio) {
		want := rat(r).RatString()
		if got := ratio.Text(r); got != want {
			t.Errorf("Text of %v: %q instead of %q", r, got, want)
		}
		if got, ok := ratio.Parse(want); !ok || !same(got, r) {
			t.Errorf("Parse of %q: %v, %v", want, got, ok)
		}
	}
	for _, r := range edges() {
		check(r)
	}
	for i, size := range []int{1, 2, 64} {
		next := chance(uint64(i+30), size)
		for range 300 {
			check(next())
		}
	}
	for want, r := range map[string]api.Ratio{"-3/2": small(-3, 2), "5": small(5, 1), "-5": small(-5, 1), "0": small(0, 1), "1": small(1, 1), "1/2": small(1, 2), "10/11": small(10, 11), "-1/18446744073709551616": negated(part(power(2)))} {
		if got := ratio.Text(r); got != want {
			t.Errorf("Text of %v: %q", r, got)
		}
		check(r)
	}
}

func TestParseRefuses(t *testing.T) { // P3.7
	refused := []string{
		"2/4", "3/1", "+1", "0/1", "0/2", "-0", "-0/3", "1/0", "0/0", "1/-2", "-1/-2", "1/+2", "+1/2", "-3/1", "6/3", "4/4", "1/1", "3/01", "01/2", "1/02", "007",
		"", "/", "1/", "/2", "-/2", "1/-", "1//2", "1/2/", "/1/2", "1/2/3", "1/2/1", "1 / 2", " 1/2", "1/2 ", "1/ 2", "1/2\n", "1\\2", "1:2", "1,5", "0.5", "1e3", "0x1/2", "1/0x2", "1_0/3", "1/3_0", "a", "1/a", "a/2", "½", "1\u20442", "1/\u0663", "1/2\x00", "\xff",
	}
	for _, s := range refused {
		if r, ok := ratio.Parse(s); ok || !same(r, api.Ratio{}) {
			t.Errorf("Parse of %q: %v, %v", s, r, ok)
		}
	}
}

func TestParseLong(t *testing.T) { // P3.7
	tooLong := limit(64).String()
	fits := value(filled(64)).String()
	for _, s := range []string{tooLong, "-" + tooLong, tooLong + "/3", "1/" + tooLong, tooLong + "/" + tooLong, fits + "/" + fits, "2/" + limit(63).String(), fits + "/1", "3/" + fits, strings.Repeat("7", 1<<24), "1/" + strings.Repeat("7", 1<<24), strings.Repeat("7", 1<<24) + "/2", strings.Repeat("/", 1<<24)} {
		if r, ok := ratio.Parse(s); ok || !same(r, api.Ratio{}) {
			t.Errorf("Parse of %d bytes: %v, %v", len(s), r, ok)
		}
	}
	for s, want := range map[string]api.Ratio{fits: whole(filled(64)), "1/" + fits: part(filled(64)), "-" + fits + "/" + limit(63).String(): negated(api.Ratio{N: filled(64), D: power(63)})} {
		if r, ok := ratio.Parse(s); !ok || !same(r, want) {
			t.Errorf("Parse of %q: %v, %v", s, r, ok)
		}
	}
}

func TestParseShort(t *testing.T) { // P3.7: of all short strings just the Texts are read
	var check func(s string)
	check = func(s string) {
		r, ok := ratio.Parse(s)
		v, readable := new(big.Rat).SetString(s)
		isText := readable && v.RatString() == s
		switch {
		case ok != isText:
			t.Errorf("Parse of %q: %v, %v", s, r, ok)
		case ok && (rat(r).Cmp(v) != 0 || !ratio.Right(r) || ratio.Text(r) != s):
			t.Errorf("Parse of %q: %v", s, r)
		case !ok && !same(r, api.Ratio{}):
			t.Errorf("Parse of %q: false, but %v", s, r)
		}
		if len(s) < 5 {
			for _, c := range []byte("-+/01269 .") {
				check(s + string([]byte{c}))
			}
		}
	}
	check("")
}
