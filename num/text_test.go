package num_test

import (
	"math"
	"math/big"
	"strconv"
	"strings"
	"testing"

	"collet/api"
	"collet/num"
)

func TestText(t *testing.T) { // P1.6
	try := func(a api.Num) {
		want := value(a).String()
		if got := num.Text(a); got != want {
			t.Errorf("Text of %v: %q instead of %q", a, got, want)
		}
		if got, ok := num.Parse(want); !ok || !same(got, a) {
			t.Errorf("Parse of %q: %v, %v", want, got, ok)
		}
	}
	for _, a := range edges() {
		try(a)
	}
	for i, n := range []int{1, 3, 10, 64} {
		next := chance(uint64(i+20), n)
		for range 500 {
			try(next())
		}
	}
	for n := big.NewInt(1); fits(n); n.Mul(n, big.NewInt(10)) { // zeros within and at the end
		try(number(n))
		try(number(new(big.Int).Sub(n, big.NewInt(1))))
		try(number(new(big.Int).Neg(new(big.Int).Add(n, big.NewInt(1)))))
	}
	if got := num.Text(minus(power(2))); got != "-18446744073709551616" {
		t.Error(got)
	}
	for _, a := range wrong() {
		if got := num.Text(a); got != "" {
			t.Errorf("Text of %v: %q", a, got)
		}
	}
}

func TestParseRefuses(t *testing.T) { // P1.6
	refused := []string{
		"", "-", "--", "-0", "00", "007", "-007", "0x1", "+1", "+0", " 1", "1 ", "\t1", "1\n", "- 1", "--1", "1-", "1-2", "1_000", "1,000", "1.0", "1e3", "a", "1a",
		"1234567890+12345678", "-1234567890 12345678", "12345678_0123456789", "\x00", "1\x00", "\x001", "\u0661", "1\u0661", "\xff", "½",
		"1234567890123456789012345678901234567890x", "x1234567890123456789012345678901234567890", "12345678901234567890x12345678901234567890",
	}
	for _, s := range refused {
		if a, ok := num.Parse(s); ok || !isZero(a) {
			t.Errorf("Parse of %q: %v, %v", s, a, ok)
		}
	}
}

func TestParseLong(t *testing.T) { // P1.6
	limit := value(power(64)) // 2^2048
	below := new(big.Int).Sub(limit, big.NewInt(1))
	for _, sign := range []string{"", "-"} {
		want := filled(64, math.MaxUint32)
		want.Neg = sign == "-"
		if a, ok := num.Parse(sign + below.String()); !ok || !same(a, want) {
			t.Errorf("%s2^2048 - 1: %v, %v", sign, a, ok)
		}
		for _, s := range []string{limit.String(), strings.Repeat("9", 617), strings.Repeat("9", 618), "1" + strings.Repeat("0", 617), "1" + strings.Repeat("0", 639), "1" + strings.Repeat("0", 640), strings.Repeat("7", 1<<24), "0" + below.String()} {
			if a, ok := num.Parse(sign + s); ok || !isZero(a) {
				t.Errorf("%d bytes: %v, %v", len(s), a, ok)
			}
		}
	}
}

func TestParseShort(t *testing.T) { // P1.6: of all short strings just the Texts are read
	var try func(s string)
	try = func(s string) {
		a, ok := num.Parse(s)
		n, err := strconv.Atoi(s)
		isText := err == nil && strconv.Itoa(n) == s
		if ok != isText || ok && !same(a, num.Of(n)) || !ok && !isZero(a) {
			t.Errorf("Parse of %q: %v, %v", s, a, ok)
		}
		if len(s) < 5 {
			for _, c := range []byte("-+0195 x_\x80") {
				try(s + string([]byte{c}))
			}
		}
	}
	try("")
}
