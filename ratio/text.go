package ratio

import (
	"strings"

	"collet/api"
	"collet/num"
)

const (
	bar   = "/"
	whole = "1" // the D that is not written
)

// Text returns N, and D behind a bar unless it is 1; the empty string if a is not right.
func Text(a api.Ratio) string {
	if !Right(a) {
		return ""
	}
	if isOne(a.D) {
		return num.Text(a.N)
	}
	return num.Text(a.N) + bar + num.Text(a.D)
}

// Parse returns the right Ratio whose Text is s; false if there is none.
func Parse(s string) (api.Ratio, bool) {
	top, bottom, barred := strings.Cut(s, bar)
	if !barred {
		bottom = whole
	} else if bottom == whole {
		return api.Ratio{}, false
	}
	n, topRead := num.Parse(top)
	d, bottomRead := num.Parse(bottom)
	r := api.Ratio{N: n, D: d}
	if !topRead || !bottomRead || !Right(r) {
		return api.Ratio{}, false
	}
	return r, true
}
