package num

import (
	"slices"
	"strconv"
	"strings"

	"collet/api"
)

const (
	groupDecimals = 9 // the most decimal digits that always fit a digit
	group         = 1_000_000_000
	maxDecimals   = 10 * api.MaxDigits // a digit is less than ten decimal ones: what has more decimals never fits
)

// Text returns a in decimal; the empty string if it is not right.
func Text(a api.Num) string {
	if !Right(a) {
		return ""
	}
	var text strings.Builder
	if a.Neg {
		text.WriteByte('-')
	}
	groups := decimalGroups(a.D)
	for i, g := range slices.Backward(groups) {
		part := strconv.FormatUint(uint64(g), 10)
		if i < len(groups)-1 {
			text.WriteString(strings.Repeat("0", groupDecimals-len(part)))
		}
		text.WriteString(part)
	}
	return text.String()
}

// decimalGroups returns the digits of d to the base group, the lowest one first; 0 has one.
func decimalGroups(d []uint32) []uint32 {
	left := resize(d, len(d))
	groups := []uint32{shorten(left, group)}
	for left = trim(left); len(left) > 0; left = trim(left) {
		groups = append(groups, shorten(left, group))
	}
	return groups
}

// Parse returns the Num whose Text is s; false if there is none.
func Parse(s string) (api.Num, bool) {
	decimals, neg := strings.CutPrefix(s, "-")
	if len(decimals) == 0 || len(decimals) > maxDecimals {
		return api.Num{}, false
	}
	if decimals[0] == '0' && s != "0" {
		return api.Num{}, false
	}
	d, ok := parseDecimals(decimals)
	if !ok {
		return api.Num{}, false
	}
	return number(neg, d)
}

// parseDecimals returns the digits of an integer in decimal; false if there is a byte that is no decimal digit.
func parseDecimals(decimals string) ([]uint32, bool) {
	var d []uint32
	for len(decimals) > 0 {
		first := (len(decimals)-1)%groupDecimals + 1 // all groups but the first one are whole
		part, err := strconv.ParseUint(decimals[:first], 10, digitBits)
		if err != nil {
			return nil, false
		}
		d = plus(times(d, []uint32{group}), split(part))
		decimals = decimals[first:]
	}
	return d, true
}
