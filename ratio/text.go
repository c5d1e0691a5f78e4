package ratio

import (
	"strconv"
	"strings"

	"awardingbody/api"
)

const (
	maxDigits   = 19 // of an integer: one word holds all of them
	maxDecimals = 9  // digits behind the point
)

// Parse returns the fraction that a text denotes.
func Parse(s string) (api.Ratio, api.Errno) {
	unsigned, negative := strings.CutPrefix(s, "-")
	num, den, code := parsedMagnitude(unsigned)
	if code != api.OK {
		return api.Ratio{}, code
	}
	return quotient(num.signed(negative), den, 1)
}

// parsedMagnitude returns the numerator and the denominator of a text without a sign, not reduced.
func parsedMagnitude(s string) (wide, uint64, api.Errno) {
	if above, below, found := strings.Cut(s, "/"); found {
		return parsedFraction(above, below)
	}
	front, behind, found := strings.Cut(s, ".")
	whole, ok := parsedDigits(front, maxDigits)
	if !ok {
		return wide{}, 0, api.ErrSyntax
	}
	if !found {
		return wide{lo: whole}, 1, api.OK
	}
	part, ok := parsedDigits(behind, maxDecimals)
	if !ok {
		return wide{}, 0, api.ErrSyntax
	}
	scale := powerOfTen(len(behind))
	return times(whole, scale).plus(wide{lo: part}), scale, api.OK
}

func parsedFraction(above, below string) (wide, uint64, api.Errno) {
	num, ok := parsedDigits(above, maxDigits)
	if !ok {
		return wide{}, 0, api.ErrSyntax
	}
	den, ok := parsedDigits(below, maxDigits)
	if !ok {
		return wide{}, 0, api.ErrSyntax
	}
	if den == 0 {
		return wide{}, 0, api.ErrRange
	}
	return wide{lo: num}, den, api.OK
}

// parsedDigits returns the number that 1 to most digits, most at most maxDigits, denote.
func parsedDigits(s string, most int) (uint64, bool) {
	if len(s) < 1 || len(s) > most {
		return 0, false
	}
	n := uint64(0)
	for i := range len(s) {
		if s[i] < '0' || s[i] > '9' {
			return 0, false
		}
		n = 10*n + uint64(s[i]-'0')
	}
	return n, true
}

func powerOfTen(digits int) uint64 {
	power := uint64(1)
	for range digits {
		power *= 10
	}
	return power
}

// Format returns the text of a fraction.
func Format(a api.Ratio) string {
	if !Valid(a) {
		return ""
	}
	if a.Den == 1 {
		return strconv.Itoa(a.Num)
	}
	return strconv.Itoa(a.Num) + "/" + strconv.Itoa(a.Den)
}

// Decimal returns a with a number of digits behind the point.
func Decimal(a api.Ratio, digits int) string {
	if !Valid(a) || digits < 0 || digits > maxDecimals {
		return ""
	}
	scale := powerOfTen(digits)
	// Rounding to even is symmetric, so the magnitude may be rounded.
	n, rest := times(magnitude(a.Num), scale).divided(magnitude(a.Den))
	if halfEven(n.lo%2 == 1, int(rest), a.Den) {
		n = n.plus(wide{lo: 1})
	}
	whole, part := n.divided(scale)
	text := strconv.FormatUint(whole.lo, 10)
	if digits > 0 {
		text += "." + padded(part, digits)
	}
	if a.Num < 0 && n != (wide{}) {
		text = "-" + text
	}
	return text
}

// padded returns the decimal digits of n with zeros in front.
func padded(n uint64, digits int) string {
	text := strconv.FormatUint(n, 10)
	return strings.Repeat("0", digits-len(text)) + text
}
