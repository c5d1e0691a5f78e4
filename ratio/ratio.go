// Package ratio is layer 1: it computes with exact fractions. See shared/doc/01-ratio.md.
package ratio

import "awardingbody/api"

// maxTerms is the greatest number of elements of a sum or an apportionment.
const maxTerms = 100

// Valid reports whether a fraction is valid.
func Valid(a api.Ratio) bool {
	if a.Den < 1 || a.Den > api.MaxNumber || a.Num < -api.MaxNumber || a.Num > api.MaxNumber {
		return false
	}
	return gcd(magnitude(a.Num), magnitude(a.Den)) == 1
}

// New returns the fraction num / den in lowest terms.
func New(num, den int) (api.Ratio, api.Errno) {
	if den == 0 {
		return api.Ratio{}, api.ErrRange
	}
	above := wide{lo: magnitude(num)}.signed((num < 0) != (den < 0))
	return quotient(above, magnitude(den), 1)
}

// Add returns the sum.
func Add(a, b api.Ratio) (api.Ratio, api.Errno) {
	if !Valid(a) || !Valid(b) {
		return api.Ratio{}, api.ErrInvalid
	}
	common := int(gcd(magnitude(a.Den), magnitude(b.Den)))
	// Over the least common multiple of the Dens, the sum of the numerators
	// has no divisor in common with a.Den / common.
	num := product(a.Num, b.Den/common).plus(product(b.Num, a.Den/common))
	return quotient(num, magnitude(b.Den), magnitude(a.Den/common))
}

// Sub returns the difference.
func Sub(a, b api.Ratio) (api.Ratio, api.Errno) {
	if !Valid(b) {
		return api.Ratio{}, api.ErrInvalid
	}
	return Add(a, api.Ratio{Num: -b.Num, Den: b.Den})
}

// Mul returns the product.
func Mul(a, b api.Ratio) (api.Ratio, api.Errno) {
	if !Valid(a) || !Valid(b) {
		return api.Ratio{}, api.ErrInvalid
	}
	common := int(gcd(magnitude(b.Num), magnitude(a.Den)))
	return quotient(product(a.Num, b.Num/common), magnitude(b.Den), magnitude(a.Den/common))
}

// Div returns the quotient.
func Div(a, b api.Ratio) (api.Ratio, api.Errno) {
	if !Valid(a) || !Valid(b) {
		return api.Ratio{}, api.ErrInvalid
	}
	if b.Num == 0 {
		return api.Ratio{}, api.ErrRange
	}
	if b.Num < 0 {
		return Mul(a, api.Ratio{Num: -b.Den, Den: -b.Num})
	}
	return Mul(a, api.Ratio{Num: b.Den, Den: b.Num})
}

// Sum returns the sum of a list.
func Sum(l []api.Ratio) (api.Ratio, api.Errno) {
	if len(l) > maxTerms {
		return api.Ratio{}, api.ErrLimit
	}
	for _, a := range l {
		if !Valid(a) {
			return api.Ratio{}, api.ErrInvalid
		}
	}
	den, ok := leastMultiple(l)
	if !ok {
		return api.Ratio{}, api.ErrOverflow
	}
	// 100 products of at most 2^120 make less than 2^127, in any order.
	total := wide{}
	for _, a := range l {
		total = total.plus(product(a.Num, den/a.Den))
	}
	return quotient(total, magnitude(den), 1)
}

// leastMultiple returns the least common multiple of all Dens, if it is at most MaxNumber.
func leastMultiple(l []api.Ratio) (int, bool) {
	all := uint64(1)
	for _, a := range l {
		den := magnitude(a.Den)
		next := times(all/gcd(all, den), den)
		if !next.fits() {
			return 0, false
		}
		all = next.lo
	}
	return int(all), true
}

// Compare returns -1, 0 or 1.
func Compare(a, b api.Ratio) int {
	if !Valid(a) || !Valid(b) {
		return 0
	}
	return product(a.Num, b.Den).compare(product(b.Num, a.Den))
}

// Less reports whether a denotes a smaller number than b.
func Less(a, b api.Ratio) bool { return Compare(a, b) < 0 }
