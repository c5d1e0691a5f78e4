package ratio

import (
	"cmp"
	"slices"

	"awardingbody/api"
)

// maxShare is the greatest total and the greatest weight of an apportionment.
const maxShare = 1 << 30

// A rule reports whether an integer plus rest / den is rounded up to the next
// integer. It is told whether the integer is odd; rest is from 0 to den - 1.
type rule func(odd bool, rest, den int) bool

func down(odd bool, rest, den int) bool { return false }

func up(odd bool, rest, den int) bool { return rest > 0 }

// half compares rest with den - rest, because twice rest may not fit.
func half(odd bool, rest, den int) bool { return rest >= den-rest }

func halfEven(odd bool, rest, den int) bool {
	return rest > den-rest || rest == den-rest && odd
}

func rounded(a api.Ratio, upwards rule) int {
	if !Valid(a) {
		return 0
	}
	whole, rest := a.Num/a.Den, a.Num%a.Den
	if rest < 0 {
		whole, rest = whole-1, rest+a.Den
	}
	if upwards(whole%2 != 0, rest, a.Den) {
		whole++
	}
	return whole
}

// Floor returns the greatest integer that is not greater than a.
func Floor(a api.Ratio) int { return rounded(a, down) }

// Ceil returns the least integer that is not less than a.
func Ceil(a api.Ratio) int { return rounded(a, up) }

// Round returns the floor of a + 1/2.
func Round(a api.Ratio) int { return rounded(a, half) }

// Even returns the nearest integer, of two nearest ones the even one.
func Even(a api.Ratio) int { return rounded(a, halfEven) }

// Apportion divides total in proportion to the weights, by the largest remainders.
func Apportion(total int, weights []int) ([]int, api.Errno) {
	if len(weights) > maxTerms {
		return nil, api.ErrLimit
	}
	if total < 0 || total > maxShare || slices.ContainsFunc(weights, notShare) {
		return nil, api.ErrRange
	}
	sum := 0
	for _, w := range weights {
		sum += w
	}
	if sum == 0 {
		return nil, api.ErrNone
	}
	return apportioned(total, sum, weights), api.OK
}

func notShare(n int) bool { return n < 0 || n > maxShare }

// apportioned compares the fractional parts by their rests: all have the denominator sum.
func apportioned(total, sum int, weights []int) []int {
	parts := make([]int, len(weights))
	rests := make([]int, len(weights))
	order := make([]int, len(weights))
	left := total
	for i, w := range weights {
		parts[i], rests[i], order[i] = total*w/sum, total*w%sum, i
		left -= parts[i]
	}
	slices.SortStableFunc(order, func(i, k int) int { return cmp.Compare(rests[k], rests[i]) })
	for _, i := range order[:left] {
		parts[i]++
	}
	return parts
}
