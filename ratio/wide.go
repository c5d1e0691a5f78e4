package ratio

import (
	"cmp"
	"math/bits"

	"awardingbody/api"
)

// wide is an integer of two words, as two's complement. The sums and the
// products that the package takes stay below 2^127, so that the sign is kept.
type wide struct{ hi, lo uint64 }

// magnitude is exact for the least int too, whose opposite is not an int.
func magnitude(n int) uint64 {
	if n < 0 {
		return -uint64(n)
	}
	return uint64(n)
}

func times(a, b uint64) wide {
	hi, lo := bits.Mul64(a, b)
	return wide{hi, lo}
}

func product(a, b int) wide {
	return times(magnitude(a), magnitude(b)).signed((a < 0) != (b < 0))
}

// signed returns w, or its opposite.
func (w wide) signed(opposite bool) wide {
	if !opposite {
		return w
	}
	return wide{^w.hi, ^w.lo}.plus(wide{lo: 1})
}

func (w wide) plus(v wide) wide {
	lo, carry := bits.Add64(w.lo, v.lo, 0)
	hi, _ := bits.Add64(w.hi, v.hi, carry)
	return wide{hi, lo}
}

func (w wide) negative() bool { return int64(w.hi) < 0 }

func (w wide) compare(v wide) int {
	return cmp.Or(cmp.Compare(int64(w.hi), int64(v.hi)), cmp.Compare(w.lo, v.lo))
}

// divided returns the quotient and the rest of w, which is not negative.
func (w wide) divided(by uint64) (wide, uint64) {
	lo, rest := bits.Div64(w.hi%by, w.lo, by)
	return wide{w.hi / by, lo}, rest
}

// fits reports whether w, which is not negative, is at most MaxNumber.
func (w wide) fits() bool { return w.hi == 0 && w.lo <= api.MaxNumber }

func gcd(a, b uint64) uint64 {
	for b != 0 {
		a, b = b, a%b
	}
	return a
}

// quotient returns the fraction that denotes num / (den * factor). num and
// factor have no common divisor, so that reducing num and den is enough.
func quotient(num wide, den, factor uint64) (api.Ratio, api.Errno) {
	negative := num.negative()
	num = num.signed(negative)
	_, rest := num.divided(den)
	common := gcd(den, rest)
	above, _ := num.divided(common)
	below := times(den/common, factor)
	if !above.fits() || !below.fits() {
		return api.Ratio{}, api.ErrOverflow
	}
	a := api.Ratio{Num: int(above.lo), Den: int(below.lo)}
	if negative {
		a.Num = -a.Num
	}
	return a, api.OK
}
