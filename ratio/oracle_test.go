package ratio_test

import (
	"math"
	"math/big"
	"math/rand/v2"

	"awardingbody/api"
)

const most = api.MaxNumber

func r(num, den int) api.Ratio { return api.Ratio{Num: num, Den: den} }

// exact is the number that a valid fraction denotes.
func exact(a api.Ratio) *big.Rat { return big.NewRat(int64(a.Num), int64(a.Den)) }

func number(n int) *big.Rat { return big.NewRat(int64(n), 1) }

// fitted is what the chapter says of an exact result.
func fitted(x *big.Rat) (api.Ratio, api.Errno) {
	limit := big.NewInt(most)
	if x.Num().CmpAbs(limit) > 0 || x.Denom().Cmp(limit) > 0 {
		return api.Ratio{}, api.ErrOverflow
	}
	return r(int(x.Num().Int64()), int(x.Denom().Int64())), api.OK
}

var invalid = []api.Ratio{
	r(0, 0), r(1, 0), r(0, 2), r(0, -1), r(1, -1), r(-1, -1), r(2, 4), r(-6, 4), r(2, 2), r(most, 2),
	r(most+1, 1), r(-most-1, 1), r(1, most+1), r(0, most), r(most+1, 3), r(5, 2*most+1),
	r(math.MinInt, 1), r(math.MinInt, 3), r(1, math.MinInt), r(math.MinInt, math.MinInt),
	r(math.MaxInt, 1), r(1, math.MaxInt), r(math.MaxInt, math.MaxInt), r(0, math.MinInt), r(0, math.MaxInt),
}

// edges are numerators and denominators at the limits, with and without common divisors.
var edges = []int{
	1, 2, 3, 4, 5, 6, 7, 12, 100, 101, 999999937, 1 << 30, 1<<30 + 1, 1<<31 - 1, 1 << 32, 1<<32 + 1,
	most/2 - 1, most / 2, most/2 + 1, most / 3, 2*(most/3) + 1, most - 3, most - 2, most - 1, most,
}

// samples are valid fractions: those of the edges, and some of each size.
func samples() []api.Ratio {
	var l []api.Ratio
	add := func(num, den int) {
		if a, code := fitted(big.NewRat(int64(num), int64(den))); code == api.OK {
			l = append(l, a)
		}
	}
	add(0, 1)
	for _, num := range edges {
		for _, den := range edges {
			add(num, den)
			add(-num, den)
		}
	}
	random := rand.New(rand.NewPCG(1, 2))
	for range 200 {
		num := random.IntN(most) >> random.IntN(60)
		den := random.IntN(most)>>random.IntN(60) + 1
		add(num, den)
		add(-num, den)
	}
	return l
}

// some returns every step-th sample, for tests of three fractions.
func some(step int) []api.Ratio {
	var l []api.Ratio
	for i, a := range samples() {
		if i%step == 0 {
			l = append(l, a)
		}
	}
	return l
}
