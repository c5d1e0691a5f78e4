package ratio_test

import (
	"math"
	"math/big"
	"math/rand/v2"
	"slices"
	"testing"

	"awardingbody/api"
	"awardingbody/ratio"
)

// P1.1
func TestValid(t *testing.T) {
	for _, a := range invalid {
		if ratio.Valid(a) {
			t.Errorf("%v is valid", a)
		}
	}
	for _, a := range samples() {
		if !ratio.Valid(a) {
			t.Errorf("%v is not valid", a)
		}
	}
	for _, a := range []api.Ratio{r(0, 1), r(1, 1), r(-1, 1), r(most, 1), r(-most, 1), r(1, most), r(-1, most), r(most, most-1), r(-3, 2)} {
		if !ratio.Valid(a) {
			t.Errorf("%v is not valid", a)
		}
	}
}

// P1.1
func TestNew(t *testing.T) {
	for _, c := range []struct {
		num, den int
		want     api.Ratio
		code     api.Errno
	}{
		{6, -4, r(-3, 2), api.OK},
		{-6, -4, r(3, 2), api.OK},
		{0, 7, r(0, 1), api.OK},
		{0, math.MinInt, r(0, 1), api.OK},
		{0, 0, r(0, 0), api.ErrRange},
		{math.MinInt, 0, r(0, 0), api.ErrRange},
		{most, 1, r(most, 1), api.OK},
		{-most, 1, r(-most, 1), api.OK},
		{most, -1, r(-most, 1), api.OK},
		{most + 1, 1, r(0, 0), api.ErrOverflow},
		{-most - 1, 1, r(0, 0), api.ErrOverflow},
		{1, most + 1, r(0, 0), api.ErrOverflow},
		{1, -most - 1, r(0, 0), api.ErrOverflow},
		{2, 2 * most, r(1, most), api.OK},
		{2 * most, 2, r(most, 1), api.OK},
		{math.MinInt, -8, r(most, 1), api.OK},
		{math.MinInt, 8, r(-most, 1), api.OK},
		{math.MinInt, 4, r(0, 0), api.ErrOverflow},
		{8, math.MinInt, r(-1, most), api.OK},
		{-8, math.MinInt, r(1, most), api.OK},
		{4, math.MinInt, r(0, 0), api.ErrOverflow},
		{math.MinInt, math.MinInt, r(1, 1), api.OK},
		{math.MaxInt, math.MaxInt, r(1, 1), api.OK},
		{-math.MaxInt, math.MaxInt, r(-1, 1), api.OK},
		{math.MaxInt, math.MinInt, r(0, 0), api.ErrOverflow},
		{math.MinInt, 1, r(0, 0), api.ErrOverflow},
	} {
		if got, code := ratio.New(c.num, c.den); got != c.want || code != c.code {
			t.Errorf("New(%d, %d) is %v, %d", c.num, c.den, got, code)
		}
	}
}

// P1.1, for all pairs of the edges, with factors in common
func TestNewOfEdges(t *testing.T) {
	l := append([]int{0, math.MaxInt, math.MinInt, math.MinInt + 1, 2 * most, 3 * (most / 2), 7 * (most / 7) * 7}, edges...)
	for _, n := range edges {
		l = append(l, -n)
	}
	for _, num := range l {
		for _, den := range l {
			if den == 0 {
				continue
			}
			want, wantCode := fitted(big.NewRat(int64(num), int64(den)))
			if got, code := ratio.New(num, den); got != want || code != wantCode {
				t.Errorf("New(%d, %d) is %v, %d", num, den, got, code)
			}
		}
	}
}

// An operation is compared with that of math/big.
type operation struct {
	name  string
	own   func(a, b api.Ratio) (api.Ratio, api.Errno)
	exact func(z, x, y *big.Rat) *big.Rat
}

func operations() []operation {
	return []operation{
		{"Add", ratio.Add, (*big.Rat).Add}, {"Sub", ratio.Sub, (*big.Rat).Sub},
		{"Mul", ratio.Mul, (*big.Rat).Mul}, {"Div", ratio.Div, (*big.Rat).Quo},
	}
}

// P1.2: intermediate values are never an error, and what does not fit always is
func TestArithmetic(t *testing.T) {
	l := samples()
	for _, op := range operations() {
		fits, overflows := 0, 0
		for _, a := range some(7) {
			for _, b := range l {
				if op.name == "Div" && b.Num == 0 {
					continue
				}
				want, wantCode := fitted(op.exact(new(big.Rat), exact(a), exact(b)))
				if got, code := op.own(a, b); got != want || code != wantCode {
					t.Fatalf("%s(%v, %v) is %v, %d, not %v, %d", op.name, a, b, got, code, want, wantCode)
				}
				if wantCode == api.OK {
					fits++
				} else {
					overflows++
				}
			}
		}
		if fits < 1000 || overflows < 1000 {
			t.Errorf("%s: %d results fit, %d do not", op.name, fits, overflows)
		}
	}
}

// P1.2
func TestArithmeticExamples(t *testing.T) {
	for i, c := range []struct {
		op   func(a, b api.Ratio) (api.Ratio, api.Errno)
		a, b api.Ratio
		want api.Ratio
		code api.Errno
	}{
		{ratio.Add, r(1, 6), r(1, 3), r(1, 2), api.OK},
		{ratio.Add, r(most, 3), r(-most, 3), r(0, 1), api.OK},
		{ratio.Add, r(1, most), r(1, most), r(1, most/2), api.OK},
		{ratio.Add, r(most, 1), r(1, most), r(0, 0), api.ErrOverflow},
		{ratio.Add, r(most-1, 1), r(1, 1), r(most, 1), api.OK},
		{ratio.Add, r(most, 1), r(1, 1), r(0, 0), api.ErrOverflow},
		{ratio.Sub, r(1, 2), r(1, 3), r(1, 6), api.OK},
		{ratio.Sub, r(1, 3), r(1, 2), r(-1, 6), api.OK},
		{ratio.Sub, r(0, 1), r(-most, 1), r(most, 1), api.OK},
		{ratio.Sub, r(-most, 1), r(1, 1), r(0, 0), api.ErrOverflow},
		{ratio.Mul, r(most, 3), r(-3, most), r(-1, 1), api.OK},
		{ratio.Mul, r(0, 1), r(-5, most), r(0, 1), api.OK},
		{ratio.Mul, r(most, 1), r(2, 1), r(0, 0), api.ErrOverflow},
		{ratio.Mul, r(1, most), r(1, 2), r(0, 0), api.ErrOverflow},
		{ratio.Div, r(1, 2), r(-3, 4), r(-2, 3), api.OK},
		{ratio.Div, r(1, 1), r(-most, 1), r(-1, most), api.OK},
		{ratio.Div, r(0, 1), r(-most, 1), r(0, 1), api.OK},
		{ratio.Div, r(1, most), r(most, 1), r(0, 0), api.ErrOverflow},
	} {
		if got, code := c.op(c.a, c.b); got != c.want || code != c.code {
			t.Errorf("%d: %v, %d", i, got, code)
		}
	}
}

// P1.2: the order of the errors
func TestArithmeticErrors(t *testing.T) {
	refused := func(name string, got api.Ratio, code, want api.Errno) {
		t.Helper()
		if got != r(0, 0) || code != want {
			t.Errorf("%s is %v, %d", name, got, code)
		}
	}
	for _, op := range operations() {
		for _, a := range invalid {
			for _, b := range append(invalid, r(0, 1), r(1, 2), r(most, 1), r(-1, most)) {
				got, code := op.own(a, b)
				refused(op.name, got, code, api.ErrInvalid)
				got, code = op.own(b, a)
				refused(op.name, got, code, api.ErrInvalid)
			}
		}
	}
	for _, a := range samples() {
		got, code := ratio.Div(a, r(0, 1))
		refused("Div", got, code, api.ErrRange)
	}
}

// P1.3
func TestSum(t *testing.T) {
	twice := func(n int, a, b api.Ratio) []api.Ratio {
		return append(slices.Repeat([]api.Ratio{a}, n), slices.Repeat([]api.Ratio{b}, n)...)
	}
	for i, c := range []struct {
		l    []api.Ratio
		want api.Ratio
		code api.Errno
	}{
		{nil, r(0, 1), api.OK},
		{[]api.Ratio{}, r(0, 1), api.OK},
		{[]api.Ratio{r(-most, most-1)}, r(-most, most-1), api.OK},
		{[]api.Ratio{r(1, 2), r(1, 3), r(1, 6)}, r(1, 1), api.OK},
		{[]api.Ratio{r(1, 2), r(-1, 3), r(-1, 6)}, r(0, 1), api.OK},
		{[]api.Ratio{r(most, 1), r(most, 1), r(-most, 1)}, r(most, 1), api.OK},
		{twice(50, r(most, 1), r(-most, 1)), r(0, 1), api.OK},
		{append(twice(49, r(most, 1), r(-most, 1)), r(-1, most)), r(-1, most), api.OK},
		{slices.Repeat([]api.Ratio{r(most, 1)}, 100), r(0, 0), api.ErrOverflow},
		{slices.Repeat([]api.Ratio{r(-most, 1)}, 2), r(0, 0), api.ErrOverflow},
		{append(slices.Repeat([]api.Ratio{r(most, 1)}, 99), r(1, most)), r(0, 0), api.ErrOverflow},
		{[]api.Ratio{r(1, most), r(1, 3), r(-1, 3)}, r(0, 0), api.ErrOverflow},
		{[]api.Ratio{r(1, 3), r(-1, 3), r(1, most)}, r(0, 0), api.ErrOverflow},
		{[]api.Ratio{r(1, most/2), r(1, 2)}, r(most/4+1, most/2), api.OK},
		{[]api.Ratio{r(1, most-1), r(-1, most-1), r(1, 2)}, r(0, 0), api.ErrOverflow},
		{slices.Repeat([]api.Ratio{r(1, 100)}, 100), r(1, 1), api.OK},
		{slices.Repeat([]api.Ratio{r(0, 1)}, 101), r(0, 0), api.ErrLimit},
		{slices.Repeat([]api.Ratio{r(2, 2)}, 101), r(0, 0), api.ErrLimit},
		{[]api.Ratio{r(most, 1), r(most, 1), r(2, 2)}, r(0, 0), api.ErrInvalid},
		{[]api.Ratio{r(1, most), r(1, 3), r(1, 0)}, r(0, 0), api.ErrInvalid},
	} {
		if got, code := ratio.Sum(c.l); got != c.want || code != c.code {
			t.Errorf("%d: %v, %d", i, got, code)
		}
		slices.Reverse(c.l)
		if got, code := ratio.Sum(c.l); got != c.want || code != c.code {
			t.Errorf("%d reversed: %v, %d", i, got, code)
		}
	}
	for _, a := range invalid {
		if got, code := ratio.Sum([]api.Ratio{r(1, 2), a}); got != r(0, 0) || code != api.ErrInvalid {
			t.Errorf("with %v: %v, %d", a, got, code)
		}
	}
}

// sumOf is what P1.3 says of a list of valid fractions.
func sumOf(l []api.Ratio) (api.Ratio, api.Errno) {
	total, all := new(big.Rat), big.NewInt(1)
	for _, a := range l {
		total.Add(total, exact(a))
		den := big.NewInt(int64(a.Den))
		common := new(big.Int).GCD(nil, nil, all, den)
		all.Mul(all, den.Div(den, common))
	}
	if all.Cmp(big.NewInt(most)) > 0 {
		return api.Ratio{}, api.ErrOverflow
	}
	return fitted(total)
}

// P1.3, for lists in any order
func TestSumOfSamples(t *testing.T) {
	random := rand.New(rand.NewPCG(3, 4))
	pool := samples()
	for _, den := range []int{2, 3, 4, 6, 8, 12, 24, most / 2, most / 4} {
		for range 20 {
			a, _ := fitted(big.NewRat(int64(random.IntN(2*den+1)-den), int64(den)))
			pool = append(pool, a)
		}
	}
	fits, overflows := 0, 0
	for range 20000 {
		l := make([]api.Ratio, 1+random.IntN(5))
		for i := range l {
			l[i] = pool[random.IntN(len(pool))]
		}
		want, wantCode := sumOf(l)
		for range 3 {
			before := slices.Clone(l)
			if got, code := ratio.Sum(l); got != want || code != wantCode {
				t.Fatalf("Sum(%v) is %v, %d, not %v, %d", l, got, code, want, wantCode)
			}
			if !slices.Equal(l, before) {
				t.Fatal("Sum changes its list")
			}
			random.Shuffle(len(l), func(i, k int) { l[i], l[k] = l[k], l[i] })
		}
		if wantCode == api.OK {
			fits++
		} else {
			overflows++
		}
	}
	if fits < 1000 || overflows < 1000 {
		t.Errorf("%d sums fit, %d do not", fits, overflows)
	}
}

// P1.4
func TestOrder(t *testing.T) {
	l := samples()
	for _, a := range some(3) {
		for _, b := range l {
			want := exact(a).Cmp(exact(b))
			if got := ratio.Compare(a, b); got != want {
				t.Fatalf("Compare(%v, %v) is %d", a, b, got)
			}
			if got := ratio.Less(a, b); got != (want == -1) {
				t.Fatalf("Less(%v, %v) is %v", a, b, got)
			}
		}
	}
	for i, c := range []struct {
		a, b api.Ratio
		want int
	}{
		{r(1, 3), r(1, 2), -1}, {r(1, 2), r(1, 2), 0}, {r(1, 2), r(1, 3), 1}, {r(-1, 2), r(-1, 3), -1}, {r(-1, 2), r(1, most), -1},
		{r(0, 1), r(-1, most), 1}, {r(most-1, most), r(most-2, most-1), 1}, {r(-most, most-1), r(-most+1, most-2), 1}, {r(-most, 1), r(most, 1), -1},
	} {
		if got := ratio.Compare(c.a, c.b); got != c.want {
			t.Errorf("%d: %d", i, got)
		}
	}
}

// P1.4
func TestOrderOfInvalid(t *testing.T) {
	for _, a := range invalid {
		for _, b := range append(invalid, r(0, 1), r(1, 2), r(most, 1), r(-most, 1)) {
			if ratio.Compare(a, b) != 0 || ratio.Compare(b, a) != 0 || ratio.Less(a, b) || ratio.Less(b, a) {
				t.Errorf("%v and %v are compared", a, b)
			}
		}
	}
}
