package ratio_test

import (
	"math"
	"math/big"
	"math/rand/v2"
	"slices"
	"testing"

	"awardingbody/api"
	"awardingbody/ratio"
)

// P1.5
func TestRounding(t *testing.T) {
	for _, c := range []struct {
		a                        api.Ratio
		floor, ceil, round, even int
	}{
		{r(0, 1), 0, 0, 0, 0}, {r(4, 1), 4, 4, 4, 4}, {r(-4, 1), -4, -4, -4, -4},
		{r(1, 2), 0, 1, 1, 0}, {r(-1, 2), -1, 0, 0, 0},
		{r(3, 2), 1, 2, 2, 2}, {r(-3, 2), -2, -1, -1, -2},
		{r(5, 2), 2, 3, 3, 2}, {r(-5, 2), -3, -2, -2, -2},
		{r(7, 2), 3, 4, 4, 4}, {r(-7, 2), -4, -3, -3, -4},
		{r(1, 3), 0, 1, 0, 0}, {r(-1, 3), -1, 0, 0, 0},
		{r(2, 3), 0, 1, 1, 1}, {r(-2, 3), -1, 0, -1, -1},
		{r(4, 3), 1, 2, 1, 1}, {r(-4, 3), -2, -1, -1, -1},
		{r(1, most), 0, 1, 0, 0}, {r(-1, most), -1, 0, 0, 0},
		{r(most-1, most), 0, 1, 1, 1}, {r(1-most, most), -1, 0, -1, -1},
		{r(most/2+1, most), 0, 1, 1, 1}, {r(most/2-1, most), 0, 1, 0, 0},
		{r(-most/2-1, most), -1, 0, -1, -1}, {r(-most/2+1, most), -1, 0, 0, 0},
		{r(most, 1), most, most, most, most}, {r(-most, 1), -most, -most, -most, -most},
		{r(most-1, 2), most/2 - 1, most / 2, most / 2, most / 2},
		{r(1-most, 2), -most / 2, 1 - most/2, 1 - most/2, -most / 2},
		{r(most-3, 2), most/2 - 2, most/2 - 1, most/2 - 1, most/2 - 2},
	} {
		if f, u, h, e := ratio.Floor(c.a), ratio.Ceil(c.a), ratio.Round(c.a), ratio.Even(c.a); f != c.floor || u != c.ceil || h != c.round || e != c.even {
			t.Errorf("%v is rounded to %d, %d, %d, %d", c.a, f, u, h, e)
		}
	}
	for _, a := range invalid {
		if ratio.Floor(a) != 0 || ratio.Ceil(a) != 0 || ratio.Round(a) != 0 || ratio.Even(a) != 0 {
			t.Errorf("%v is rounded", a)
		}
	}
}

// floorOf is the greatest integer that is not greater than x.
func floorOf(x *big.Rat) int {
	return int(new(big.Int).Div(x.Num(), x.Denom()).Int64())
}

// evenOf follows the definition: the nearest integer, of two nearest ones the even one.
func evenOf(x *big.Rat) int {
	below := floorOf(x)
	rest := new(big.Rat).Sub(x, number(below))
	if c := rest.Cmp(big.NewRat(1, 2)); c < 0 || c == 0 && below%2 == 0 {
		return below
	}
	return below + 1
}

// P1.5
func TestRoundingOfSamples(t *testing.T) {
	for _, a := range samples() {
		x := exact(a)
		ceil := -floorOf(new(big.Rat).Neg(x))
		round := floorOf(new(big.Rat).Add(x, big.NewRat(1, 2)))
		if f, u, h, e := ratio.Floor(a), ratio.Ceil(a), ratio.Round(a), ratio.Even(a); f != floorOf(x) || u != ceil || h != round || e != evenOf(x) {
			t.Errorf("%v is rounded to %d, %d, %d, %d", a, f, u, h, e)
		}
	}
}

// P1.6
func TestApportion(t *testing.T) {
	for i, c := range []struct {
		total   int
		weights []int
		want    []int
	}{
		{10, []int{1, 1, 1}, []int{4, 3, 3}},
		{11, []int{1, 1, 1}, []int{4, 4, 3}},
		{3, []int{5, 3, 0}, []int{2, 1, 0}},
		{2, []int{1, 2, 1}, []int{1, 1, 0}},
		{1, []int{0, 0, 1}, []int{0, 0, 1}},
		{1, []int{0, 2, 3}, []int{0, 0, 1}},
		{5, []int{7}, []int{5}},
		{0, []int{1, 2}, []int{0, 0}},
		{7, []int{1, 2, 4}, []int{1, 2, 4}},
		{99, slices.Repeat([]int{1}, 100), append(slices.Repeat([]int{1}, 99), 0)},
		{1 << 30, []int{1 << 30, 1 << 30}, []int{1 << 29, 1 << 29}},
		{1 << 30, []int{1 << 30}, []int{1 << 30}},
		{1 << 30, []int{1, 1 << 30}, []int{1, 1<<30 - 1}},
		{1<<30 - 1, []int{1 << 30, 1 << 30}, []int{1 << 29, 1<<29 - 1}},
	} {
		if got, code := ratio.Apportion(c.total, c.weights); !slices.Equal(got, c.want) || code != api.OK {
			t.Errorf("%d: %v, %d", i, got, code)
		}
	}
}

// P1.6: the order of the errors
func TestApportionErrors(t *testing.T) {
	for i, c := range []struct {
		total   int
		weights []int
		code    api.Errno
	}{
		{1, make([]int, 101), api.ErrLimit},
		{-1, slices.Repeat([]int{-1}, 101), api.ErrLimit},
		{1, slices.Repeat([]int{1}, 101), api.ErrLimit},
		{-1, []int{1}, api.ErrRange},
		{-1, nil, api.ErrRange},
		{1<<30 + 1, []int{1}, api.ErrRange},
		{1<<30 + 1, []int{0}, api.ErrRange},
		{math.MaxInt, []int{1}, api.ErrRange},
		{math.MinInt, []int{1}, api.ErrRange},
		{1, []int{2, -1}, api.ErrRange},
		{1, []int{1<<30 + 1, 1}, api.ErrRange},
		{1, []int{math.MaxInt, math.MaxInt, 2}, api.ErrRange},
		{1, []int{1, math.MinInt}, api.ErrRange},
		{0, []int{-1, 1}, api.ErrRange},
		{1, nil, api.ErrNone},
		{1, []int{}, api.ErrNone},
		{0, nil, api.ErrNone},
		{0, []int{0}, api.ErrNone},
		{1 << 30, make([]int, 100), api.ErrNone},
	} {
		if got, code := ratio.Apportion(c.total, c.weights); len(got) != 0 || code != c.code {
			t.Errorf("%d: %v, %d", i, got, code)
		}
	}
}

// shares is what P1.6 says, element by element.
func shares(total int, weights []int) []int {
	sum := 0
	for _, w := range weights {
		sum += w
	}
	parts := make([]int, len(weights))
	above := make([]*big.Rat, len(weights))
	left := total
	for i, w := range weights {
		share := new(big.Rat).Mul(number(total), big.NewRat(int64(w), int64(sum)))
		parts[i] = floorOf(share)
		above[i] = share.Sub(share, number(parts[i]))
		left -= parts[i]
	}
	for ; left > 0; left-- {
		next := 0
		for i := range above {
			if above[i].Cmp(above[next]) > 0 {
				next = i
			}
		}
		parts[next]++
		above[next] = number(-1)
	}
	return parts
}

// P1.6 and P1.9, for lists of each length
func TestApportionOfSamples(t *testing.T) {
	random := rand.New(rand.NewPCG(5, 6))
	for range 1500 {
		size := 1 << random.IntN(31)
		weights := make([]int, 1+random.IntN(100))
		for i := range weights {
			weights[i] = random.IntN(size + 1)
		}
		weights[random.IntN(len(weights))] = 1 + random.IntN(size)
		total := random.IntN(1<<30+1) >> random.IntN(31)
		before := slices.Clone(weights)
		got, code := ratio.Apportion(total, weights)
		if !slices.Equal(weights, before) {
			t.Fatal("Apportion changes its weights")
		}
		if want := shares(total, weights); code != api.OK || !slices.Equal(got, want) {
			t.Fatalf("Apportion(%d, %v) is %v, %d, not %v", total, weights, got, code, want)
		}
		consequences(t, total, weights, got)
	}
}

// consequences are those that P1.9 names.
func consequences(t *testing.T, total int, weights, parts []int) {
	t.Helper()
	all, sum := 0, 0
	for i, w := range weights {
		all += parts[i]
		sum += w
	}
	if all != total {
		t.Fatalf("the parts of %d have the sum %d", total, all)
	}
	for i, w := range weights {
		if away := parts[i]*sum - total*w; away <= -sum || away >= sum {
			t.Fatalf("element %d of Apportion(%d, %v) is too far from its share", i, total, weights)
		}
		for k := range i {
			if w > weights[k] && parts[i] < parts[k] || w < weights[k] && parts[i] > parts[k] {
				t.Fatalf("Apportion(%d, %v) reverses the weights", total, weights)
			}
		}
	}
}
