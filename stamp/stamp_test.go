package stamp_test

import (
	"math"
	"testing"

	"awardingbody/api"
	"awardingbody/stamp"
)

func at(time, source, seq int) api.Stamp {
	return api.Stamp{Time: time, Source: source, Seq: seq}
}

func id(source, seq int) api.Identity { return api.Identity{Source: source, Seq: seq} }

// P2.1: each field at its limits, the others being valid
func TestValid(t *testing.T) {
	for _, f := range []struct {
		name string
		most int
		with func(n int) api.Stamp
	}{
		{"Time", api.MaxTime, func(n int) api.Stamp { return at(n, 1, 2) }},
		{"Source", api.MaxSource, func(n int) api.Stamp { return at(3, n, 2) }},
		{"Seq", api.MaxSeq, func(n int) api.Stamp { return at(3, 1, n) }},
	} {
		for _, n := range []int{0, 1, f.most - 1, f.most} {
			if !stamp.Valid(f.with(n)) {
				t.Errorf("%s %d is not valid", f.name, n)
			}
		}
		for _, n := range []int{-1, f.most + 1, math.MinInt, math.MinInt + 1, math.MaxInt, 1 << 32, -1 << 32} {
			if stamp.Valid(f.with(n)) {
				t.Errorf("%s %d is valid", f.name, n)
			}
		}
	}
	if !stamp.Valid(at(0, 0, 0)) || !stamp.Valid(at(api.MaxTime, api.MaxSource, api.MaxSeq)) || stamp.Valid(at(-1, -1, -1)) {
		t.Error("the least stamp, the greatest one and one below")
	}
}

// P2.1: for valid stamps and others; the difference of two fields need not be an int
func TestCompare(t *testing.T) {
	ascending := []api.Stamp{
		at(math.MinInt, math.MaxInt, math.MaxInt), at(-5, 9, 9), at(0, math.MinInt, 0), at(0, 0, math.MinInt), at(0, 0, 0), at(0, 0, 1), at(0, 0, math.MaxInt),
		at(0, 1, 0), at(0, 99, 9999), at(0, math.MaxInt, -1), at(1, 0, 0), at(1, 2, 3), at(1, 2, 4), at(1, 3, 0), at(2, 0, 0), at(api.MaxTime, 0, 0), at(math.MaxInt, math.MinInt, math.MinInt),
	}
	for i, a := range ascending {
		for k, b := range ascending {
			want := 0
			if i < k {
				want = -1
			} else if i > k {
				want = 1
			}
			if got := stamp.Compare(a, b); got != want {
				t.Errorf("Compare(%v, %v) is %d", a, b, got)
			}
		}
	}
}

// P2.4: in ascending order, in another order, and with stamps that are not valid
func TestUntil(t *testing.T) {
	ascending := []api.Stamp{at(1, 0, 0), at(3, 0, 1), at(3, 0, 2), at(5, 0, 3)}
	mixed := []api.Stamp{at(4, 0, 0), at(1, 0, 1), at(6, 0, 2), at(2, 0, 3), at(2, 0, 4), at(9, 0, 5), at(0, 0, 6), at(0, 0, 7)}
	others := []api.Stamp{at(math.MinInt, -1, 0), at(-3, 0, -1), at(7, 100, 0), at(math.MaxInt, 0, 0), at(0, 0, 0)}
	for _, c := range []struct {
		l          []api.Stamp
		time, want int
	}{
		{nil, 0, 0}, {nil, math.MaxInt, 0}, {[]api.Stamp{}, math.MinInt, 0},
		{ascending, math.MinInt, 0}, {ascending, 0, 0}, {ascending, 1, 1}, {ascending, 2, 1}, {ascending, 3, 3}, {ascending, 4, 3}, {ascending, 5, 4}, {ascending, math.MaxInt, 4},
		{mixed, 0, 0}, {mixed, 3, 0}, {mixed, 4, 2}, {mixed, 5, 2}, {mixed, 6, 5}, {mixed, 8, 5}, {mixed, 9, 8},
		{others, math.MinInt, 1}, {others, -4, 1}, {others, -3, 2}, {others, 0, 2}, {others, 7, 3}, {others, math.MaxInt - 1, 3}, {others, math.MaxInt, 5},
	} {
		if got := stamp.Until(c.l, c.time); got != c.want {
			t.Errorf("Until(%v, %d) is %d", c.l, c.time, got)
		}
	}
}
