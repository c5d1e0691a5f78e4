package stamp_test

import (
	"math"
	"slices"
	"testing"

	"awardingbody/api"
	"awardingbody/stamp"
)

var example = []api.Stamp{at(5, 1, 0), at(3, 2, 7), at(5, 1, 0), at(4, 2, 7)}

// numbered returns n events of the source 1 with a Seq and a Time each of their own.
func numbered(n int) []api.Stamp {
	var l []api.Stamp
	for i := range n {
		l = append(l, at(2*n-i, 1, i))
	}
	return l
}

// P2.2 and P2.3
func TestCounting(t *testing.T) {
	for i, c := range []struct {
		l        []api.Stamp
		class    []int
		want     []int
		disputed []api.Identity
	}{
		{nil, nil, nil, nil},
		{[]api.Stamp{}, nil, nil, nil},
		{example, []int{0, 0, 0, 0}, []int{0}, []api.Identity{id(2, 7)}},
		{[]api.Stamp{at(0, 0, 0)}, []int{math.MinInt}, []int{0}, nil},
		// by Time, then Source, then Seq
		{[]api.Stamp{at(2, 0, 0), at(1, 9, 9), at(1, 9, 8), at(1, 3, 50), at(0, 99, 9999)}, make([]int, 5), []int{4, 3, 2, 1, 0}, nil},
		// one Time and one class do not make copies of different identities
		{[]api.Stamp{at(7, 1, 2), at(7, 2, 1), at(7, 1, 1), at(7, 2, 2)}, make([]int, 4), []int{2, 0, 1, 3}, nil},
		// the first of the copies counts, wherever they stand
		{[]api.Stamp{at(9, 1, 1), at(5, 1, 2), at(9, 1, 1), at(5, 1, 2), at(9, 1, 1)}, []int{3, 4, 3, 4, 3}, []int{1, 0}, nil},
		// a dispute by the Time, by the class, and by both
		{[]api.Stamp{at(1, 1, 1), at(2, 1, 1)}, []int{0, 0}, nil, []api.Identity{id(1, 1)}},
		{[]api.Stamp{at(1, 1, 1), at(1, 1, 1)}, []int{0, 1}, nil, []api.Identity{id(1, 1)}},
		{[]api.Stamp{at(1, 1, 1), at(2, 1, 1)}, []int{-1, 1}, nil, []api.Identity{id(1, 1)}},
		// copies of an event that is disputed do not count either, and the last event can dispute
		{[]api.Stamp{at(1, 1, 1), at(1, 1, 1), at(1, 1, 1), at(1, 1, 1)}, []int{5, 5, 6, 5}, nil, []api.Identity{id(1, 1)}},
		{[]api.Stamp{at(1, 1, 1), at(1, 1, 1), at(1, 1, 1), at(0, 1, 1)}, []int{5, 5, 5, 5}, nil, []api.Identity{id(1, 1)}},
		// disputes by Source, then Seq, whatever the Times are
		{[]api.Stamp{at(1, 2, 0), at(2, 1, 9), at(3, 1, 8), at(4, 0, 5), at(9, 2, 0), at(8, 1, 9), at(7, 1, 8), at(6, 3, 3)}, make([]int, 8), []int{3, 7}, []api.Identity{id(1, 8), id(1, 9), id(2, 0)}},
		// the limits of valid stamps
		{[]api.Stamp{at(api.MaxTime, api.MaxSource, api.MaxSeq), at(0, 0, 0), at(0, api.MaxSource, api.MaxSeq)}, make([]int, 3), []int{1}, []api.Identity{id(api.MaxSource, api.MaxSeq)}},
	} {
		got, code := stamp.Canonical(c.l, c.class)
		disputed, other := stamp.Disputed(c.l, c.class)
		if !slices.Equal(got, c.want) || code != api.OK {
			t.Errorf("%d: Canonical is %v, %d", i, got, code)
		}
		if !slices.Equal(disputed, c.disputed) || other != api.OK {
			t.Errorf("%d: Disputed is %v, %d", i, disputed, other)
		}
	}
}

// P2.2 and P2.3: what is not valid never counts, and disputes nothing, not even among itself
func TestInvalidStamps(t *testing.T) {
	others := []api.Stamp{
		at(-1, 1, 1), at(api.MaxTime+1, 1, 1), at(math.MinInt, 1, 1), at(math.MaxInt, 1, 1),
		at(5, -1, 1), at(5, api.MaxSource+1, 1), at(6, api.MaxSource+1, 1), at(5, 1, -1), at(5, 1, api.MaxSeq+1), at(6, 1, api.MaxSeq+1),
	}
	class := []int{0, 1, 2, 3, 4, 5, 6, 7, 8, 9}
	if got, code := stamp.Canonical(others, class); len(got) != 0 || code != api.OK {
		t.Errorf("Canonical is %v, %d", got, code)
	}
	if got, code := stamp.Disputed(others, class); len(got) != 0 || code != api.OK {
		t.Errorf("Disputed is %v, %d", got, code)
	}
	all := slices.Concat(others, []api.Stamp{at(5, 1, 1), at(4, 1, 2)}, others)
	classes := slices.Concat(class, []int{20, 21}, class)
	if got, code := stamp.Canonical(all, classes); !slices.Equal(got, []int{11, 10}) || code != api.OK {
		t.Errorf("Canonical with valid ones is %v, %d", got, code)
	}
	if got, code := stamp.Disputed(all, classes); len(got) != 0 || code != api.OK {
		t.Errorf("Disputed with valid ones is %v, %d", got, code)
	}
}

// P2.2, P2.3 and P2.5: the number of the classes is examined first
func TestClasses(t *testing.T) {
	many := numbered(api.MaxEvents + 1)
	for _, c := range []struct {
		l     []api.Stamp
		class []int
	}{
		{nil, []int{0}}, {example, nil}, {example, make([]int, 3)}, {example, make([]int, 5)}, {many, make([]int, len(many)-1)}, {many, make([]int, len(many)+1)},
	} {
		if got, code := stamp.Canonical(c.l, c.class); len(got) != 0 || code != api.ErrInvalid {
			t.Errorf("Canonical of %d events and %d classes is %v, %d", len(c.l), len(c.class), got, code)
		}
		if got, code := stamp.Disputed(c.l, c.class); len(got) != 0 || code != api.ErrInvalid {
			t.Errorf("Disputed of %d events and %d classes is %v, %d", len(c.l), len(c.class), got, code)
		}
		for _, n := range []int{math.MinInt, -1, 0, 1, 4, len(c.l), len(c.l) + 1, math.MaxInt} {
			if got, code := stamp.Known(c.l, c.class, n); len(got) != 0 || code != api.ErrInvalid {
				t.Errorf("Known(%d) of %d events and %d classes is %v, %d", n, len(c.l), len(c.class), got, code)
			}
		}
	}
}

// P2.2: only events that count are limited
func TestLimit(t *testing.T) {
	full, more := numbered(api.MaxEvents), numbered(api.MaxEvents+1)
	again := slices.Concat(full, full, full)
	disputed := slices.Concat(more, []api.Stamp{at(0, 1, 5)})
	others := slices.Concat(slices.Repeat([]api.Stamp{at(-1, 0, 0), at(0, 100, 0)}, api.MaxEvents), full)
	for i, l := range [][]api.Stamp{full, again, disputed, others} {
		if got, code := stamp.Canonical(l, make([]int, len(l))); len(got) != api.MaxEvents || code != api.OK {
			t.Errorf("%d: %d events count, %d", i, len(got), code)
		}
	}
	for i, l := range [][]api.Stamp{more, slices.Concat(more, more), numbered(4000)} {
		if got, code := stamp.Canonical(l, make([]int, len(l))); len(got) != 0 || code != api.ErrLimit {
			t.Errorf("%d: %d events count, %d", i, len(got), code)
		}
	}
}

// P2.3: there is no limit for identities that are disputed
func TestManyDisputed(t *testing.T) {
	l := numbered(4000)
	class := make([]int, 2*len(l))
	for i := range l {
		class[i] = 1
	}
	got, code := stamp.Disputed(slices.Concat(l, l), class)
	if len(got) != 4000 || got[0] != id(1, 0) || got[3999] != id(1, 3999) || code != api.OK {
		t.Errorf("%d identities are disputed, %d", len(got), code)
	}
	if none, code := stamp.Canonical(slices.Concat(l, l), class); len(none) != 0 || code != api.OK {
		t.Errorf("Canonical is %v, %d", none, code)
	}
	if none, code := stamp.Disputed(l, class[:len(l)]); len(none) != 0 || code != api.OK {
		t.Errorf("Disputed is %v, %d", none, code)
	}
}

// P2.5
func TestKnown(t *testing.T) {
	for _, c := range []struct {
		l    []api.Stamp
		n    int
		want []int
		code api.Errno
	}{
		{nil, 0, nil, api.OK}, {nil, 1, nil, api.ErrRange}, {nil, -1, nil, api.ErrRange},
		{example, 0, nil, api.OK}, {example, 1, []int{0}, api.OK}, {example, 2, []int{1, 0}, api.OK}, {example, 3, []int{1, 0}, api.OK}, {example, 4, []int{0}, api.OK},
		{example, 5, nil, api.ErrRange}, {example, -1, nil, api.ErrRange}, {example, math.MinInt, nil, api.ErrRange}, {example, math.MaxInt, nil, api.ErrRange},
	} {
		if got, code := stamp.Known(c.l, make([]int, len(c.l)), c.n); !slices.Equal(got, c.want) || code != c.code {
			t.Errorf("Known(%v, %d) is %v, %d", c.l, c.n, got, code)
		}
	}
}

// P2.5: the limit is that of the first n events, and comes after the range
func TestKnownLimit(t *testing.T) {
	l := append(numbered(api.MaxEvents+1), at(0, 1, 0))
	class := make([]int, len(l))
	for _, c := range []struct {
		n, count int
		code     api.Errno
	}{
		{api.MaxEvents, api.MaxEvents, api.OK}, {api.MaxEvents + 1, 0, api.ErrLimit}, {api.MaxEvents + 2, api.MaxEvents, api.OK}, {api.MaxEvents + 3, 0, api.ErrRange}, {-1, 0, api.ErrRange},
	} {
		if got, code := stamp.Known(l, class, c.n); len(got) != c.count || code != c.code {
			t.Errorf("%d of the first %d events count, %d", len(got), c.n, code)
		}
	}
	more := l[:api.MaxEvents+1]
	if got, code := stamp.Known(more, class[:len(more)], len(more)+1); len(got) != 0 || code != api.ErrRange {
		t.Errorf("the limit comes before the range: %v, %d", got, code)
	}
}
