package stamp_test

import (
	"math/rand/v2"
	"slices"
	"testing"

	"awardingbody/api"
	"awardingbody/stamp"
)

// events are a list of events as the chapter gives it.
type events struct {
	l     []api.Stamp
	class []int
}

func (e events) size() int { return len(e.l) }

// chosen returns the events with these indices, in this order.
func (e events) chosen(indices []int) events {
	var c events
	for _, i := range indices {
		c.l = append(c.l, e.l[i])
		c.class = append(c.class, e.class[i])
	}
	return c
}

func (e events) copies(i, k int) bool { return e.l[i] == e.l[k] && e.class[i] == e.class[k] }

// related returns the events with valid stamps that have the identity of the event i.
func (e events) related(i int) []int {
	var found []int
	for k, s := range e.l {
		if stamp.Valid(s) && s.Source == e.l[i].Source && s.Seq == e.l[i].Seq {
			found = append(found, k)
		}
	}
	return found
}

// disputed compares each event of an identity with each.
func (e events) disputed(i int) bool {
	for _, a := range e.related(i) {
		for _, b := range e.related(i) {
			if !e.copies(a, b) {
				return true
			}
		}
	}
	return false
}

// counts follows the definition of the chapter word by word.
func (e events) counts(i int) bool {
	if !stamp.Valid(e.l[i]) || e.disputed(i) {
		return false
	}
	for k := range i {
		if e.copies(i, k) {
			return false
		}
	}
	return true
}

// canonical finds the events that count and puts each in its place.
func (e events) canonical() []int {
	var found []int
	for i := range e.l {
		if !e.counts(i) {
			continue
		}
		place := 0
		for place < len(found) && stamp.Compare(e.l[found[place]], e.l[i]) < 0 {
			place++
		}
		found = slices.Insert(found, place, i)
	}
	return found
}

// identities goes through all possible identities of the samples.
func (e events) identities() []api.Identity {
	var found []api.Identity
	for source := range 4 {
		for seq := range 4 {
			known := func(s api.Stamp) bool { return stamp.Valid(s) && s.Source == source && s.Seq == seq }
			if i := slices.IndexFunc(e.l, known); i >= 0 && e.disputed(i) {
				found = append(found, id(source, seq))
			}
		}
	}
	return found
}

// samples are lists with few identities, so that there are copies, disputes
// and, in some of them, stamps that are not valid.
func samples() []events {
	random := rand.New(rand.NewPCG(3, 4))
	var all []events
	for range 2000 {
		var e events
		times, classes, least := 1+random.IntN(3), 1+random.IntN(2), -random.IntN(2)
		for range random.IntN(14) {
			e.l = append(e.l, at(least+random.IntN(times-least), random.IntN(4), least+random.IntN(4-least)))
			e.class = append(e.class, random.IntN(classes))
		}
		all = append(all, e)
	}
	return all
}

func known(t *testing.T, e events, n int) []int {
	t.Helper()
	got, code := stamp.Known(e.l, e.class, n)
	if code != api.OK {
		t.Fatalf("Known(%v, %d) is %d", e, n, code)
	}
	return got
}

func canonical(t *testing.T, e events) []int {
	t.Helper()
	got, code := stamp.Canonical(e.l, e.class)
	if code != api.OK {
		t.Fatalf("Canonical(%v) is %d", e, code)
	}
	return got
}

// P2.2, P2.3 and P2.5 against the definitions
func TestDefinitions(t *testing.T) {
	counted, disputed := 0, 0
	for _, e := range samples() {
		want := e.canonical()
		if got := canonical(t, e); !slices.Equal(got, want) {
			t.Fatalf("Canonical(%v) is %v, not %v", e, got, want)
		}
		identities := e.identities()
		if got, code := stamp.Disputed(e.l, e.class); !slices.Equal(got, identities) || code != api.OK {
			t.Fatalf("Disputed(%v) is %v, %d, not %v", e, got, code, identities)
		}
		for n := range e.size() + 1 {
			begin := events{e.l[:n], e.class[:n]}
			if got := known(t, e, n); !slices.Equal(got, begin.canonical()) {
				t.Fatalf("Known(%v, %d) is %v, not %v", e, n, got, begin.canonical())
			}
		}
		counted += len(want)
		disputed += len(identities)
	}
	if counted < 500 || disputed < 500 {
		t.Errorf("%d events count, %d identities are disputed", counted, disputed)
	}
}

// repeated returns n indices in any order, each of them at least once.
func repeated(random *rand.Rand, n int) []int {
	order := random.Perm(n)
	for i := range order {
		for range random.IntN(3) {
			order = append(order, i)
		}
	}
	random.Shuffle(len(order), func(i, k int) { order[i], order[k] = order[k], order[i] })
	return order
}

// P2.6: neither the order of the list nor repetitions matter
func TestOrderAndRepetition(t *testing.T) {
	random := rand.New(rand.NewPCG(5, 6))
	for _, e := range samples() {
		want := e.chosen(canonical(t, e))
		other := e.chosen(repeated(random, e.size()))
		got := other.chosen(canonical(t, other))
		if !slices.Equal(got.l, want.l) || !slices.Equal(got.class, want.class) {
			t.Fatalf("%v counts in %v, and %v in %v", want, e, got, other)
		}
		before, _ := stamp.Disputed(e.l, e.class)
		after, _ := stamp.Disputed(other.l, other.class)
		if !slices.Equal(before, after) {
			t.Fatalf("%v is disputed in %v, and %v in %v", before, e, after, other)
		}
	}
}

// P2.6: what counts goes on to count, unless it is disputed
func TestLongerLists(t *testing.T) {
	for _, e := range samples() {
		disputed, _ := stamp.Disputed(e.l, e.class)
		all := canonical(t, e)
		for n := range e.size() {
			for _, i := range known(t, e, n) {
				lost := !slices.Contains(all, i)
				if lost != slices.Contains(disputed, id(e.l[i].Source, e.l[i].Seq)) {
					t.Fatalf("the event %d of the first %d of %v", i, n, e)
				}
			}
		}
	}
}

// P2.6: what counts counts by itself, in this order
func TestCanonicalTwice(t *testing.T) {
	for _, e := range samples() {
		once := e.chosen(canonical(t, e))
		twice := canonical(t, once)
		if len(twice) != once.size() || !slices.IsSorted(twice) {
			t.Fatalf("Canonical of %v is %v", once, twice)
		}
		for i := range once.l[:max(0, once.size()-1)] {
			if stamp.Compare(once.l[i], once.l[i+1]) >= 0 {
				t.Fatalf("%v does not ascend", once.l)
			}
		}
	}
}

// R5 and R6: arguments are kept, results share no memory, and no state is kept
func TestResultsAreNew(t *testing.T) {
	for _, e := range samples() {
		l, class := slices.Clone(e.l), slices.Clone(e.class)
		first := canonical(t, e)
		disputed, _ := stamp.Disputed(e.l, e.class)
		begin := known(t, e, e.size())
		want, wantDisputed := slices.Clone(first), slices.Clone(disputed)
		clear(first)
		clear(disputed)
		if !slices.Equal(begin, want) {
			t.Fatalf("Known of all is %v, Canonical %v", begin, want)
		}
		clear(begin)
		again, _ := stamp.Disputed(e.l, e.class)
		if !slices.Equal(canonical(t, e), want) || !slices.Equal(again, wantDisputed) {
			t.Fatalf("a second call differs for %v", e)
		}
		if !slices.Equal(e.l, l) || !slices.Equal(e.class, class) {
			t.Fatalf("%v, %v became %v", l, class, e)
		}
	}
}
