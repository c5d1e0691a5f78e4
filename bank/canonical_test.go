package bank_test

import (
	"slices"
	"testing"

	"awardingbody/api"
	"awardingbody/bank"
)

// full is an event in which every field has a value.
func full() api.BankEvent {
	return api.BankEvent{
		Stamp: api.Stamp{Time: 3, Source: 4, Seq: 5},
		Kind:  api.BankRevise,
		Item: api.Item{
			ID: 6, Version: 2, Stem: "stem",
			Parts:   []api.Part{{Kind: api.PartChoice, Max: 2, Topic: 3, Objective: 4, Options: 5, Key: 1}, {Kind: api.PartOpen, Max: 1}},
			Enemies: []int{7, 8},
		},
		Ref:  api.Ref{ID: 9, Version: 3},
		Form: 10,
	}
}

func changed(change func(e *api.BankEvent)) api.BankEvent {
	e := full()
	change(&e)
	return e
}

// differences are changes of one field each, of which the first three are changes of the stamp.
func differences() []func(e *api.BankEvent) {
	return []func(e *api.BankEvent){
		func(e *api.BankEvent) { e.Stamp.Time++ },
		func(e *api.BankEvent) { e.Stamp.Source++ },
		func(e *api.BankEvent) { e.Stamp.Seq++ },
		func(e *api.BankEvent) { e.Kind++ },
		func(e *api.BankEvent) { e.Ref.ID++ },
		func(e *api.BankEvent) { e.Ref.Version++ },
		func(e *api.BankEvent) { e.Form++ },
		func(e *api.BankEvent) { e.Item.ID++ },
		func(e *api.BankEvent) { e.Item.Version++ },
		func(e *api.BankEvent) { e.Item.Stem = "stem " },
		func(e *api.BankEvent) { e.Item.Stem = "Stem" },
		func(e *api.BankEvent) { e.Item.Stem = "" },
		func(e *api.BankEvent) { e.Item.Parts[0].Kind++ },
		func(e *api.BankEvent) { e.Item.Parts[0].Max++ },
		func(e *api.BankEvent) { e.Item.Parts[0].Topic++ },
		func(e *api.BankEvent) { e.Item.Parts[0].Objective++ },
		func(e *api.BankEvent) { e.Item.Parts[0].Options++ },
		func(e *api.BankEvent) { e.Item.Parts[0].Key++ },
		func(e *api.BankEvent) { e.Item.Parts[1].Max++ },
		func(e *api.BankEvent) { slices.Reverse(e.Item.Parts) },
		func(e *api.BankEvent) { e.Item.Parts = e.Item.Parts[:1] },
		func(e *api.BankEvent) { e.Item.Parts = append(e.Item.Parts, api.Part{}) },
		func(e *api.BankEvent) { e.Item.Parts = nil },
		func(e *api.BankEvent) { e.Item.Enemies[0]++ },
		func(e *api.BankEvent) { e.Item.Enemies[1]++ },
		func(e *api.BankEvent) { slices.Reverse(e.Item.Enemies) },
		func(e *api.BankEvent) { e.Item.Enemies = e.Item.Enemies[:1] },
		func(e *api.BankEvent) { e.Item.Enemies = append(e.Item.Enemies, 0) },
		func(e *api.BankEvent) { e.Item.Enemies = nil },
	}
}

// P7.1
func TestSame(t *testing.T) {
	if !bank.Same(full(), full()) || !bank.Same(api.BankEvent{}, api.BankEvent{}) {
		t.Error("equal events are not the same")
	}
	for i, change := range differences() {
		if bank.Same(full(), changed(change)) || bank.Same(changed(change), full()) {
			t.Errorf("%d: different events are the same", i)
		}
		if !bank.Same(changed(change), changed(change)) {
			t.Errorf("%d: equal events are not the same", i)
		}
	}
	var a, b api.BankEvent
	b.Item.Parts, b.Item.Enemies = []api.Part{}, []int{}
	if !bank.Same(a, b) || !bank.Same(b, a) {
		t.Error("nil and an empty list are not the same")
	}
}

// canonical checks what Canonical says about a list.
func canonical(t *testing.T, l []api.BankEvent, want ...api.BankEvent) {
	t.Helper()
	if got, code := bank.Canonical(l); code != api.OK || !slices.EqualFunc(got, want, sameEvent) {
		t.Errorf("Canonical of %v is %v, %d, not %v", l, got, code, want)
	}
}

// P7.1: only copies that are the same are copies, whatever their kind looks at
func TestCopiesAndDisputes(t *testing.T) {
	canonical(t, nil)
	canonical(t, []api.BankEvent{})
	canonical(t, []api.BankEvent{full()}, full())
	canonical(t, []api.BankEvent{full(), full(), full()}, full())
	none, empty := full(), full()
	none.Item.Parts, none.Item.Enemies = nil, nil
	empty.Item.Parts, empty.Item.Enemies = []api.Part{}, []int{}
	canonical(t, []api.BankEvent{none, empty}, none)
	for i, change := range differences() {
		other := changed(change)
		want := []api.BankEvent{}
		if i == 1 || i == 2 { // another identity
			want = []api.BankEvent{full(), other}
		}
		canonical(t, []api.BankEvent{full(), other}, want...)
		canonical(t, []api.BankEvent{other, full()}, want...)
		canonical(t, []api.BankEvent{full(), full(), other, other, full()}, want...)
		canonical(t, []api.BankEvent{full(), other, other}, want...)
		last := changed(func(e *api.BankEvent) { e.Stamp.Time, e.Stamp.Seq = 99, 99 })
		canonical(t, []api.BankEvent{last, other, full(), last}, append(want, last)...)
	}
}

// P7.1: events that differ from the first one with their stamp, and from each other
func TestSeveralDisputes(t *testing.T) {
	var l []api.BankEvent
	for _, change := range differences()[3:] {
		l = append(l, changed(change))
	}
	canonical(t, l)
	canonical(t, append([]api.BankEvent{full()}, l...))
	canonical(t, append(l, l...))
}

// P7.1: the order, and stamps that are not valid
func TestCanonicalOrder(t *testing.T) {
	with := func(time, source, seq int) api.BankEvent {
		return changed(func(e *api.BankEvent) { e.Stamp = api.Stamp{Time: time, Source: source, Seq: seq} })
	}
	a, b, c, d := with(0, 9, 9), with(1, 0, 7), with(1, 2, 3), with(1, 2, 4)
	canonical(t, []api.BankEvent{d, b, a, c}, a, b, c, d)
	canonical(t, []api.BankEvent{with(-1, 2, 3), d, with(api.MaxTime+1, 2, 4), c, with(1, -1, 3), with(1, 100, 3), with(1, 2, -1), with(1, 2, 10000)}, c, d)
	canonical(t, []api.BankEvent{with(api.MaxTime, api.MaxSource, api.MaxSeq), a}, a, with(api.MaxTime, api.MaxSource, api.MaxSeq))
}

// numbered returns n events that count, the later ones first.
func numbered(n int) []api.BankEvent {
	var l []api.BankEvent
	for i := range n {
		l = append(l, changed(func(e *api.BankEvent) { e.Stamp = api.Stamp{Time: n - i, Seq: i} }))
	}
	return l
}

// P7.1: ErrLimit
func TestCanonicalLimit(t *testing.T) {
	most, more := numbered(api.MaxEvents), numbered(api.MaxEvents+1)
	disputing := changed(func(e *api.BankEvent) { e.Stamp = api.Stamp{Time: api.MaxEvents + 1} })
	disputing.Item.Enemies = nil
	ignored := changed(func(e *api.BankEvent) { e.Stamp.Time = -1 })
	for i, l := range [][]api.BankEvent{most, slices.Concat(most, most, most), append(slices.Clone(more), disputing), append(slices.Clone(most), ignored)} {
		if got, code := bank.Canonical(l); code != api.OK || len(got) != api.MaxEvents {
			t.Errorf("%d: Canonical has %d events, %d", i, len(got), code)
		}
	}
	for i, l := range [][]api.BankEvent{more, slices.Concat(most, more[:1]), slices.Concat(more, more), numbered(2000)} {
		if i == 1 { // an event with the Time of another list, and an identity of its own
			l[len(l)-1].Stamp.Source = 1
		}
		if got, code := bank.Canonical(l); code != api.ErrLimit || len(got) != 0 {
			t.Errorf("%d: Canonical has %d events, %d", i, len(got), code)
		}
	}
}

// P7.1 against the definitions of chapter 2
func TestCanonicalOfSamples(t *testing.T) {
	counted, lost := 0, 0
	for n := range 1500 {
		l := chanceOf(41, n, 3+n%60).history()
		want := countingOf(l)
		canonical(t, l, want...)
		counted, lost = counted+len(want), lost+len(l)-len(want)
	}
	if counted < 5000 || lost < 5000 {
		t.Errorf("%d events count, %d do not", counted, lost)
	}
}
