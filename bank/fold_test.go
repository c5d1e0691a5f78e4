package bank_test

import (
	"math"
	"slices"
	"testing"

	"awardingbody/api"
	"awardingbody/bank"
)

// at gives an event a stamp.
func at(time, source, seq int, e api.BankEvent) api.BankEvent {
	e.Stamp = api.Stamp{Time: time, Source: source, Seq: seq}
	return e
}

func refusal(source, seq int, code api.Errno) api.Refusal {
	return api.Refusal{Event: api.Identity{Source: source, Seq: seq}, Code: code}
}

// fold checks what Fold says about a list.
func fold(t *testing.T, l []api.BankEvent, until int, want api.Bank, refusals ...api.Refusal) {
	t.Helper()
	got, refused, code := bank.Fold(l, until)
	if code != api.OK || !sameBank(got, want) || !slices.Equal(refused, refusals) {
		t.Errorf("Fold until %d is %v, %v, %d, not %v, %v: %v", until, got, refused, code, want, refusals, l)
	}
}

// story returns events in the order of their stamps, with one of each kind that has an effect and one of each that is refused.
func story() []api.BankEvent {
	return []api.BankEvent{
		at(1, 3, 4, with(api.BankDraft, newItem(5, 1))),
		at(2, 3, 3, with(api.BankRevise, newItem(5, 3))), // refused
		at(2, 4, 2, with(api.BankRevise, newItem(5, 2))),
		at(3, 1, 2, about(api.BankUse, 5, 2)), // refused
		at(3, 1, 3, about(api.BankApprove, 5, 2)),
		at(4, 0, 9, about(api.BankUse, 5, 2)),
		at(5, 0, 0, about(api.BankWithdraw, 5, 2)),
		at(6, 9, 0, about(api.BankApprove, 5, 1)), // refused
		at(7, 0, 1, about(api.BankRestore, 5, 2)),
		at(8, 2, 0, with(api.BankDraft, newItem(5, 1))), // refused
		at(8, 2, 1, with(api.BankDraft, newItem(4, 1))),
		at(8, 2, 2, about(0, 5, 1)),               // refused
		at(9, 5, 5, about(api.BankApprove, 5, 3)), // refused
	}
}

func refusalsOfStory() []api.Refusal {
	return []api.Refusal{
		refusal(3, 3, api.ErrState), refusal(1, 2, api.ErrState), refusal(9, 0, api.ErrState),
		refusal(2, 0, api.ErrDuplicate), refusal(2, 2, api.ErrRange), refusal(5, 5, api.ErrUnknown),
	}
}

// P7.3: until each time
func TestFold(t *testing.T) {
	five := record(5, 1)
	until := []api.Bank{{}, {Records: []api.Record{five}}}
	five = record(5, 2)
	until = append(until, api.Bank{Records: []api.Record{five}})
	five.Approved = []bool{false, true}
	until = append(until, api.Bank{Records: []api.Record{five}})
	five.Uses = []api.Use{use(2, 71, 4)}
	until = append(until, api.Bank{Records: []api.Record{five}})
	withdrawn := five
	withdrawn.Withdrawn = true
	until = append(until, api.Bank{Records: []api.Record{withdrawn}}, api.Bank{Records: []api.Record{withdrawn}}, api.Bank{Records: []api.Record{five}})
	end := api.Bank{Records: []api.Record{record(4, 1), five}}
	until = append(until, end, end)

	l, all := story(), refusalsOfStory()
	for time, refused := range []int{0, 0, 1, 2, 2, 2, 3, 3, 5, 6} {
		fold(t, l, time, until[time], all[:refused]...)
	}
	for _, time := range []int{10, api.MaxTime, api.MaxTime + 1, math.MaxInt} {
		fold(t, l, time, end, all...)
	}
	for _, time := range []int{-1, math.MinInt} {
		fold(t, l, time, api.Bank{})
	}
	slices.Reverse(l)
	fold(t, l, 9, end, all...)
	fold(t, slices.Concat(l, story(), l), 9, end, all...)
	fold(t, nil, 9, api.Bank{})
	fold(t, []api.BankEvent{}, 9, api.Bank{})
}

// P7.3: an event that is disputed has no effect, by an event after the time too, and is not refused; what is not valid is ignored
func TestFoldOfDisputed(t *testing.T) {
	end := api.Bank{Records: []api.Record{record(5, 1)}}
	draft := at(1, 0, 0, with(api.BankDraft, newItem(5, 1)))
	revise, other := at(2, 0, 1, with(api.BankRevise, newItem(5, 2))), at(90, 0, 1, with(api.BankRevise, newItem(5, 2)))
	fold(t, []api.BankEvent{draft, revise}, 50, api.Bank{Records: []api.Record{record(5, 2)}})
	fold(t, []api.BankEvent{draft, revise, other}, 50, end)
	fold(t, []api.BankEvent{other, revise, draft}, 50, end)
	fold(t, []api.BankEvent{draft, at(-1, 0, 1, revise), at(1, 100, 1, revise), at(1, 0, 10000, revise), at(-1, 0, 0, draft)}, 50, end)
	fold(t, []api.BankEvent{draft, at(-1, 0, 1, revise), revise}, 50, api.Bank{Records: []api.Record{record(5, 2)}})
}

// P7.3: the limit of the items
func TestFoldOfManyItems(t *testing.T) {
	var l []api.BankEvent
	var want api.Bank
	for i := range 42 {
		l = append(l, at(i, 0, i, with(api.BankDraft, newItem(9000-i, 1))))
		if i < 40 {
			want.Records = append(want.Records, record(9000-i, 1))
		}
	}
	slices.Reverse(want.Records)
	fold(t, l, 50, want, refusal(0, 40, api.ErrLimit), refusal(0, 41, api.ErrLimit))
}

// P7.3: ErrLimit, even by events after the time
func TestFoldLimit(t *testing.T) {
	for _, until := range []int{math.MinInt, -1, 0, 1, 150, 301, math.MaxInt} {
		if b, refused, code := bank.Fold(numbered(api.MaxEvents+1), until); code != api.ErrLimit || len(b.Records) != 0 || len(refused) != 0 {
			t.Errorf("Fold until %d is %v, %v, %d", until, b, refused, code)
		}
	}
	var refusals []api.Refusal
	for i := range api.MaxEvents {
		refusals = append(refusals, refusal(0, api.MaxEvents-1-i, api.ErrUnknown))
	}
	most := numbered(api.MaxEvents)
	fold(t, slices.Concat(most, most), api.MaxEvents, api.Bank{}, refusals...)
}

// P7.3 and P7.6 against the wording of the chapter, whatever the order and the repetitions
func TestFoldOfSamples(t *testing.T) {
	refused, records := 0, 0
	for n := range 2000 {
		c := chanceOf(44, n, 5+n%60)
		l, until := c.history(), c.number(0, 20)
		want, refusals := foldOf(l, until)
		fold(t, l, until, want, refusals...)
		again := slices.Concat(l, l[:len(l)/2])
		c.Shuffle(len(again), func(i, k int) { again[i], again[k] = again[k], again[i] })
		fold(t, again, until, want, refusals...)
		refused, records = refused+len(refusals), records+len(want.Records)
	}
	if refused < 2000 || records < 2000 {
		t.Errorf("%d events are refused, there are %d records", refused, records)
	}
}

// P7.6: the bank is valid, and every canonical event up to the time is applied or refused
func TestFoldIsValid(t *testing.T) {
	for n := range 1000 {
		l := chanceOf(45, n, 5+n%60).history()
		counting, _ := bank.Canonical(l)
		for until := range 22 {
			b, refused, _ := bank.Fold(l, until)
			if !validOf(b) {
				t.Fatalf("%v is not valid", b)
			}
			if _, code := bank.Apply(b, api.BankEvent{}); code != api.ErrRange {
				t.Fatalf("Apply to %v is %d", b, code)
			}
			var step api.Bank
			for _, e := range counting {
				if e.Stamp.Time > until {
					continue
				}
				after, code := bank.Apply(step, e)
				if code == api.OK {
					step = after
				} else if len(refused) > 0 && refused[0] == refusal(e.Stamp.Source, e.Stamp.Seq, code) {
					refused = refused[1:]
				} else {
					t.Fatalf("%v is neither applied nor refused: %d", e, code)
				}
			}
			if len(refused) > 0 || !sameBank(step, b) {
				t.Fatalf("Fold is %v, and %v step by step; %v are left", b, step, refused)
			}
		}
	}
}

// P7.6: records and versions stay where they are
func TestFoldGrows(t *testing.T) {
	grown := 0
	for n := range 500 {
		l := chanceOf(46, n, 10+n%60).history()
		for until := range 20 {
			earlier, _, _ := bank.Fold(l, until)
			for later := until; later < 21; later++ {
				b, _, _ := bank.Fold(l, later)
				for _, r := range earlier.Records {
					s, ok := bank.Find(b, r.ID)
					if !ok || len(s.Versions) < len(r.Versions) || !slices.EqualFunc(r.Versions, s.Versions[:len(r.Versions)], sameItem) {
						t.Fatalf("%v became %v, %v", r, s, ok)
					}
					grown += len(s.Versions) - len(r.Versions)
				}
			}
		}
	}
	if grown < 500 {
		t.Errorf("only %d versions came later", grown)
	}
}
