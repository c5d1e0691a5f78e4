package bank_test

import (
	"math"
	"slices"
	"testing"

	"awardingbody/api"
	"awardingbody/bank"
)

// P7.4
func TestFind(t *testing.T) {
	b := three()
	for _, r := range b.Records {
		if got, ok := bank.Find(b, r.ID); !ok || !sameRecord(got, r) {
			t.Errorf("Find of %d is %v, %v", r.ID, got, ok)
		}
	}
	for _, id := range append([]int{0, 1, 3, 9, 9999}, strange...) {
		if got, ok := bank.Find(b, id); ok || !sameRecord(got, api.Record{}) {
			t.Errorf("Find of %d is %v, %v", id, got, ok)
		}
		if got, ok := bank.Find(api.Bank{}, id); ok || !sameRecord(got, api.Record{}) {
			t.Errorf("Find of %d in nothing is %v, %v", id, got, ok)
		}
	}
}

// version checks what Version says about a reference.
func version(t *testing.T, b api.Bank, r api.Ref, want ...api.Item) {
	t.Helper()
	got, ok := bank.Version(b, r)
	if ok != (len(want) == 1) || !sameItem(got, append(want, api.Item{})[0]) {
		t.Errorf("Version of %v is %v, %v, not %v", r, got, ok, want)
	}
}

// P7.4
func TestVersion(t *testing.T) {
	b := three()
	for _, r := range b.Records {
		for i, x := range r.Versions {
			version(t, b, api.Ref{ID: r.ID, Version: i + 1}, x)
		}
		for _, n := range append([]int{0, len(r.Versions) + 1, 9}, strange...) {
			version(t, b, api.Ref{ID: r.ID, Version: n})
		}
	}
	for _, id := range append([]int{0, 1, 3, 9, 9999}, strange...) {
		version(t, b, api.Ref{ID: id, Version: 1})
		version(t, api.Bank{}, api.Ref{ID: id, Version: 1})
	}
}

// P7.4: the bank need not be valid: the first record with the ID and the place of the version decide
func TestFindInInvalid(t *testing.T) {
	first, second, strays := record(5, 2), record(5, 4), record(-1, 12)
	first.Approved, first.Withdrawn = nil, true
	first.Versions[0].ID, first.Versions[0].Version = 6, 2
	first.Versions[1].Version = 1
	strays.Versions[11].Stem = ""
	b := api.Bank{Records: []api.Record{record(9, 1), first, strays, second, {ID: math.MinInt}, {ID: math.MinInt, Approved: []bool{true}}}}
	for _, r := range []api.Record{b.Records[0], first, strays, b.Records[4]} {
		if got, ok := bank.Find(b, r.ID); !ok || !sameRecord(got, r) {
			t.Errorf("Find of %d is %v, %v", r.ID, got, ok)
		}
	}
	version(t, b, api.Ref{ID: 5, Version: 1}, first.Versions[0])
	version(t, b, api.Ref{ID: 5, Version: 2}, first.Versions[1])
	version(t, b, api.Ref{ID: 5, Version: 3})
	version(t, b, api.Ref{ID: 5, Version: 4})
	version(t, b, api.Ref{ID: 6, Version: 2})
	version(t, b, api.Ref{ID: -1, Version: 12}, strays.Versions[11])
	version(t, b, api.Ref{ID: -1, Version: 13})
	version(t, b, api.Ref{ID: math.MinInt, Version: 1})
	version(t, b, api.Ref{ID: math.MinInt, Version: math.MinInt})
}

// eligible checks what Eligible says about a bank.
func eligible(t *testing.T, b api.Bank, time, rest, most int, want ...api.Ref) {
	t.Helper()
	if got := bank.Eligible(b, time, rest, most); !slices.Equal(got, want) {
		t.Errorf("Eligible at %d with %d and %d is %v, not %v: %v", time, rest, most, got, want, b)
	}
}

// P7.5: the example of the chapter
func TestExample(t *testing.T) {
	five := api.Ref{ID: 5, Version: 1}
	b, refusals, code := bank.Fold([]api.BankEvent{
		{Stamp: api.Stamp{Time: 1}, Kind: api.BankDraft, Item: newItem(5, 1)},
		{Stamp: api.Stamp{Time: 2, Seq: 1}, Kind: api.BankApprove, Ref: five},
		{Stamp: api.Stamp{Time: 3, Seq: 2}, Kind: api.BankUse, Ref: five, Form: 9},
	}, 10)
	if len(refusals) != 0 || code != api.OK {
		t.Fatalf("Fold refuses %v, %d", refusals, code)
	}
	eligible(t, b, 10, 7, 1, five)
	eligible(t, b, 10, 8, 1)
	eligible(t, b, 10, 7, 0)
}

// P7.5: which records, and which of their versions
func TestEligibleVersions(t *testing.T) {
	two, five := api.Ref{ID: 2, Version: 3}, api.Ref{ID: 5, Version: 1}
	eligible(t, api.Bank{}, 10, 0, 5)
	eligible(t, three(), 10, 0, 5, two, five)
	eligible(t, changedBank(func(b *api.Bank) { b.Records[2].Withdrawn = false }), 10, 0, 5, two, five, api.Ref{ID: 8, Version: 2})
	eligible(t, changedBank(func(b *api.Bank) { b.Records[0].Withdrawn = true }), 10, 0, 5, five)
	eligible(t, changedBank(func(b *api.Bank) { b.Records[1].Approved[0] = false }), 10, 0, 5, two)
	for version := 1; version <= 8; version++ {
		for least := 1; least <= version; least++ {
			b := changedBank(func(b *api.Bank) {
				clear(b.Records[0].Approved)
				b.Records[0].Approved[version-1], b.Records[0].Approved[least-1] = true, true
			})
			eligible(t, b, 10, 0, 5, api.Ref{ID: 2, Version: version}, five)
		}
	}
}

// P7.5: how often and how long ago
func TestEligibleUses(t *testing.T) {
	two, five := api.Ref{ID: 2, Version: 3}, api.Ref{ID: 5, Version: 1}
	// The uses of all versions count, of those too that are not approved.
	b := changedBank(func(b *api.Bank) { b.Records[0].Uses = []api.Use{use(3, 70, 4), use(8, 71, 9), use(1, 72, 2)} })
	for most := range 6 {
		if most < 3 {
			eligible(t, b, 100, 0, most, five)
		} else {
			eligible(t, b, 100, 0, most, two, five)
		}
	}
	for time := range 30 {
		for rest := range 30 {
			if time-rest < 9 {
				eligible(t, b, time, rest, 3, five)
			} else {
				eligible(t, b, time, rest, 3, two, five)
			}
		}
	}
	// Nothing but the limits bounds the times of uses.
	early := changedBank(func(b *api.Bank) { b.Records[0].Uses = []api.Use{use(3, 70, -1000000)} })
	eligible(t, early, 0, 1000000, 1, two, five)
	eligible(t, early, 0, 1000000, math.MaxInt, two, five)
	earlier := changedBank(func(b *api.Bank) { b.Records[0].Uses = []api.Use{use(3, 70, -999999)} })
	eligible(t, earlier, 0, 1000000, 1, five)
	late := changedBank(func(b *api.Bank) { b.Records[0].Uses = []api.Use{use(3, 70, 1000000), use(3, 71, math.MinInt)} })
	eligible(t, late, 1000000, 0, 2, two, five)
	eligible(t, late, 999999, 0, 2, five)
	latest := changedBank(func(b *api.Bank) { b.Records[0].Uses = []api.Use{use(3, 70, math.MaxInt)} })
	eligible(t, latest, 1000000, 0, 2, five)
}

// P7.5: the arguments that it excludes
func TestEligibleExcludes(t *testing.T) {
	two, five := api.Ref{ID: 2, Version: 3}, api.Ref{ID: 5, Version: 1}
	eligible(t, three(), 1000000, 0, 1, two, five)
	eligible(t, three(), 1000000, 1000000, 1, five)
	eligible(t, three(), 0, 0, 0, five)
	eligible(t, three(), 0, 1000000, 0, five)
	for _, n := range append([]int{1000001}, strange...) {
		eligible(t, three(), n, 0, 1)
		eligible(t, three(), 10, n, 1)
		eligible(t, three(), n, n, 1)
		if n < 0 {
			eligible(t, three(), 10, 0, n)
		} else {
			eligible(t, three(), 10, 0, n, two, five)
		}
	}
}

// P7.4 and P7.5 against the wording of the chapter
func TestReadingOfSamples(t *testing.T) {
	invalid, some := 0, 0
	for n := range 30000 {
		c := chanceOf(43, n, 10+n%300)
		b := c.bank()
		time, rest, most := c.number(0, 20), c.number(0, 20), c.number(0, 4)
		want := eligibleOf(b, time, rest, most)
		eligible(t, b, time, rest, most, want...)
		if !validOf(b) {
			invalid++
		}
		if len(want) > 0 {
			some++
		}
		id, number := c.number(0, 5), c.number(1, 3)
		found := slices.IndexFunc(b.Records, func(r api.Record) bool { return r.ID == id })
		if r, ok := bank.Find(b, id); ok != (found >= 0) || ok && !sameRecord(r, b.Records[found]) || !ok && !sameRecord(r, api.Record{}) {
			t.Fatalf("Find of %d in %v is %v, %v", id, b, r, ok)
		}
		if found >= 0 && slices.Contains(versionsOf(b.Records[found]), number) {
			version(t, b, api.Ref{ID: id, Version: number}, b.Records[found].Versions[number-1])
		} else {
			version(t, b, api.Ref{ID: id, Version: number})
		}
	}
	if invalid < 1000 || some < 1000 {
		t.Errorf("%d banks are not valid, %d have something eligible", invalid, some)
	}
}
