package bank_test

import (
	"slices"
	"strings"
	"testing"

	"awardingbody/api"
	"awardingbody/bank"
)

func newItem(id, version int) api.Item {
	return api.Item{ID: id, Version: version, Stem: "x", Parts: []api.Part{{Kind: api.PartOpen, Max: 3}}, Enemies: []int{9999}}
}

func use(version, form, time int) api.Use {
	return api.Use{Version: version, Form: form, Time: time}
}

// record returns a record with so many versions, none of them approved.
func record(id, versions int) api.Record {
	r := api.Record{ID: id, Approved: make([]bool, versions)}
	for i := range versions {
		r.Versions = append(r.Versions, newItem(id, i+1))
	}
	return r
}

// three is a bank with the items 2, 5 and 8: 2 has 8 versions, of which 3 is approved and used; 5 has one that is approved; 8 has two and is withdrawn.
func three() api.Bank {
	two, five, eight := record(2, 8), record(5, 1), record(8, 2)
	two.Approved[2], two.Uses = true, []api.Use{use(3, 70, 4)}
	five.Approved[0] = true
	eight.Approved[1], eight.Withdrawn = true, true
	return api.Bank{Records: []api.Record{two, five, eight}}
}

func changedBank(change func(b *api.Bank)) api.Bank {
	b := three()
	change(&b)
	return b
}

// about returns an event that names an item by Ref; what its kind does not name is nonsense.
func about(kind, id, version int) api.BankEvent {
	nonsense := api.Item{ID: -5, Version: -5, Stem: "\n", Parts: make([]api.Part, 9)}
	return api.BankEvent{Stamp: api.Stamp{Time: 6, Source: -1, Seq: -1}, Kind: kind, Item: nonsense, Ref: api.Ref{ID: id, Version: version}, Form: 71}
}

// with returns an event that names an item by Item; what its kind does not name is nonsense.
func with(kind int, x api.Item) api.BankEvent {
	return api.BankEvent{Stamp: api.Stamp{Time: -7}, Kind: kind, Item: x, Ref: api.Ref{ID: -1, Version: -1}, Form: -1}
}

// refused checks that Apply returns an error and nothing else.
func refused(t *testing.T, b api.Bank, e api.BankEvent, want api.Errno) {
	t.Helper()
	if got, code := bank.Apply(b, e); code != want || len(got.Records) != 0 {
		t.Errorf("Apply of %v is %v, %d, not %d", e, got, code, want)
	}
}

// applied checks that Apply returns the bank after an event.
func applied(t *testing.T, b api.Bank, e api.BankEvent, want api.Bank) {
	t.Helper()
	if got, code := bank.Apply(b, e); code != api.OK || !sameBank(got, want) {
		t.Errorf("Apply of %v is %v, %d, not %v", e, got, code, want)
	}
}

// P7.2: ErrInvalid comes before all other errors
func TestInvalidBanks(t *testing.T) {
	for i := range 3 {
		for k, change := range []func(r *api.Record){
			func(r *api.Record) { r.Versions, r.Approved, r.Uses = nil, nil, nil },
			func(r *api.Record) { *r = record(r.ID, 9) },
			func(r *api.Record) { r.Versions[len(r.Versions)-1].Stem = "" },
			func(r *api.Record) { r.Versions[0].Parts = nil },
			func(r *api.Record) { r.Versions[0].Enemies = []int{r.ID} },
			func(r *api.Record) { r.Versions[len(r.Versions)-1].ID = 9 },
			func(r *api.Record) { r.Versions[0].Version = 2 },
			func(r *api.Record) { r.Versions[len(r.Versions)-1].Version-- },
			func(r *api.Record) { r.Versions[len(r.Versions)-1].Version++ },
			func(r *api.Record) { r.Approved = r.Approved[1:] },
			func(r *api.Record) { r.Approved = nil },
			func(r *api.Record) { r.Approved = append(r.Approved, false) },
			func(r *api.Record) { r.Uses = append(r.Uses, api.Use{}) },
			func(r *api.Record) { r.Uses = append(r.Uses, api.Use{Version: -1}) },
			func(r *api.Record) { r.Uses = append(r.Uses, api.Use{Version: len(r.Versions) + 1}) },
			func(r *api.Record) { r.Uses = slices.Repeat([]api.Use{{Version: 1}}, 301) },
		} {
			b := changedBank(func(b *api.Bank) { change(&b.Records[i]) })
			if validOf(b) {
				t.Errorf("%d, %d: the bank is valid", i, k)
			}
			for kind := range 8 {
				refused(t, b, about(kind, 5, 1), api.ErrInvalid)
				refused(t, b, with(kind, newItem(5, 2)), api.ErrInvalid)
			}
			if got := bank.Eligible(b, 10, 0, 400); len(got) != 0 {
				t.Errorf("%d, %d: Eligible is %v", i, k, got)
			}
		}
	}
}

// P7.2: ErrInvalid by the order and the number of the records
func TestInvalidRecords(t *testing.T) {
	records := func(ids ...int) (b api.Bank) {
		for _, id := range ids {
			b.Records = append(b.Records, record(id, 1))
			b.Records[len(b.Records)-1].Approved[0] = true
		}
		return b
	}
	var many []int
	for id := range 41 {
		many = append(many, id)
	}
	for i, b := range []api.Bank{records(many...), records(2, 2), records(2, 1), records(1, 3, 3), records(1, 3, 2), records(3, 1, 2), records(-1), records(10000), records(-1, 0)} {
		refused(t, b, api.BankEvent{}, api.ErrInvalid)
		refused(t, b, with(api.BankDraft, newItem(7, 1)), api.ErrInvalid)
		if got := bank.Eligible(b, 10, 0, 9); len(got) != 0 {
			t.Errorf("%d: Eligible is %v", i, got)
		}
	}
	for i, b := range []api.Bank{{}, {Records: []api.Record{}}, three(), records(0, 9998), records(many[:40]...)} {
		refused(t, b, api.BankEvent{}, api.ErrRange)
		if got := bank.Eligible(b, 10, 0, 9); i > 2 && len(got) != len(b.Records) {
			t.Errorf("%d: Eligible is %v", i, got)
		}
	}
}

// P7.2: a bank is valid whatever the forms and the times of its uses are
func TestUsesOfValidBanks(t *testing.T) {
	for _, uses := range [][]api.Use{
		{use(1, 70, 4), use(8, 70, 4), use(1, 70, 4)},
		{use(5, -3, -9), use(5, 1<<40, 1<<40)},
		slices.Repeat([]api.Use{use(8, 1, 1)}, 300),
	} {
		b := changedBank(func(b *api.Bank) { b.Records[0].Uses = uses })
		refused(t, b, api.BankEvent{}, api.ErrRange)
		applied(t, b, about(api.BankWithdraw, 2, 0), changedBank(func(b *api.Bank) { b.Records[0].Uses, b.Records[0].Withdrawn = uses, true }))
	}
}

// P7.2: ErrRange
func TestKinds(t *testing.T) {
	for _, kind := range append([]int{0, 7, 8, 9}, strange...) {
		refused(t, three(), about(kind, 5, 1), api.ErrRange)
		refused(t, three(), with(kind, newItem(7, 1)), api.ErrRange)
		refused(t, three(), api.BankEvent{Kind: kind}, api.ErrRange)
	}
}

// badItems are items with each error of item.Check.
func badItems(id, version int) map[api.Errno]api.Item {
	bad := map[api.Errno]api.Item{}
	for code, change := range map[api.Errno]func(x *api.Item){
		api.ErrRange:    func(x *api.Item) { x.Version = 9 },
		api.ErrLimit:    func(x *api.Item) { x.Stem = strings.Repeat("x", 41) },
		api.ErrSyntax:   func(x *api.Item) { x.Stem = "" },
		api.ErrNone:     func(x *api.Item) { x.Parts = nil },
		api.ErrInvalid:  func(x *api.Item) { x.Parts = make([]api.Part, 1) },
		api.ErrConflict: func(x *api.Item) { x.Enemies = []int{x.ID} },
	} {
		x := newItem(id, version)
		change(&x)
		bad[code] = x
	}
	return bad
}

// P7.2: BankDraft
func TestDraft(t *testing.T) {
	for place, id := range []int{0, 3, 6, 9998} {
		want := three()
		want.Records = slices.Insert(want.Records, place, api.Record{ID: id, Versions: []api.Item{newItem(id, 1)}, Approved: []bool{false}})
		applied(t, three(), with(api.BankDraft, newItem(id, 1)), want)
	}
	applied(t, api.Bank{}, with(api.BankDraft, newItem(3, 1)), api.Bank{Records: []api.Record{record(3, 1)}})
	// The error of Check comes first, then the version, whether the item is there or not.
	for _, id := range []int{2, 3, 5, 8} {
		for code, x := range badItems(id, 2) {
			refused(t, three(), with(api.BankDraft, x), code)
		}
		for version := 2; version <= 8; version++ {
			refused(t, three(), with(api.BankDraft, newItem(id, version)), api.ErrState)
		}
		refused(t, three(), with(api.BankDraft, newItem(id, 0)), api.ErrRange)
	}
	for _, id := range []int{2, 5, 8} {
		refused(t, three(), with(api.BankDraft, newItem(id, 1)), api.ErrDuplicate)
	}
}

// P7.2: BankDraft: ErrLimit is the last error
func TestDraftLimit(t *testing.T) {
	var b api.Bank
	for id := range 39 {
		b.Records = append(b.Records, record(id, 1))
	}
	want := copied(b)
	want.Records = append(want.Records, record(50, 1))
	applied(t, b, with(api.BankDraft, newItem(50, 1)), want)
	for _, id := range []int{39, 60} {
		refused(t, want, with(api.BankDraft, newItem(id, 1)), api.ErrLimit)
		refused(t, want, with(api.BankDraft, newItem(id, 2)), api.ErrState)
		for code, x := range badItems(id, 1) {
			refused(t, want, with(api.BankDraft, x), code)
		}
	}
	for _, id := range []int{0, 38, 50} {
		refused(t, want, with(api.BankDraft, newItem(id, 1)), api.ErrDuplicate)
	}
}

// P7.2: BankRevise
func TestRevise(t *testing.T) {
	other := newItem(5, 2)
	other.Stem, other.Parts, other.Enemies = "quite another stem", []api.Part{{Kind: api.PartChoice, Max: 2, Options: 3}}, nil
	for _, x := range []api.Item{newItem(5, 2), other} {
		applied(t, three(), with(api.BankRevise, x), changedBank(func(b *api.Bank) {
			b.Records[1].Versions, b.Records[1].Approved = append(b.Records[1].Versions, x), []bool{true, false}
		}))
	}
	used := func(b *api.Bank) { b.Records[1].Uses = []api.Use{use(1, 3, 3)} }
	applied(t, changedBank(used), with(api.BankRevise, other), changedBank(func(b *api.Bank) {
		used(b)
		b.Records[1].Versions, b.Records[1].Approved = append(b.Records[1].Versions, other), []bool{true, false}
	}))
	for _, id := range []int{2, 3, 5, 8} {
		for code, x := range badItems(id, 2) {
			refused(t, three(), with(api.BankRevise, x), code)
		}
	}
	for _, id := range []int{0, 1, 3, 4, 9998} {
		for version := 1; version <= 8; version++ {
			refused(t, three(), with(api.BankRevise, newItem(id, version)), api.ErrUnknown)
		}
	}
	for _, version := range []int{1, 3, 4, 8} {
		refused(t, three(), with(api.BankRevise, newItem(5, version)), api.ErrState)
	}
	// withdrawn, and with all versions that there may be
	for version := 1; version <= 8; version++ {
		refused(t, three(), with(api.BankRevise, newItem(8, version)), api.ErrState)
		refused(t, three(), with(api.BankRevise, newItem(2, version)), api.ErrState)
	}
	refused(t, three(), with(api.BankRevise, newItem(2, 9)), api.ErrRange)
}

// P7.2: BankRevise up to the last version
func TestAllVersions(t *testing.T) {
	b := api.Bank{Records: []api.Record{record(5, 1)}}
	for version := 2; version <= 8; version++ {
		next := api.Bank{Records: []api.Record{record(5, version)}}
		applied(t, b, with(api.BankRevise, newItem(5, version)), next)
		b = next
	}
}

// P7.2: BankApprove
func TestApprove(t *testing.T) {
	for version := 1; version <= 8; version++ {
		if version != 3 {
			applied(t, three(), about(api.BankApprove, 2, version), changedBank(func(b *api.Bank) { b.Records[0].Approved[version-1] = true }))
		}
	}
	refused(t, three(), about(api.BankApprove, 2, 3), api.ErrDuplicate)
	refused(t, three(), about(api.BankApprove, 5, 1), api.ErrDuplicate)
	refused(t, three(), about(api.BankApprove, 8, 1), api.ErrState)
	refused(t, three(), about(api.BankApprove, 8, 2), api.ErrState) // approved already, but withdrawn
	unknownVersions(t, api.BankApprove)
}

// unknownVersions checks that a kind knows what it names.
func unknownVersions(t *testing.T, kind int) {
	t.Helper()
	for _, version := range append([]int{0, 9, 10}, strange...) {
		for _, id := range []int{2, 3, 5, 8} {
			refused(t, three(), about(kind, id, version), api.ErrUnknown)
		}
	}
	refused(t, three(), about(kind, 5, 2), api.ErrUnknown)
	refused(t, three(), about(kind, 8, 3), api.ErrUnknown) // withdrawn, but it has no such version
	for _, id := range append([]int{0, 1, 3, 4, 6, 7, 9, 10000}, strange...) {
		refused(t, three(), about(kind, id, 1), api.ErrUnknown)
	}
}

// P7.2: BankUse
func TestUse(t *testing.T) {
	applied(t, three(), about(api.BankUse, 2, 3), changedBank(func(b *api.Bank) {
		b.Records[0].Uses = append(b.Records[0].Uses, use(3, 71, 6))
	}))
	applied(t, three(), about(api.BankUse, 5, 1), changedBank(func(b *api.Bank) { b.Records[1].Uses = []api.Use{use(1, 71, 6)} }))
	for _, n := range append([]int{0, 69, 71, 1000000}, strange...) {
		e := about(api.BankUse, 2, 3)
		e.Form, e.Stamp.Time = n, n
		applied(t, three(), e, changedBank(func(b *api.Bank) {
			b.Records[0].Uses = append(b.Records[0].Uses, use(3, n, n))
		}))
	}
	for _, version := range []int{1, 2, 4, 5, 6, 7, 8} {
		refused(t, three(), about(api.BankUse, 2, version), api.ErrState)
	}
	refused(t, three(), about(api.BankUse, 8, 1), api.ErrState)
	refused(t, three(), about(api.BankUse, 8, 2), api.ErrState)
	unknownVersions(t, api.BankUse)
}

// P7.2: BankUse: a form that a use of any version of the record has, and the limit of the uses, in this order
func TestUseAgain(t *testing.T) {
	again := about(api.BankUse, 2, 3)
	again.Form = 70
	refused(t, three(), again, api.ErrDuplicate)
	other := changedBank(func(b *api.Bank) { b.Records[0].Approved[4] = true })
	again.Ref.Version = 5
	refused(t, other, again, api.ErrDuplicate)
	refused(t, three(), again, api.ErrState) // not approved, and the same form
	again.Ref = api.Ref{ID: 5, Version: 1}
	applied(t, three(), again, changedBank(func(b *api.Bank) { b.Records[1].Uses = []api.Use{use(1, 70, 6)} }))

	used := func(n int) api.Bank {
		return changedBank(func(b *api.Bank) {
			for i := range n {
				b.Records[1].Uses = append(b.Records[1].Uses, use(1, 1000+i, 6))
			}
		})
	}
	e := about(api.BankUse, 5, 1)
	e.Form = 1299
	applied(t, used(299), e, used(300))
	refused(t, used(300), e, api.ErrDuplicate)
	e.Form = 1300
	refused(t, used(300), e, api.ErrLimit)
	refused(t, changedBank(func(b *api.Bank) { *b = used(300); b.Records[1].Approved[0] = false }), e, api.ErrState)
}

// P7.2: BankWithdraw and BankRestore
func TestWithdraw(t *testing.T) {
	for i, id := range []int{2, 5, 8} {
		for _, withdrawn := range []bool{false, true} {
			before := changedBank(func(b *api.Bank) { b.Records[i].Withdrawn = withdrawn })
			after := changedBank(func(b *api.Bank) { b.Records[i].Withdrawn = !withdrawn })
			does, cannot := api.BankWithdraw, api.BankRestore
			if withdrawn {
				does, cannot = cannot, does
			}
			for _, version := range append([]int{0, 1, 9}, strange...) {
				applied(t, before, about(does, id, version), after)
				refused(t, before, about(cannot, id, version), api.ErrState)
			}
		}
	}
	for _, id := range append([]int{0, 1, 3, 4, 6, 7, 9, 10000}, strange...) {
		refused(t, three(), about(api.BankWithdraw, id, 1), api.ErrUnknown)
		refused(t, three(), about(api.BankRestore, id, 1), api.ErrUnknown)
	}
}

// P7.2 against the wording of the chapter
func TestApplyOfSamples(t *testing.T) {
	count := map[[2]int]int{}
	for n := range 60000 {
		c := chanceOf(42, n, 10+n%300)
		b, e := c.bank(), c.event()
		want, code := applyOf(b, e)
		count[[2]int{e.Kind, int(code)}]++
		if got, errno := bank.Apply(b, e); errno != code || !sameBank(got, want) {
			t.Fatalf("Apply of %v to %v is %v, %d, not %v, %d", e, b, got, errno, want, code)
		}
	}
	for _, l := range [][]int{ // a kind and its errors without a limit
		{1, int(api.OK), int(api.ErrInvalid), int(api.ErrRange), int(api.ErrSyntax), int(api.ErrNone), int(api.ErrState), int(api.ErrDuplicate)},
		{2, int(api.OK), int(api.ErrInvalid), int(api.ErrRange), int(api.ErrSyntax), int(api.ErrNone), int(api.ErrUnknown), int(api.ErrState)},
		{3, int(api.OK), int(api.ErrInvalid), int(api.ErrUnknown), int(api.ErrState), int(api.ErrDuplicate)},
		{4, int(api.OK), int(api.ErrInvalid), int(api.ErrUnknown), int(api.ErrState), int(api.ErrDuplicate)},
		{5, int(api.OK), int(api.ErrInvalid), int(api.ErrUnknown), int(api.ErrState)},
		{6, int(api.OK), int(api.ErrInvalid), int(api.ErrUnknown), int(api.ErrState)},
		{7, int(api.ErrInvalid), int(api.ErrRange)},
	} {
		for _, code := range l[1:] {
			if count[[2]int{l[0], code}] < 20 {
				t.Errorf("the kind %d has the error %d only %d times", l[0], code, count[[2]int{l[0], code}])
			}
		}
	}
}
