package bank_test

import (
	"slices"
	"testing"

	"awardingbody/api"
	"awardingbody/bank"
)

// The functions that spoil overwrite all memory that a result has, spare memory too.

func spoilItem(x api.Item) {
	for i := range x.Parts[:cap(x.Parts)] {
		x.Parts[:cap(x.Parts)][i] = api.Part{Kind: -9}
	}
	for i := range x.Enemies[:cap(x.Enemies)] {
		x.Enemies[:cap(x.Enemies)][i] = -9
	}
}

func spoilRecord(r api.Record) {
	for _, x := range r.Versions {
		spoilItem(x)
	}
	versions, approved, uses := r.Versions[:cap(r.Versions)], r.Approved[:cap(r.Approved)], r.Uses[:cap(r.Uses)]
	for i := range versions {
		versions[i] = api.Item{ID: -9}
	}
	for i := range approved {
		approved[i] = !approved[i]
	}
	for i := range uses {
		uses[i] = use(-9, -9, -9)
	}
}

func spoilBank(b api.Bank) {
	for _, r := range b.Records {
		spoilRecord(r)
	}
	records := b.Records[:cap(b.Records)]
	for i := range records {
		records[i] = api.Record{ID: -9}
	}
}

func spoilEvents(l []api.BankEvent) {
	for _, e := range l {
		spoilItem(e.Item)
	}
	all := l[:cap(l)]
	for i := range all {
		all[i] = api.BankEvent{Kind: -9}
	}
}

// spare returns events whose lists have spare memory, which several of them share.
func spare(l []api.BankEvent) []api.BankEvent {
	parts, enemies := slices.Grow([]api.Part{{Kind: api.PartOpen, Max: 1}}, 9), slices.Grow([]int{50}, 9)
	all := copiedEvents(l)
	for i := range all {
		all[i].Item.Parts, all[i].Item.Enemies = parts, enemies
	}
	return slices.Grow(all, 9)
}

// spareBank returns a bank whose lists have spare memory.
func spareBank(b api.Bank) api.Bank {
	all := copied(b)
	for i, r := range all.Records {
		r.Versions, r.Approved, r.Uses = slices.Grow(r.Versions, 9), slices.Grow(r.Approved, 9), slices.Grow(r.Uses, 9)
		all.Records[i] = r
	}
	all.Records = slices.Grow(all.Records, 9)
	return all
}

// R5 and R6: Canonical and Fold keep the events, share no memory with them, and keep no state
func TestResultsOfEvents(t *testing.T) {
	for n := range 300 {
		l := spare(chanceOf(47, n, 20).history())
		before := copiedEvents(l)
		want, _ := bank.Canonical(l)
		counting := copiedEvents(want)
		folded, refused, _ := bank.Fold(l, 15)
		wanted, wantedRefused := copied(folded), slices.Clone(refused)

		spoilEvents(want)
		spoilBank(folded)
		clear(refused[:cap(refused)])
		if !slices.EqualFunc(l, before, sameEvent) {
			t.Fatalf("%v became %v", before, l)
		}
		canonical(t, l, counting...)
		fold(t, l, 15, wanted, wantedRefused...)
	}
}

// R5 and R6: Apply, Find, Version and Eligible keep the bank and the event, share no memory with them, and keep no state
func TestResultsOfBanks(t *testing.T) {
	changed := 0
	for n := range 5000 {
		c := chanceOf(48, n, 200)
		b, e := spareBank(c.bank()), spare([]api.BankEvent{c.event()})[0]
		bankBefore, eventBefore := copied(b), copiedEvent(e)
		after, code := bank.Apply(b, e)
		want := copied(after)
		if code == api.OK {
			changed++
		}
		for _, r := range b.Records {
			found, _ := bank.Find(b, r.ID)
			x, _ := bank.Version(b, api.Ref{ID: r.ID, Version: 1})
			spoilRecord(found)
			spoilItem(x)
		}
		refs := bank.Eligible(b, 20, 0, 9)
		wantRefs := slices.Clone(refs)
		clear(refs[:cap(refs)])
		spoilBank(after)
		if !sameBank(b, bankBefore) || !sameEvent(e, eventBefore) {
			t.Fatalf("%v, %v became %v, %v", bankBefore, eventBefore, b, e)
		}
		if again, other := bank.Apply(b, e); other != code || !sameBank(again, want) {
			t.Fatalf("a second Apply of %v to %v is %v, %d, not %v, %d", e, b, again, other, want, code)
		}
		eligible(t, b, 20, 0, 9, wantRefs...)
	}
	if changed < 500 {
		t.Errorf("only %d events have an effect", changed)
	}
}

// R5: no two lists of a result are in one memory, even if those of the arguments are
func TestListsOfResults(t *testing.T) {
	x := newItem(3, 1)
	y, z := x, x
	y.ID, z.ID, z.Version = 4, 4, 2
	l := []api.BankEvent{at(1, 0, 1, with(api.BankDraft, x)), at(2, 0, 2, with(api.BankDraft, y)), at(3, 0, 3, with(api.BankRevise, z))}
	counting, _ := bank.Canonical(l)
	spoilItem(counting[0].Item)
	if !sameItem(counting[1].Item, newItem(4, 1)) || !sameItem(counting[2].Item, newItem(4, 2)) {
		t.Errorf("Canonical became %v", counting)
	}
	folded, _, _ := bank.Fold(l, 9)
	spoilRecord(folded.Records[0])
	if !sameRecord(folded.Records[1], record(4, 2)) {
		t.Errorf("Fold became %v", folded)
	}
	spoilItem(folded.Records[1].Versions[0])
	if !sameItem(folded.Records[1].Versions[1], newItem(4, 2)) {
		t.Errorf("Fold became %v", folded)
	}
	shared := api.Bank{Records: []api.Record{{ID: 4, Versions: []api.Item{y, z}, Approved: []bool{true, false}}}}
	for range 2 {
		after, _ := bank.Apply(shared, about(api.BankApprove, 4, 2))
		spoilItem(after.Records[0].Versions[0])
		found, _ := bank.Find(shared, 4)
		spoilItem(found.Versions[0])
		if !sameItem(after.Records[0].Versions[1], newItem(4, 2)) || !sameItem(found.Versions[1], newItem(4, 2)) {
			t.Errorf("Apply became %v, Find became %v", after, found)
		}
	}
}

// R4: nil and an empty list are equivalent
func TestNilAndEmpty(t *testing.T) {
	x, y := newItem(3, 1), newItem(3, 1)
	x.Enemies, y.Enemies = nil, []int{}
	unused, empty := record(3, 1), record(3, 1)
	unused.Versions[0], empty.Versions[0], empty.Uses = x, y, []api.Use{}
	for _, b := range []api.Bank{{}, {Records: []api.Record{}}} {
		for _, e := range []api.BankEvent{with(api.BankDraft, x), with(api.BankDraft, y)} {
			applied(t, b, e, api.Bank{Records: []api.Record{unused}})
		}
		refused(t, b, with(api.BankRevise, x), api.ErrUnknown)
	}
	for _, r := range []api.Record{unused, empty} {
		b := api.Bank{Records: []api.Record{r}}
		after := record(3, 1)
		after.Versions[0], after.Approved[0] = x, true
		applied(t, b, about(api.BankApprove, 3, 1), api.Bank{Records: []api.Record{after}})
		eligible(t, api.Bank{Records: []api.Record{after}}, 0, 0, 0, api.Ref{ID: 3, Version: 1})
	}
	fold(t, []api.BankEvent{at(1, 0, 0, with(api.BankDraft, x)), at(1, 0, 0, with(api.BankDraft, y))}, 9, api.Bank{Records: []api.Record{unused}})
}

// R1: any banks and events at all
func FuzzBank(f *testing.F) {
	f.Add(5, 1, 1, 3, 0, 5, 1, 1, 10, 0, 9)
	f.Add(-1, 0, 4, 3, -7, 2, 9, 70, 3, 3, 0)
	f.Add(9999, 8, 2, 1000001, 100, -3, -1, 1<<60, -1, 1<<62, -1)
	f.Fuzz(func(t *testing.T, id, number, kind, time, source, place, form, seq, until, rest, most int) {
		e := api.BankEvent{Stamp: api.Stamp{Time: time, Source: source, Seq: seq}, Kind: kind, Item: newItem(id, number), Ref: api.Ref{ID: id, Version: number}, Form: form}
		b := three()
		for i := range b.Records {
			if i == place {
				b.Records[i].Uses = append(b.Records[i].Uses, use(number, form, time))
				b.Records[i].ID, b.Records[i].Versions[0].Version = id, number
			}
		}
		want, code := applyOf(b, e)
		if got, errno := bank.Apply(b, e); errno != code || !sameBank(got, want) {
			t.Errorf("Apply of %v to %v is %v, %d, not %v, %d", e, b, got, errno, want, code)
		}
		eligible(t, b, until, rest, most, eligibleOf(b, until, rest, most)...)
		bank.Find(b, id)
		bank.Version(b, e.Ref)
		l := append(story(), e, at(place, 0, 0, e), at(rest, most, seq, e))
		end, refusals := foldOf(l, until)
		fold(t, l, until, end, refusals...)
	})
}
