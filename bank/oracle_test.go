package bank_test

import (
	"math"
	"math/rand/v2"
	"slices"

	"awardingbody/api"
	"awardingbody/item"
	"awardingbody/stamp"
)

// strange are numbers that name nothing.
var strange = []int{-1, -2, 1 << 32, 1<<32 + 1, -1 << 32, -1<<32 + 1, math.MaxInt, math.MaxInt - 1, math.MinInt, math.MinInt + 1}

// versionsOf says which numbers of versions a record has.
func versionsOf(r api.Record) []int {
	var all []int
	for i := range r.Versions {
		all = append(all, i+1)
	}
	return all
}

// validOf follows the definition of a valid bank word by word: nothing that it demands is missing.
func validOf(b api.Bank) bool {
	missing := 0
	demand := func(holds bool) {
		if !holds {
			missing++
		}
	}
	demand(len(b.Records) <= 40)
	for i, r := range b.Records {
		for _, earlier := range b.Records[:i] {
			demand(earlier.ID < r.ID)
		}
		demand(len(r.Versions) >= 1 && len(r.Versions) <= 8)
		for k, x := range r.Versions {
			demand(item.Check(x) == api.OK)
			demand([2]int{x.ID, x.Version} == [2]int{r.ID, k + 1})
		}
		demand(len(r.Approved) == len(r.Versions))
		for _, u := range r.Uses {
			demand(slices.Contains(versionsOf(r), u.Version))
		}
		demand(len(r.Uses) <= 300)
	}
	return missing == 0
}

// condition is a condition under which an error is returned.
type condition struct {
	code  api.Errno
	holds func() bool
}

func firstOf(conditions []condition) api.Errno {
	for _, c := range conditions {
		if c.holds() {
			return c.code
		}
	}
	return api.OK
}

// view is what P7.2 says about a bank and an event: the record with its place, if there is one.
type view struct {
	records []api.Record
	place   int
	e       api.BankEvent
}

func viewOf(b api.Bank, id int, e api.BankEvent) view {
	place := slices.IndexFunc(b.Records, func(r api.Record) bool { return r.ID == id })
	return view{b.Records, place, e}
}

func (v view) unknown() bool   { return v.place < 0 }
func (v view) known() bool     { return v.place >= 0 }
func (v view) withdrawn() bool { return v.records[v.place].Withdrawn }
func (v view) standing() bool  { return !v.withdrawn() }
func (v view) full() bool      { return len(v.records) >= 40 }
func (v view) notFirst() bool  { return v.e.Item.Version != 1 }

func (v view) noVersion() bool {
	return v.unknown() || !slices.Contains(versionsOf(v.records[v.place]), v.e.Ref.Version)
}

func (v view) approved() bool { return v.records[v.place].Approved[v.e.Ref.Version-1] }

func (v view) cannotRevise() bool {
	return v.withdrawn() || v.e.Item.Version != len(v.records[v.place].Versions)+1
}

func (v view) cannotUse() bool { return v.withdrawn() || !v.approved() }

func (v view) usedInForm() bool {
	for _, u := range v.records[v.place].Uses {
		if u.Form == v.e.Form {
			return true
		}
	}
	return false
}

func (v view) usedUp() bool { return len(v.records[v.place].Uses) >= 300 }

// errorOf follows P7.2 word by word: each error with its condition, in order.
func errorOf(b api.Bank, e api.BankEvent) api.Errno {
	if !validOf(b) {
		return api.ErrInvalid
	}
	of, check := viewOf(b, e.Item.ID, e), item.Check(e.Item)
	isBad := func() bool { return check != api.OK }
	at := viewOf(b, e.Ref.ID, e)
	switch e.Kind {
	case 1:
		return firstOf([]condition{{check, isBad}, {api.ErrState, of.notFirst}, {api.ErrDuplicate, of.known}, {api.ErrLimit, of.full}})
	case 2:
		return firstOf([]condition{{check, isBad}, {api.ErrUnknown, of.unknown}, {api.ErrState, of.cannotRevise}})
	case 3:
		return firstOf([]condition{{api.ErrUnknown, at.noVersion}, {api.ErrState, at.withdrawn}, {api.ErrDuplicate, at.approved}})
	case 4:
		return firstOf([]condition{{api.ErrUnknown, at.noVersion}, {api.ErrState, at.cannotUse}, {api.ErrDuplicate, at.usedInForm}, {api.ErrLimit, at.usedUp}})
	case 5:
		return firstOf([]condition{{api.ErrUnknown, at.unknown}, {api.ErrState, at.withdrawn}})
	case 6:
		return firstOf([]condition{{api.ErrUnknown, at.unknown}, {api.ErrState, at.standing}})
	}
	return api.ErrRange
}

// applyOf is errorOf with the effect that the chapter defines for the kind.
func applyOf(b api.Bank, e api.BankEvent) (api.Bank, api.Errno) {
	if code := errorOf(b, e); code != api.OK {
		return api.Bank{}, code
	}
	after, fresh := copied(b), copiedEvent(e).Item
	if e.Kind == 1 {
		after.Records = append(after.Records, api.Record{ID: fresh.ID, Versions: []api.Item{fresh}, Approved: make([]bool, 1)})
		slices.SortFunc(after.Records, func(r, s api.Record) int { return r.ID - s.ID })
	}
	for i := range after.Records {
		r := &after.Records[i]
		if e.Kind == 2 && r.ID == e.Item.ID {
			r.Versions, r.Approved = append(r.Versions, fresh), append(r.Approved, false)
		}
		if e.Kind > 2 && r.ID == e.Ref.ID {
			affect(r, e)
		}
	}
	return after, api.OK
}

func affect(r *api.Record, e api.BankEvent) {
	switch e.Kind {
	case 3:
		r.Approved[e.Ref.Version-1] = true
	case 4:
		r.Uses = append(r.Uses, api.Use{Version: e.Ref.Version, Form: e.Form, Time: e.Stamp.Time})
	case 5, 6:
		r.Withdrawn = e.Kind == 5
	}
}

// countingOf follows the definitions of chapter 2: what is valid, not disputed and no copy of something before it.
func countingOf(l []api.BankEvent) []api.BankEvent {
	var found []api.BankEvent
	for i, e := range l {
		counts := stamp.Valid(e.Stamp)
		for k, other := range l {
			isCopy := sameEvent(e, other)
			sameIdentity := other.Stamp.Source == e.Stamp.Source && other.Stamp.Seq == e.Stamp.Seq
			if isCopy && k < i || sameIdentity && stamp.Valid(other.Stamp) && !isCopy {
				counts = false
			}
		}
		if counts {
			found = append(found, e)
		}
	}
	slices.SortFunc(found, func(a, b api.BankEvent) int { return stamp.Compare(a.Stamp, b.Stamp) })
	return found
}

func foldOf(l []api.BankEvent, until int) (api.Bank, []api.Refusal) {
	var b api.Bank
	var refused []api.Refusal
	for _, e := range countingOf(l) {
		if e.Stamp.Time > until {
			continue
		}
		if after, code := applyOf(b, e); code == api.OK {
			b = after
		} else {
			refused = append(refused, api.Refusal{Event: api.Identity{Source: e.Stamp.Source, Seq: e.Stamp.Seq}, Code: code})
		}
	}
	return b, refused
}

// eligibleOf follows P7.5 word by word.
func eligibleOf(b api.Bank, time, rest, most int) []api.Ref {
	isTime := func(n int) bool { return n >= 0 && n <= 1000000 }
	if !validOf(b) || !isTime(time) || !isTime(rest) || most < 0 {
		return nil
	}
	var found []api.Ref
	for _, r := range b.Records {
		greatest := 0
		for i, approved := range r.Approved {
			if approved {
				greatest = i + 1
			}
		}
		rested := 0
		for _, u := range r.Uses {
			if u.Time <= time-rest {
				rested++
			}
		}
		if greatest > 0 && !r.Withdrawn && rested == len(r.Uses) && rested <= most {
			found = append(found, api.Ref{ID: r.ID, Version: greatest})
		}
	}
	return found
}

func sameItem(a, b api.Item) bool {
	return a.ID == b.ID && a.Version == b.Version && a.Stem == b.Stem && slices.Equal(a.Parts, b.Parts) && slices.Equal(a.Enemies, b.Enemies)
}

func sameEvent(a, b api.BankEvent) bool {
	return a.Stamp == b.Stamp && a.Kind == b.Kind && sameItem(a.Item, b.Item) && a.Ref == b.Ref && a.Form == b.Form
}

func sameRecord(a, b api.Record) bool {
	return a.ID == b.ID && slices.EqualFunc(a.Versions, b.Versions, sameItem) && slices.Equal(a.Approved, b.Approved) &&
		slices.Equal(a.Uses, b.Uses) && a.Withdrawn == b.Withdrawn
}

func sameBank(a, b api.Bank) bool { return slices.EqualFunc(a.Records, b.Records, sameRecord) }

func copiedItem(x api.Item) api.Item {
	x.Parts, x.Enemies = slices.Clone(x.Parts), slices.Clone(x.Enemies)
	return x
}

func copiedEvent(e api.BankEvent) api.BankEvent {
	e.Item = copiedItem(e.Item)
	return e
}

func copiedEvents(l []api.BankEvent) []api.BankEvent {
	var all []api.BankEvent
	for _, e := range l {
		all = append(all, copiedEvent(e))
	}
	return all
}

func copied(b api.Bank) api.Bank {
	var all api.Bank
	for _, r := range b.Records {
		s := r
		s.Versions, s.Approved, s.Uses = nil, slices.Clone(r.Approved), slices.Clone(r.Uses)
		for _, x := range r.Versions {
			s.Versions = append(s.Versions, copiedItem(x))
		}
		all.Records = append(all.Records, s)
	}
	return all
}

// chance makes values of which each is wrong with the chance 1 to rarely.
type chance struct {
	*rand.Rand
	rarely int
}

func chanceOf(seed, n, rarely int) chance {
	return chance{rand.New(rand.NewPCG(uint64(seed), uint64(n))), rarely}
}

func (c chance) wrong() bool { return c.IntN(c.rarely) == 0 }

func (c chance) number(least, most int) int {
	if c.wrong() {
		return []int{least - 1, most + 1, strange[c.IntN(len(strange))]}[c.IntN(3)]
	}
	return least + c.IntN(most-least+1)
}

func (c chance) item(id, version int) api.Item {
	x := api.Item{ID: id, Version: version, Stem: []string{"x", "y"}[c.IntN(2)], Parts: []api.Part{{Kind: api.PartOpen, Max: 1 + c.IntN(2)}}}
	if c.IntN(2) == 0 {
		x.Enemies = []int{50}
	}
	if c.wrong() {
		x.Stem = []string{"", "\n"}[c.IntN(2)]
	}
	if c.wrong() {
		x.Parts = make([]api.Part, c.IntN(2))
	}
	return x
}

// record returns a record whose uses are in forms from 0 to 3 at times from 0 to 12.
func (c chance) record(id int) api.Record {
	r := api.Record{ID: id, Withdrawn: c.IntN(3) == 0}
	for i := range 1 + c.IntN(3) {
		r.Versions = append(r.Versions, c.item(id, i+1))
		r.Approved = append(r.Approved, c.IntN(2) == 0)
	}
	for range c.IntN(4) {
		r.Uses = append(r.Uses, api.Use{Version: c.number(1, len(r.Versions)), Form: c.IntN(4), Time: c.IntN(13)})
	}
	if c.wrong() {
		r.Approved = append(r.Approved, true)
	}
	if c.wrong() {
		r.Versions[c.IntN(len(r.Versions))].Version = c.number(1, 3)
	}
	if c.wrong() {
		r.Versions[c.IntN(len(r.Versions))].ID = c.number(0, 5)
	}
	return r
}

// bank returns a bank with some of the IDs from 0 to 5.
func (c chance) bank() api.Bank {
	var b api.Bank
	for id := range 6 {
		if c.IntN(2) == 0 {
			b.Records = append(b.Records, c.record(id))
		}
	}
	if len(b.Records) > 1 && c.wrong() {
		i := 1 + c.IntN(len(b.Records)-1)
		b.Records[i] = b.Records[c.IntN(i)]
	}
	return b
}

// event returns an event for the items from 0 to 5.
func (c chance) event() api.BankEvent {
	s := api.Stamp{Time: c.number(0, 20), Source: c.number(0, 2), Seq: c.number(0, 30)}
	ref := api.Ref{ID: c.number(0, 5), Version: c.number(1, 3)}
	return api.BankEvent{Stamp: s, Kind: c.number(1, 6), Item: c.item(c.number(0, 5), c.number(1, 3)), Ref: ref, Form: c.IntN(4)}
}

// history returns events of which most have an effect in the order of their times, some of them repeated and disputed, in any order.
func (c chance) history() []api.BankEvent {
	var l []api.BankEvent
	var b api.Bank
	for i := range c.IntN(40) {
		e := c.event()
		for range 6 {
			if _, code := applyOf(b, e); code == api.OK {
				break
			}
			e = c.event()
		}
		if stamp.Valid(e.Stamp) {
			e.Stamp = api.Stamp{Time: i / 2, Source: i % 3, Seq: i}
		}
		if after, code := applyOf(b, e); code == api.OK {
			b = after
		}
		l = append(l, e)
	}
	return c.shuffled(l)
}

// shuffled repeats some events, changes some of these, and puts all of them in any order.
func (c chance) shuffled(l []api.BankEvent) []api.BankEvent {
	all := slices.Clone(l)
	for _, e := range l {
		if c.IntN(4) == 0 {
			all = append(all, copiedEvent(e))
		}
		if c.IntN(12) == 0 {
			e.Form++
			all = append(all, copiedEvent(e))
		}
	}
	c.Shuffle(len(all), func(i, k int) { all[i], all[k] = all[k], all[i] })
	return all
}
