package bank

import (
	"slices"

	"awardingbody/api"
	"awardingbody/item"
)

// Apply returns the bank after an event.
func Apply(b api.Bank, e api.BankEvent) (api.Bank, api.Errno) {
	if !valid(b) {
		return api.Bank{}, api.ErrInvalid
	}
	after := copyOfBank(b)
	if code := change(&after, copyOfEvent(e)); code != api.OK {
		return api.Bank{}, code
	}
	return after, api.OK
}

// Fold returns the bank after the canonical events until a time.
func Fold(l []api.BankEvent, until int) (api.Bank, []api.Refusal, api.Errno) {
	events, code := Canonical(l)
	if code != api.OK {
		return api.Bank{}, nil, code
	}
	var b api.Bank
	var refused []api.Refusal
	for _, e := range events {
		if e.Stamp.Time > until {
			break
		}
		// The bank stays valid, so that Apply would only check and copy it again.
		if code := change(&b, e); code != api.OK {
			refused = append(refused, api.Refusal{Event: api.Identity{Source: e.Stamp.Source, Seq: e.Stamp.Seq}, Code: code})
		}
	}
	return b, refused, api.OK
}

// change applies an event to a valid bank, which may keep the memory of the event. With an error the bank is left as it was.
func change(b *api.Bank, e api.BankEvent) api.Errno {
	byKind := map[int]func(*api.Bank, api.BankEvent) api.Errno{
		api.BankDraft:    draft,
		api.BankRevise:   revise,
		api.BankApprove:  approve,
		api.BankUse:      use,
		api.BankWithdraw: withdraw,
		api.BankRestore:  restore,
	}
	apply, found := byKind[e.Kind]
	if !found {
		return api.ErrRange
	}
	return apply(b, e)
}

func draft(b *api.Bank, e api.BankEvent) api.Errno {
	x := e.Item
	if code := item.Check(x); code != api.OK {
		return code
	}
	switch {
	case x.Version != 1:
		return api.ErrState
	case recordOf(b, x.ID) != nil:
		return api.ErrDuplicate
	case len(b.Records) == api.MaxItems:
		return api.ErrLimit
	}
	record := api.Record{ID: x.ID, Versions: []api.Item{x}, Approved: []bool{false}}
	b.Records = slices.Insert(b.Records, placeOf(b, x.ID), record)
	return api.OK
}

// placeOf returns the number of records with a smaller ID.
func placeOf(b *api.Bank, id int) int {
	place := 0
	for place < len(b.Records) && b.Records[place].ID < id {
		place++
	}
	return place
}

func revise(b *api.Bank, e api.BankEvent) api.Errno {
	x := e.Item
	// No valid item has a version that would be one too many.
	if code := item.Check(x); code != api.OK {
		return code
	}
	r := recordOf(b, x.ID)
	switch {
	case r == nil:
		return api.ErrUnknown
	case r.Withdrawn || x.Version != len(r.Versions)+1:
		return api.ErrState
	}
	r.Versions = append(r.Versions, x)
	r.Approved = append(r.Approved, false)
	return api.OK
}

func approve(b *api.Bank, e api.BankEvent) api.Errno {
	r := versionedRecord(b, e.Ref)
	switch {
	case r == nil:
		return api.ErrUnknown
	case r.Withdrawn:
		return api.ErrState
	case r.Approved[e.Ref.Version-1]:
		return api.ErrDuplicate
	}
	r.Approved[e.Ref.Version-1] = true
	return api.OK
}

func use(b *api.Bank, e api.BankEvent) api.Errno {
	r := versionedRecord(b, e.Ref)
	switch {
	case r == nil:
		return api.ErrUnknown
	case r.Withdrawn || !r.Approved[e.Ref.Version-1]:
		return api.ErrState
	case hasForm(r.Uses, e.Form):
		return api.ErrDuplicate
	case len(r.Uses) == api.MaxEvents:
		return api.ErrLimit
	}
	r.Uses = append(r.Uses, api.Use{Version: e.Ref.Version, Form: e.Form, Time: e.Stamp.Time})
	return api.OK
}

func hasForm(uses []api.Use, form int) bool {
	return slices.ContainsFunc(uses, func(u api.Use) bool { return u.Form == form })
}

func withdraw(b *api.Bank, e api.BankEvent) api.Errno { return setWithdrawn(b, e.Ref.ID, true) }

func restore(b *api.Bank, e api.BankEvent) api.Errno { return setWithdrawn(b, e.Ref.ID, false) }

func setWithdrawn(b *api.Bank, id int, to bool) api.Errno {
	r := recordOf(b, id)
	switch {
	case r == nil:
		return api.ErrUnknown
	case r.Withdrawn == to:
		return api.ErrState
	}
	r.Withdrawn = to
	return api.OK
}
