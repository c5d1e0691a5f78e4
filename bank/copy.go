package bank

import (
	"slices"

	"awardingbody/api"
)

// The lists within a value are copied too, so that no result shares memory with an argument.

func copyOfItem(x api.Item) api.Item {
	x.Parts = slices.Clone(x.Parts)
	x.Enemies = slices.Clone(x.Enemies)
	return x
}

func copyOfEvent(e api.BankEvent) api.BankEvent {
	e.Item = copyOfItem(e.Item)
	return e
}

func copyOfRecord(r api.Record) api.Record {
	r.Versions = slices.Clone(r.Versions)
	for i, x := range r.Versions {
		r.Versions[i] = copyOfItem(x)
	}
	r.Approved = slices.Clone(r.Approved)
	r.Uses = slices.Clone(r.Uses)
	return r
}

func copyOfBank(b api.Bank) api.Bank {
	b.Records = slices.Clone(b.Records)
	for i, r := range b.Records {
		b.Records[i] = copyOfRecord(r)
	}
	return b
}
