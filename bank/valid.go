package bank

import (
	"awardingbody/api"
	"awardingbody/item"
)

func valid(b api.Bank) bool {
	if len(b.Records) > api.MaxItems {
		return false
	}
	for i, r := range b.Records {
		if i > 0 && b.Records[i-1].ID >= r.ID || !validRecord(r) {
			return false
		}
	}
	return true
}

func validRecord(r api.Record) bool {
	return 1 <= len(r.Versions) && len(r.Versions) <= api.MaxVersions &&
		len(r.Approved) == len(r.Versions) &&
		len(r.Uses) <= api.MaxEvents &&
		validVersions(r) && validUses(r)
}

func validVersions(r api.Record) bool {
	for i, x := range r.Versions {
		if x.ID != r.ID || x.Version != i+1 || item.Check(x) != api.OK {
			return false
		}
	}
	return true
}

func validUses(r api.Record) bool {
	for _, u := range r.Uses {
		if !hasVersion(r, u.Version) {
			return false
		}
	}
	return true
}
