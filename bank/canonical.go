package bank

import (
	"slices"

	"awardingbody/api"
	"awardingbody/stamp"
)

// Same reports whether two events are equal.
func Same(a, b api.BankEvent) bool {
	return a.Stamp == b.Stamp && a.Kind == b.Kind && a.Ref == b.Ref && a.Form == b.Form && sameItem(a.Item, b.Item)
}

func sameItem(a, b api.Item) bool {
	return a.ID == b.ID && a.Version == b.Version && a.Stem == b.Stem &&
		slices.Equal(a.Parts, b.Parts) && slices.Equal(a.Enemies, b.Enemies)
}

// Canonical returns the events that count, in ascending order of their stamps.
func Canonical(l []api.BankEvent) ([]api.BankEvent, api.Errno) {
	indices, code := stamp.Canonical(stampsOf(l), classesOf(l))
	if code != api.OK {
		return nil, code
	}
	var counting []api.BankEvent
	for _, i := range indices {
		counting = append(counting, copyOfEvent(l[i]))
	}
	return counting, api.OK
}

func stampsOf(l []api.BankEvent) []api.Stamp {
	stamps := make([]api.Stamp, len(l))
	for i, e := range l {
		stamps[i] = e.Stamp
	}
	return stamps
}

// classesOf returns the class 0 for the events that are the same as the first
// one with their stamp, and 1 for the others. These dispute its identity, so
// that it does not matter which of them are the same as each other.
func classesOf(l []api.BankEvent) []int {
	first := map[api.Stamp]int{}
	classes := make([]int, len(l))
	for i, e := range l {
		k, found := first[e.Stamp]
		if !found {
			first[e.Stamp] = i
		} else if !Same(l[k], e) {
			classes[i] = 1
		}
	}
	return classes
}
