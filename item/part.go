package item

import "awardingbody/api"

// The numbers of options that a choice part may have.
const (
	leastOptions = 2
	mostOptions  = 5
)

// ValidPart reports whether a part is valid.
func ValidPart(p api.Part) bool {
	return within(p.Max, 1, api.MaxMark) &&
		within(p.Topic, 0, api.MaxTopics-1) &&
		within(p.Objective, 0, api.MaxObjectives-1) &&
		fitsKind(p)
}

// fitsKind reports whether a part has a kind, and the Options and the Key that this kind has.
func fitsKind(p api.Part) bool {
	switch p.Kind {
	case api.PartOpen:
		return p.Options == 0 && p.Key == 0
	case api.PartChoice:
		return within(p.Options, leastOptions, mostOptions) && within(p.Key, 0, p.Options-1)
	}
	return false
}

func within(n, least, most int) bool { return least <= n && n <= most }

func allValid(parts []api.Part) bool {
	for _, p := range parts {
		if !ValidPart(p) {
			return false
		}
	}
	return true
}

// marksOf returns the sum of the Max of valid parts, of which there are too few for an overflow.
func marksOf(parts []api.Part) int {
	sum := 0
	for _, p := range parts {
		sum += p.Max
	}
	return sum
}
