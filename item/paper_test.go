package item_test

import (
	"math/rand/v2"
	"slices"
	"testing"

	"awardingbody/api"
	"awardingbody/item"
)

// examplePaper has 5 marks, and the choice parts 0 and 2.
func examplePaper() api.Paper {
	return api.Paper{Code: 31, Variant: 3, Parts: []api.Part{choice, open, choice}}
}

// paper checks a valid paper, or one that is not valid if its marks are 0.
func paper(t *testing.T, p api.Paper, marks int, choices ...int) {
	t.Helper()
	valid, total, got := item.ValidPaper(p), item.PaperTotal(p), item.Choices(p)
	if valid != (marks > 0) || total != marks || !slices.Equal(got, choices) {
		t.Errorf("ValidPaper is %v, PaperTotal is %d, not %d, Choices are %v, not %v: %v", valid, total, marks, got, choices, p)
	}
}

func withParts(parts ...api.Part) api.Paper { return api.Paper{Parts: parts} }

func openPart(most int) api.Part { return api.Part{Kind: api.PartOpen, Max: most} }

// P6.5
func TestPapers(t *testing.T) {
	paper(t, examplePaper(), 5, 0, 2)
	paper(t, withParts(open), 3)
	paper(t, withParts(choice), 1, 0)
	paper(t, withParts(open, open), 6)
	paper(t, withParts(open, choice, choice, open, choice), 9, 1, 2, 4)
	paper(t, withParts(slices.Repeat([]api.Part{choice}, 24)...), 24, ascending(24, 0)...)
}

// P6.5: each Code and each Variant
func TestNumbersOfPapers(t *testing.T) {
	for n := range 40 {
		p, q := examplePaper(), examplePaper()
		p.Code, q.Variant = n, n
		if n <= 31 {
			paper(t, p, 5, 0, 2)
		} else {
			paper(t, p, 0)
		}
		if n <= 3 {
			paper(t, q, 5, 0, 2)
		} else {
			paper(t, q, 0)
		}
	}
	for _, n := range strange {
		p, q := examplePaper(), examplePaper()
		p.Code, q.Variant = n, n
		paper(t, p, 0)
		paper(t, q, 0)
	}
}

// P6.5: how many parts and how many marks there are
func TestLimitsOfPapers(t *testing.T) {
	for n := range 30 {
		if 1 <= n && n <= 24 {
			paper(t, withParts(slices.Repeat([]api.Part{openPart(8)}, n)...), 8*n)
		} else {
			paper(t, withParts(slices.Repeat([]api.Part{openPart(8)}, n)...), 0)
		}
	}
	paper(t, api.Paper{}, 0)
	paper(t, api.Paper{Parts: []api.Part{}}, 0)
	paper(t, withParts(make([]api.Part, 1000)...), 0)
	paper(t, withParts(slices.Repeat([]api.Part{openPart(1)}, 1000)...), 0)
	full := slices.Repeat([]api.Part{openPart(40)}, 4)
	paper(t, withParts(append(full, openPart(39))...), 199)
	paper(t, withParts(append(full, openPart(40))...), 200)
	paper(t, withParts(append(full, openPart(39), choice)...), 200, 5)
	paper(t, withParts(append(full, openPart(40), choice)...), 0)
	paper(t, withParts(append(full, openPart(39), choice, choice)...), 0)
	paper(t, withParts(slices.Repeat([]api.Part{openPart(40)}, 24)...), 0)
}

// P6.5: each part of a paper replaced by one that is not valid
func TestPapersWithInvalidParts(t *testing.T) {
	for _, bad := range []api.Part{
		{}, {Kind: 3, Max: 1}, openPart(0), openPart(-1), openPart(41), {Kind: api.PartOpen, Max: 1, Key: 1}, {Kind: api.PartChoice, Max: 1},
		{Kind: api.PartChoice, Max: 1, Options: 2, Key: 2}, {Kind: api.PartChoice, Max: 1, Options: 6}, {Kind: api.PartOpen, Max: 1, Topic: 16},
	} {
		for n := 1; n <= 24; n++ {
			for i := range n {
				p := withParts(slices.Repeat([]api.Part{choice}, n)...)
				paper(t, p, n, ascending(n, 0)...)
				p.Parts[i] = bad
				paper(t, p, 0)
			}
		}
	}
	for _, n := range strange {
		paper(t, withParts(openPart(n)), 0)
		// Without a look at the single parts the marks would be few enough.
		paper(t, withParts(open, openPart(n), openPart(-n)), 0)
	}
}

// P6.5: papers with several errors
func TestPapersOfDamaged(t *testing.T) {
	valid := 0
	for n := range 20000 {
		p := chance{rand.New(rand.NewPCG(34, uint64(n))), 3 + n%200}.paper()
		want := 0
		if paperOf(p) {
			valid++
			want = sumOf(p.Parts)
		}
		paper(t, p, want, choicesOf(p)...)
	}
	if valid < 2000 || valid > 18000 {
		t.Errorf("%d papers are valid", valid)
	}
}
