package item

import "awardingbody/api"

// ValidPaper reports whether a paper is valid.
func ValidPaper(p api.Paper) bool {
	return within(p.Code, 0, api.MaxPaper) &&
		within(p.Variant, 0, api.MaxForms-1) &&
		within(len(p.Parts), 1, api.MaxPaperParts) &&
		allValid(p.Parts) &&
		marksOf(p.Parts) <= api.MaxTotal
}

// PaperTotal returns the marks of a paper.
func PaperTotal(p api.Paper) int {
	if !ValidPaper(p) {
		return 0
	}
	return marksOf(p.Parts)
}

// Choices returns the indices of the choice parts of a paper.
func Choices(p api.Paper) []int {
	if !ValidPaper(p) {
		return nil
	}
	var choices []int
	for i, part := range p.Parts {
		if part.Kind == api.PartChoice {
			choices = append(choices, i)
		}
	}
	return choices
}
