package syllabus

import (
	"cmp"
	"slices"

	"awardingbody/api"
)

// Check returns OK if a syllabus is valid, otherwise the first error.
func Check(s api.Syllabus) api.Errno {
	if len(s.Topics) > api.MaxTopics || len(s.Objectives) > api.MaxObjectives || len(s.Components) > api.MaxComponents {
		return api.ErrLimit
	}
	return cmp.Or(checkTopics(s.Topics), checkObjectives(s.Objectives), checkComponents(s.Components))
}

func checkTopics(topics []api.Topic) api.Errno {
	var earlier []string
	for i, t := range topics {
		if code := checkName(t.Name, earlier); code != api.OK {
			return code
		}
		if t.Parent < none || t.Parent >= i {
			return api.ErrRange
		}
		earlier = append(earlier, t.Name)
	}
	return api.OK
}

func checkObjectives(objectives []string) api.Errno {
	for i, name := range objectives {
		if code := checkName(name, objectives[:i]); code != api.OK {
			return code
		}
	}
	return api.OK
}

func checkComponents(components []api.Component) api.Errno {
	var earlier []string
	for _, c := range components {
		if code := checkName(c.Name, earlier); code != api.OK {
			return code
		}
		if c.Weight < 0 || c.Weight > api.MaxWeight || c.Maximum < 1 || c.Maximum > api.MaxTotal {
			return api.ErrRange
		}
		earlier = append(earlier, c.Name)
	}
	return api.OK
}

// checkName returns the first error of a name, given the names of the earlier elements of its kind.
func checkName(name string, earlier []string) api.Errno {
	if !isName(name) {
		return api.ErrSyntax
	}
	if slices.Contains(earlier, name) {
		return api.ErrDuplicate
	}
	return api.OK
}

func isName(s string) bool {
	if len(s) < 1 || len(s) > api.MaxName {
		return false
	}
	for i := range len(s) {
		if s[i] < 'a' || s[i] > 'z' {
			return false
		}
	}
	return true
}
