package syllabus_test

import (
	"fmt"
	"math/rand/v2"
	"regexp"
	"slices"
	"strings"

	"awardingbody/api"
)

var name = regexp.MustCompile(`\A[a-z]{1,12}\z`)

// earlier reports whether an element before the element i is equal to it.
func earlier(names []string, i int) bool { return slices.Index(names, names[i]) < i }

// checkOf follows P5.1 word by word: each condition with its error, in order.
func checkOf(s api.Syllabus) api.Errno {
	if len(s.Topics) > 16 || len(s.Objectives) > 6 || len(s.Components) > 6 {
		return api.ErrLimit
	}
	var holds []bool
	var codes []api.Errno
	add := func(condition bool, code api.Errno) { holds, codes = append(holds, condition), append(codes, code) }
	var topics, components []string
	for i, t := range s.Topics {
		topics = append(topics, t.Name)
		add(!name.MatchString(t.Name), api.ErrSyntax)
		add(earlier(topics, i), api.ErrDuplicate)
		add(t.Parent != -1 && (t.Parent < 0 || t.Parent > i-1), api.ErrRange)
	}
	for i, o := range s.Objectives {
		add(!name.MatchString(o), api.ErrSyntax)
		add(earlier(s.Objectives, i), api.ErrDuplicate)
	}
	for i, c := range s.Components {
		components = append(components, c.Name)
		add(!name.MatchString(c.Name), api.ErrSyntax)
		add(earlier(components, i), api.ErrDuplicate)
		add(c.Weight < 0 || c.Weight > 1000 || c.Maximum < 1 || c.Maximum > 200, api.ErrRange)
	}
	if first := slices.Index(holds, true); first >= 0 {
		return codes[first]
	}
	return api.OK
}

// above follows the definition: topic a is above topic b if a is b, or a is above the parent of b.
func above(s api.Syllabus, a, b int) bool {
	if b == -1 {
		return false
	}
	return a == b || above(s, a, s.Topics[b].Parent)
}

// chosen returns, in ascending order, the topics for which something holds.
func chosen(s api.Syllabus, holds func(t int) bool) []int {
	var found []int
	for t := range s.Topics {
		if holds(t) {
			found = append(found, t)
		}
	}
	return found
}

func underOf(s api.Syllabus, topic int) []int {
	return chosen(s, func(t int) bool { return above(s, topic, t) })
}

// commonOf tries the topics from the last on.
func commonOf(s api.Syllabus, a, b int) int {
	for t := len(s.Topics) - 1; t >= 0; t-- {
		if above(s, t, a) && above(s, t, b) {
			return t
		}
	}
	return -1
}

// pathOf goes from the topic to its root and turns the way round.
func pathOf(s api.Syllabus, topic int) []int {
	var path []int
	for t := topic; t != -1; t = s.Topics[t].Parent {
		path = append(path, t)
	}
	slices.Reverse(path)
	return path
}

func leavesOf(s api.Syllabus) []int {
	var parents []int
	for _, t := range s.Topics {
		parents = append(parents, t.Parent)
	}
	return chosen(s, func(t int) bool { return !slices.Contains(parents, t) })
}

func rollOf(s api.Syllabus, marks []int) []int {
	var rolled []int
	for topic := range s.Topics {
		sum := 0
		for _, t := range underOf(s, topic) {
			sum += marks[t]
		}
		rolled = append(rolled, sum)
	}
	return rolled
}

// forest returns a syllabus whose topics have these Parents.
func forest(parents ...int) api.Syllabus {
	var s api.Syllabus
	for i, p := range parents {
		s.Topics = append(s.Topics, api.Topic{Name: letter(i), Parent: p})
	}
	return s
}

func letter(i int) string { return string(rune('a' + i)) }

// forests are all forests with at most 6 topics, the extreme ones with 16, and others with up to 16.
func forests() []api.Syllabus {
	var all []api.Syllabus
	var grow func(parents []int)
	grow = func(parents []int) {
		all = append(all, forest(parents...))
		if len(parents) == 6 {
			return
		}
		for p := -1; p < len(parents); p++ {
			grow(append(slices.Clone(parents), p))
		}
	}
	grow(nil)
	var chain, star, roots, halves []int
	for i := range 16 {
		chain = append(chain, i-1)
		star = append(star, min(i, 1)-1)
		roots = append(roots, -1)
		halves = append(halves, (i+1)/2-1)
	}
	all = append(all, forest(chain...), forest(star...), forest(roots...), forest(halves...))
	random := rand.New(rand.NewPCG(19, 20))
	for range 300 {
		var parents []int
		far := 1 + random.IntN(16)
		for i := range 7 + random.IntN(10) {
			parents = append(parents, max(i-1-random.IntN(far), -1))
		}
		all = append(all, forest(parents...))
	}
	return all
}

func pick[T any](random *rand.Rand, l ...T) T { return l[random.IntN(len(l))] }

// damaged returns a syllabus of which each value is wrong with the chance 1 to rarely.
func damaged(random *rand.Rand, rarely int) api.Syllabus {
	var s api.Syllabus
	wrong := func() bool { return random.IntN(rarely) == 0 }
	nameOf := func(i int) string {
		if wrong() {
			return pick(random, "", "a", "b", "A", "a b", "a1", "é", "abcdefghijklm", "abcdefghijkl\n")
		}
		return strings.Repeat(letter(i), 1+random.IntN(12))
	}
	number := func(least, most int) int {
		if wrong() {
			return pick(random, least-1, most+1, least-1-random.IntN(9), most+1+random.IntN(9))
		}
		return least + random.IntN(most-least+1)
	}
	count := func(most int) int {
		if wrong() {
			return most + 1 + random.IntN(3)
		}
		return random.IntN(most + 1)
	}
	for i := range count(16) {
		s.Topics = append(s.Topics, api.Topic{Name: nameOf(i), Parent: number(-1, i-1)})
	}
	for i := range count(6) {
		s.Objectives = append(s.Objectives, nameOf(i))
	}
	for i := range count(6) {
		s.Components = append(s.Components, api.Component{Name: nameOf(i), Weight: number(0, 1000), Maximum: number(1, 200)})
	}
	return s
}

// weighted returns a syllabus whose components have these Weights.
func weighted(weights ...int) api.Syllabus {
	var s api.Syllabus
	for i, w := range weights {
		s.Components = append(s.Components, api.Component{Name: fmt.Sprint("paper", letter(i)), Weight: w, Maximum: 100})
	}
	return s
}

// copied returns a syllabus that shares no slices with s.
func copied(s api.Syllabus) api.Syllabus {
	s.Topics, s.Objectives, s.Components = slices.Clone(s.Topics), slices.Clone(s.Objectives), slices.Clone(s.Components)
	return s
}

func same(a, b api.Syllabus) bool {
	return slices.Equal(a.Topics, b.Topics) && slices.Equal(a.Objectives, b.Objectives) && slices.Equal(a.Components, b.Components)
}
