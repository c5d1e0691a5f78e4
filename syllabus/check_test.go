package syllabus_test

import (
	"math"
	"math/rand/v2"
	"strings"
	"testing"

	"awardingbody/api"
	"awardingbody/syllabus"
)

// example has the topics of the chapter.
func example() api.Syllabus {
	return api.Syllabus{
		Topics:     []api.Topic{{Name: "number", Parent: -1}, {Name: "algebra", Parent: -1}, {Name: "equations", Parent: 1}, {Name: "graphs", Parent: 1}},
		Objectives: []string{"recall", "apply", "reason"},
		Components: []api.Component{{Name: "paper", Weight: 3, Maximum: 80}, {Name: "oral", Weight: 2, Maximum: 20}, {Name: "project", Weight: 1, Maximum: 200}},
	}
}

func changed(change func(s *api.Syllabus)) api.Syllabus {
	s := example()
	change(&s)
	return s
}

func check(t *testing.T, s api.Syllabus, want api.Errno) {
	t.Helper()
	if got := syllabus.Check(s); got != want {
		t.Errorf("Check is %d, not %d: %v", got, want, s)
	}
}

// filled returns a valid syllabus with so many topics, objectives and components.
func filled(topics, objectives, components int) api.Syllabus {
	var s api.Syllabus
	for i := range topics {
		s.Topics = append(s.Topics, api.Topic{Name: letter(i), Parent: -1})
	}
	for i := range objectives {
		s.Objectives = append(s.Objectives, letter(i))
	}
	for i := range components {
		s.Components = append(s.Components, api.Component{Name: letter(i), Maximum: 1})
	}
	return s
}

// P5.1: as many elements as the limits permit, and one more of each kind
func TestCheckLimits(t *testing.T) {
	check(t, api.Syllabus{}, api.OK)
	check(t, api.Syllabus{Topics: []api.Topic{}, Objectives: []string{}, Components: []api.Component{}}, api.OK)
	check(t, example(), api.OK)
	check(t, filled(16, 6, 6), api.OK)
	check(t, filled(17, 6, 6), api.ErrLimit)
	check(t, filled(16, 7, 6), api.ErrLimit)
	check(t, filled(16, 6, 7), api.ErrLimit)
	check(t, filled(17, 0, 0), api.ErrLimit)
	check(t, filled(0, 7, 0), api.ErrLimit)
	check(t, filled(0, 0, 7), api.ErrLimit)
	check(t, api.Syllabus{Topics: make([]api.Topic, 1<<18)}, api.ErrLimit)
	check(t, api.Syllabus{Objectives: make([]string, 1<<18)}, api.ErrLimit)
	check(t, api.Syllabus{Components: make([]api.Component, 1<<18)}, api.ErrLimit)
	// The limits come before the errors of all elements.
	check(t, changed(func(s *api.Syllabus) { s.Topics[0].Name, s.Objectives = "", make([]string, 7) }), api.ErrLimit)
	check(t, changed(func(s *api.Syllabus) { s.Topics[0].Name, s.Components = "", make([]api.Component, 7) }), api.ErrLimit)
}

// places are the names of all elements of the example.
func places(s *api.Syllabus) []*string {
	var all []*string
	for i := range s.Topics {
		all = append(all, &s.Topics[i].Name)
	}
	for i := range s.Objectives {
		all = append(all, &s.Objectives[i])
	}
	for i := range s.Components {
		all = append(all, &s.Components[i].Name)
	}
	return all
}

// P5.1: each name of the example replaced
func TestNames(t *testing.T) {
	bad := []string{
		"", " ", "A", "Z", "aB", "abcdefghijklm", "a b", " a", "a ", "a\n", "\na", "a-b", "a_b", "a.b", "a0", "1", "`", "{", "a`", "{z", "\x00", "a\x00",
		"é", "aé", "\u0430", "\uff41", "\xff", "a\x80", "ß", strings.Repeat("a", 13), strings.Repeat("a", 1<<20), strings.Repeat("é", 6),
	}
	for c := range 256 {
		if b := byte(c); b < 'a' || b > 'z' {
			bad = append(bad, string([]byte{b}), string([]byte{'a', b}), string([]byte{b, 'a'}))
		}
	}
	good := []string{"a", "z", "q", "az", "abcdefghijkl", "mnopqrstuvwx", "yz", "zzzzzzzzzzzz"}
	whole := example()
	for i := range places(&whole) {
		for _, n := range bad {
			check(t, changed(func(s *api.Syllabus) { *places(s)[i] = n }), api.ErrSyntax)
		}
		for _, n := range good {
			check(t, changed(func(s *api.Syllabus) { *places(s)[i] = n }), api.OK)
		}
	}
}

// P5.1: a name twice among elements of one kind, or of different ones
func TestDuplicates(t *testing.T) {
	kind := []int{0, 0, 0, 0, 1, 1, 1, 2, 2, 2}
	for i := range kind {
		for k := range kind {
			want := api.OK
			if i != k && kind[i] == kind[k] {
				want = api.ErrDuplicate
			}
			check(t, changed(func(s *api.Syllabus) { *places(s)[i] = *places(s)[k] }), want)
		}
	}
	check(t, filled(1, 1, 1), api.OK)
	// The beginning of a name is another name.
	check(t, api.Syllabus{Objectives: []string{"abc", "ab", "a", "bc"}}, api.OK)
}

// P5.1: each Parent of the example
func TestParents(t *testing.T) {
	for i := range example().Topics {
		for _, p := range []int{-1, 0, 1, 2, 3, 4, 5, 15, 16, -2, -3, 1 << 32, -1 << 32, 1<<32 - 1, math.MaxInt, math.MinInt, math.MinInt + 1} {
			want := api.ErrRange
			if p == -1 || p == 0 && i > 0 || p == 1 && i > 1 || p == 2 && i > 2 {
				want = api.OK
			}
			check(t, changed(func(s *api.Syllabus) { s.Topics[i].Parent = p }), want)
		}
	}
}

// P5.1: each Weight and each Maximum of the example
func TestNumbersOfComponents(t *testing.T) {
	for i := range example().Components {
		for n, want := range map[int][2]api.Errno{
			// the errors of a Weight and of a Maximum
			0:                 {api.OK, api.ErrRange},
			1:                 {api.OK, api.OK},
			200:               {api.OK, api.OK},
			201:               {api.OK, api.ErrRange},
			1000:              {api.OK, api.ErrRange},
			1001:              {api.ErrRange, api.ErrRange},
			-1:                {api.ErrRange, api.ErrRange},
			-200:              {api.ErrRange, api.ErrRange},
			1 << 32:           {api.ErrRange, api.ErrRange},
			1<<32 + 1:         {api.ErrRange, api.ErrRange},
			-1<<32 + 1:        {api.ErrRange, api.ErrRange},
			math.MaxInt:       {api.ErrRange, api.ErrRange},
			math.MinInt:       {api.ErrRange, api.ErrRange},
			math.MinInt/2 + 1: {api.ErrRange, api.ErrRange},
		} {
			check(t, changed(func(s *api.Syllabus) { s.Components[i].Weight = n }), want[0])
			check(t, changed(func(s *api.Syllabus) { s.Components[i].Maximum = n }), want[1])
		}
	}
}

// P5.1: of two errors the first one, where elements are examined one after another
func TestCheckOrder(t *testing.T) {
	for i, c := range []struct {
		change func(s *api.Syllabus)
		want   api.Errno
	}{
		// one element with two errors
		{func(s *api.Syllabus) { s.Topics[1] = api.Topic{Name: "", Parent: 1} }, api.ErrSyntax},
		{func(s *api.Syllabus) { s.Topics[1] = api.Topic{Name: "number", Parent: 1} }, api.ErrDuplicate},
		{func(s *api.Syllabus) { s.Components[1] = api.Component{Name: "", Weight: -1, Maximum: 1} }, api.ErrSyntax},
		{func(s *api.Syllabus) { s.Components[1] = api.Component{Name: "paper", Weight: 1, Maximum: 0} }, api.ErrDuplicate},
		// two elements of a kind
		{func(s *api.Syllabus) { s.Topics[1].Parent, s.Topics[2].Name = 1, "" }, api.ErrRange},
		{func(s *api.Syllabus) { s.Topics[1].Parent, s.Topics[2].Name = 1, "number" }, api.ErrRange},
		{func(s *api.Syllabus) { s.Topics[1].Name, s.Topics[2].Name = "number", "" }, api.ErrDuplicate},
		{func(s *api.Syllabus) { s.Topics[1].Name, s.Topics[2].Parent = "number", 2 }, api.ErrDuplicate},
		{func(s *api.Syllabus) { s.Topics[1].Name, s.Topics[2].Name = "", "number" }, api.ErrSyntax},
		{func(s *api.Syllabus) { s.Topics[0].Name, s.Topics[1].Name = "", "" }, api.ErrSyntax},
		{func(s *api.Syllabus) { s.Objectives[1], s.Objectives[2] = "recall", "" }, api.ErrDuplicate},
		{func(s *api.Syllabus) { s.Objectives[1], s.Objectives[2] = "", "recall" }, api.ErrSyntax},
		{func(s *api.Syllabus) { s.Components[0].Weight, s.Components[1].Name = 1001, "" }, api.ErrRange},
		{func(s *api.Syllabus) { s.Components[0].Maximum, s.Components[1].Name = 0, "" }, api.ErrRange},
		{func(s *api.Syllabus) { s.Components[1].Name, s.Components[2].Name = "paper", "" }, api.ErrDuplicate},
		{func(s *api.Syllabus) { s.Components[1].Name, s.Components[2].Weight = "paper", -1 }, api.ErrDuplicate},
		// elements of two kinds
		{func(s *api.Syllabus) { s.Topics[3].Parent, s.Objectives[0] = 3, "" }, api.ErrRange},
		{func(s *api.Syllabus) { s.Topics[3].Name, s.Objectives[0] = "graphs ", s.Objectives[1] }, api.ErrSyntax},
		{func(s *api.Syllabus) { s.Topics[3].Parent, s.Components[0].Name = 3, "" }, api.ErrRange},
		{func(s *api.Syllabus) { s.Objectives[2], s.Components[0].Name = "apply", "" }, api.ErrDuplicate},
		{func(s *api.Syllabus) { s.Objectives[2], s.Components[0].Weight = "", -1 }, api.ErrSyntax},
	} {
		if got := syllabus.Check(changed(c.change)); got != c.want {
			t.Errorf("%d: Check is %d, not %d", i, got, c.want)
		}
	}
}

// P5.1: syllabuses with several errors
func TestCheckOfDamaged(t *testing.T) {
	random := rand.New(rand.NewPCG(21, 22))
	count := map[api.Errno]int{}
	for n := range 40000 {
		s := damaged(random, 2+n%80)
		want := checkOf(s)
		count[want]++
		if got := syllabus.Check(s); got != want {
			t.Fatalf("Check is %d, not %d: %v", got, want, s)
		}
	}
	for _, code := range []api.Errno{api.OK, api.ErrLimit, api.ErrSyntax, api.ErrDuplicate, api.ErrRange} {
		if count[code] < 100 {
			t.Errorf("the error %d comes only %d times", code, count[code])
		}
	}
}
