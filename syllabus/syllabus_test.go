package syllabus_test

import (
	"math"
	"math/rand/v2"
	"slices"
	"testing"

	"awardingbody/api"
	"awardingbody/syllabus"
)

// others are numbers that are no indices of a list with n elements.
func others(n int) []int {
	return []int{-1, -2, n, n + 1, 1 << 32, -1 << 32, math.MaxInt, math.MinInt}
}

// invalid are syllabuses that are not valid, with their errors; they have at least 4 topics and 3 components.
var invalid = []struct {
	s    api.Syllabus
	code api.Errno
}{
	{filled(17, 3, 3), api.ErrLimit},
	{filled(16, 7, 3), api.ErrLimit},
	{filled(16, 3, 7), api.ErrLimit},
	{changed(func(s *api.Syllabus) { s.Topics[0].Name = "" }), api.ErrSyntax},
	{changed(func(s *api.Syllabus) { s.Topics[3].Name = "algebra" }), api.ErrDuplicate},
	{changed(func(s *api.Syllabus) { s.Topics[0].Parent = 0 }), api.ErrRange},
	{changed(func(s *api.Syllabus) { s.Topics[0].Parent = 1; s.Topics[1].Parent = 0 }), api.ErrRange},
	{changed(func(s *api.Syllabus) { s.Topics[1].Parent = 3 }), api.ErrRange},
	{changed(func(s *api.Syllabus) { s.Topics[3].Parent = math.MaxInt }), api.ErrRange},
	{changed(func(s *api.Syllabus) { s.Topics[3].Parent = math.MinInt }), api.ErrRange},
	{changed(func(s *api.Syllabus) { s.Objectives[2] = "recall" }), api.ErrDuplicate},
	{changed(func(s *api.Syllabus) { s.Components[2].Name = "Project" }), api.ErrSyntax},
	{changed(func(s *api.Syllabus) { s.Components[2].Weight = -1 }), api.ErrRange},
	{changed(func(s *api.Syllabus) { s.Components[2].Weight = math.MaxInt }), api.ErrRange},
	{changed(func(s *api.Syllabus) { s.Components[2].Maximum = 201 }), api.ErrRange},
}

// P5.2: the chapter's example
func TestTreeOfExample(t *testing.T) {
	s := example()
	for topic, want := range []struct{ under, path []int }{
		{[]int{0}, []int{0}}, {[]int{1, 2, 3}, []int{1}}, {[]int{2}, []int{1, 2}}, {[]int{3}, []int{1, 3}},
	} {
		if got := syllabus.Under(s, topic); !slices.Equal(got, want.under) {
			t.Errorf("Under of %d is %v", topic, got)
		}
		if got := syllabus.Path(s, topic); !slices.Equal(got, want.path) {
			t.Errorf("Path of %d is %v", topic, got)
		}
	}
	for _, c := range [][3]int{{2, 3, 1}, {3, 2, 1}, {0, 2, -1}, {0, 1, -1}, {1, 2, 1}, {3, 1, 1}, {2, 2, 2}, {0, 0, 0}} {
		if got := syllabus.Common(s, c[0], c[1]); got != c[2] {
			t.Errorf("Common of %d and %d is %d", c[0], c[1], got)
		}
	}
	if got := syllabus.Leaves(s); !slices.Equal(got, []int{0, 2, 3}) {
		t.Errorf("Leaves are %v", got)
	}
}

// P5.2: topics under one topic whose indices do not follow each other
func TestTreeOfMixedTopics(t *testing.T) {
	s := forest(-1, 0, 0, 1, -1, 3, 2, 1)
	if got := syllabus.Under(s, 0); !slices.Equal(got, []int{0, 1, 2, 3, 5, 6, 7}) {
		t.Errorf("Under of 0 is %v", got)
	}
	if got := syllabus.Under(s, 1); !slices.Equal(got, []int{1, 3, 5, 7}) {
		t.Errorf("Under of 1 is %v", got)
	}
	if got := syllabus.Path(s, 5); !slices.Equal(got, []int{0, 1, 3, 5}) {
		t.Errorf("Path of 5 is %v", got)
	}
	if got := syllabus.Leaves(s); !slices.Equal(got, []int{4, 5, 6, 7}) {
		t.Errorf("Leaves are %v", got)
	}
	for _, c := range [][3]int{{5, 7, 1}, {5, 6, 0}, {7, 6, 0}, {5, 3, 3}, {4, 5, -1}} {
		if got := syllabus.Common(s, c[0], c[1]); got != c[2] {
			t.Errorf("Common of %d and %d is %d", c[0], c[1], got)
		}
	}
}

// P5.2: all topics of all forests
func TestTreeOfForests(t *testing.T) {
	for _, s := range forests() {
		if got := syllabus.Leaves(s); !slices.Equal(got, leavesOf(s)) {
			t.Fatalf("Leaves of %v are %v", s.Topics, got)
		}
		for a := range s.Topics {
			if got := syllabus.Under(s, a); !slices.Equal(got, underOf(s, a)) {
				t.Fatalf("Under of %d in %v is %v", a, s.Topics, got)
			}
			if got := syllabus.Path(s, a); !slices.Equal(got, pathOf(s, a)) {
				t.Fatalf("Path of %d in %v is %v", a, s.Topics, got)
			}
			for b := range s.Topics {
				if got := syllabus.Common(s, a, b); got != commonOf(s, a, b) {
					t.Fatalf("Common of %d and %d in %v is %d", a, b, s.Topics, got)
				}
			}
		}
	}
}

// nothing checks that there is no topic a, and nothing that it has in common with b.
func nothing(t *testing.T, s api.Syllabus, a, b int) {
	t.Helper()
	if under, path := syllabus.Under(s, a), syllabus.Path(s, a); len(under)+len(path) != 0 {
		t.Errorf("%d in %v: Under is %v, Path is %v", a, s, under, path)
	}
	for _, pair := range [][2]int{{a, b}, {b, a}, {a, a}} {
		if got := syllabus.Common(s, pair[0], pair[1]); got != -1 {
			t.Errorf("Common of %v in %v is %d", pair, s, got)
		}
	}
}

// P5.2: no such topic
func TestUnknownTopics(t *testing.T) {
	for _, s := range []api.Syllabus{example(), filled(16, 6, 6), forest(-1), {}} {
		for _, topic := range others(len(s.Topics)) {
			nothing(t, s, topic, 0)
		}
	}
	if got := syllabus.Leaves(api.Syllabus{}); len(got) != 0 {
		t.Errorf("Leaves of nothing are %v", got)
	}
}

// P5.2: nothing, if the syllabus is not valid
func TestTreeOfInvalid(t *testing.T) {
	for _, bad := range invalid {
		check(t, bad.s, bad.code)
		for topic := -1; topic <= len(bad.s.Topics); topic++ {
			nothing(t, bad.s, topic, 2)
		}
		if got := syllabus.Leaves(bad.s); len(got) != 0 {
			t.Errorf("Leaves of %v are %v", bad.s, got)
		}
	}
}

// P5.3
func TestRoll(t *testing.T) {
	for _, c := range []struct {
		s     api.Syllabus
		marks []int
		want  []int
		code  api.Errno
	}{
		{example(), []int{5, 1, 2, 3}, []int{5, 6, 2, 3}, api.OK},
		{example(), []int{0, 0, 0, 0}, []int{0, 0, 0, 0}, api.OK},
		{example(), []int{200, 200, 200, 200}, []int{200, 600, 200, 200}, api.OK},
		{example(), []int{0, 0, 200, 0}, []int{0, 200, 200, 0}, api.OK},
		{forest(-1, 0, 1, 2), []int{1, 2, 3, 4}, []int{10, 9, 7, 4}, api.OK},
		{forest(-1), []int{7}, []int{7}, api.OK},
		{api.Syllabus{}, nil, nil, api.OK},
		{api.Syllabus{}, []int{}, nil, api.OK},
		{api.Syllabus{}, []int{0}, nil, api.ErrInvalid},
		{example(), nil, nil, api.ErrInvalid},
		{example(), []int{5, 1, 2}, nil, api.ErrInvalid},
		{example(), []int{5, 1, 2, 3, 0}, nil, api.ErrInvalid},
		{example(), []int{-1, 1, 2, 3, 4}, nil, api.ErrInvalid},
		{example(), []int{201}, nil, api.ErrInvalid},
		{example(), make([]int, 1<<20), nil, api.ErrInvalid},
		{filled(16, 0, 0), make([]int, 15), nil, api.ErrInvalid},
		{filled(16, 0, 0), make([]int, 16), make([]int, 16), api.OK},
	} {
		if got, code := syllabus.Roll(c.s, c.marks); !slices.Equal(got, c.want) || code != c.code {
			t.Errorf("Roll(%v, %v) is %v, %d", c.s, c.marks, got, code)
		}
	}
}

// P5.3: each element out of range
func TestRollOfWrongMarks(t *testing.T) {
	for i := range 4 {
		for _, m := range []int{-1, -2, 201, 202, -200, 1 << 32, -1 << 32, math.MaxInt, math.MinInt} {
			marks := []int{5, 1, 2, 3}
			marks[i] = m
			if got, code := syllabus.Roll(example(), marks); len(got) != 0 || code != api.ErrRange {
				t.Errorf("Roll of %v is %v, %d", marks, got, code)
			}
		}
	}
}

// P5.3: the error of Check comes first
func TestRollOfInvalid(t *testing.T) {
	for _, bad := range invalid {
		wrong := make([]int, len(bad.s.Topics))
		wrong[0] = -1
		for _, marks := range [][]int{nil, make([]int, len(bad.s.Topics)), wrong} {
			if got, code := syllabus.Roll(bad.s, marks); len(got) != 0 || code != bad.code {
				t.Errorf("Roll(%v, %v) is %v, %d", bad.s, marks, got, code)
			}
		}
	}
}

// marksFor returns marks of each topic.
func marksFor(random *rand.Rand, s api.Syllabus) []int {
	marks := make([]int, len(s.Topics))
	for i := range marks {
		marks[i] = random.IntN(201)
	}
	return marks
}

// P5.3: marks of all forests
func TestRollOfForests(t *testing.T) {
	random := rand.New(rand.NewPCG(23, 24))
	for _, s := range forests() {
		marks := marksFor(random, s)
		if got, code := syllabus.Roll(s, marks); !slices.Equal(got, rollOf(s, marks)) || code != api.OK {
			t.Fatalf("Roll(%v, %v) is %v, %d", s.Topics, marks, got, code)
		}
	}
}

func r(num, den int) api.Ratio { return api.Ratio{Num: num, Den: den} }

// P5.4
func TestShare(t *testing.T) {
	for _, c := range []struct {
		weights []int
		want    []api.Ratio
	}{
		{[]int{3, 2, 1}, []api.Ratio{r(1, 2), r(1, 3), r(1, 6)}},
		{[]int{3, 1}, []api.Ratio{r(3, 4), r(1, 4)}},
		{[]int{0, 1}, []api.Ratio{r(0, 1), r(1, 1)}},
		{[]int{7}, []api.Ratio{r(1, 1)}},
		{[]int{1000, 999}, []api.Ratio{r(1000, 1999), r(999, 1999)}},
		{[]int{1000, 1000, 1000, 1000, 1000, 1000}, []api.Ratio{r(1, 6), r(1, 6), r(1, 6), r(1, 6), r(1, 6), r(1, 6)}},
		{[]int{1, 1000, 1000, 1000, 1000, 1000}, []api.Ratio{r(1, 5001), r(1000, 5001), r(1000, 5001), r(1000, 5001), r(1000, 5001), r(1000, 5001)}},
	} {
		for i, want := range c.want {
			if got, code := syllabus.Share(weighted(c.weights...), i); got != want || code != api.OK {
				t.Errorf("Share of %d in %v is %v, %d", i, c.weights, got, code)
			}
		}
	}
}

func noShare(t *testing.T, s api.Syllabus, component int, want api.Errno) {
	t.Helper()
	if got, code := syllabus.Share(s, component); got != (api.Ratio{}) || code != want {
		t.Errorf("Share of %d in %v is %v, %d", component, s, got, code)
	}
}

// P5.4: the errors, one before the other
func TestShareErrors(t *testing.T) {
	for _, weights := range [][]int{{3, 2, 1}, {0, 0}, {0}, {}} {
		s := weighted(weights...)
		for _, component := range others(len(weights)) {
			noShare(t, s, component, api.ErrUnknown)
		}
	}
	for _, weights := range [][]int{{0}, {0, 0}, {0, 0, 0, 0, 0, 0}} {
		for i := range weights {
			noShare(t, weighted(weights...), i, api.ErrNone)
		}
	}
	for _, bad := range invalid {
		noShare(t, bad.s, 0, bad.code)
		noShare(t, bad.s, -1, bad.code)
		noShare(t, bad.s, len(bad.s.Components), bad.code)
	}
}
