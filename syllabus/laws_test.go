package syllabus_test

import (
	"math/rand/v2"
	"slices"
	"testing"

	"awardingbody/api"
	"awardingbody/ratio"
	"awardingbody/syllabus"
)

// P5.5: Under and Path are inverse
func TestUnderIsInverseToPath(t *testing.T) {
	for _, s := range forests() {
		for a := range s.Topics {
			for b := range s.Topics {
				if slices.Contains(syllabus.Path(s, b), a) != slices.Contains(syllabus.Under(s, a), b) {
					t.Fatalf("%d and %d in %v", a, b, s.Topics)
				}
			}
		}
	}
}

// P5.5: Common is the last common element of both paths
func TestCommonOfPaths(t *testing.T) {
	for _, s := range forests() {
		for a := range s.Topics {
			for b := range s.Topics {
				last := -1
				for i, topic := range syllabus.Path(s, a) {
					if other := syllabus.Path(s, b); i < len(other) && other[i] == topic {
						last = topic
					}
				}
				if got := syllabus.Common(s, a, b); got != last {
					t.Fatalf("Common of %d and %d in %v is %d, not %d", a, b, s.Topics, got, last)
				}
			}
		}
	}
}

// P5.5: the rolled marks of the roots add up to all marks
func TestRolledRoots(t *testing.T) {
	random := rand.New(rand.NewPCG(25, 26))
	for _, s := range forests() {
		marks := marksFor(random, s)
		rolled, code := syllabus.Roll(s, marks)
		if code != api.OK {
			t.Fatalf("Roll(%v, %v) is %d", s.Topics, marks, code)
		}
		rest := 0
		for i, topic := range s.Topics {
			rest += marks[i]
			if topic.Parent == -1 {
				rest -= rolled[i]
			}
		}
		if rest != 0 {
			t.Fatalf("Roll(%v, %v) is %v", s.Topics, marks, rolled)
		}
	}
}

// P5.5: the shares of all components add up to 1, if there is one
func TestSharesAddUp(t *testing.T) {
	random := rand.New(rand.NewPCG(27, 28))
	none := 0
	for range 2000 {
		var weights []int
		most := 1 + random.IntN(1001)>>random.IntN(11)
		total := 0
		for range random.IntN(7) {
			weights = append(weights, random.IntN(most))
			total += weights[len(weights)-1]
		}
		s := weighted(weights...)
		if total == 0 {
			none++
			for i := range weights {
				noShare(t, s, i, api.ErrNone)
			}
			continue
		}
		var shares []api.Ratio
		for i, w := range weights {
			share, code := syllabus.Share(s, i)
			if code != api.OK || !ratio.Valid(share) || share.Num*total != w*share.Den {
				t.Fatalf("Share of %d in %v is %v, %d", i, weights, share, code)
			}
			shares = append(shares, share)
		}
		if sum, code := ratio.Sum(shares); sum != (api.Ratio{Num: 1, Den: 1}) || code != api.OK {
			t.Fatalf("the shares of %v are %v", weights, shares)
		}
	}
	if none < 100 || none > 1500 {
		t.Errorf("%d times there is no share", none)
	}
}

// answers are the results of all functions for a syllabus.
func answers(s api.Syllabus, marks []int) [][]int {
	rolled, code := syllabus.Roll(s, marks)
	all := [][]int{{int(syllabus.Check(s)), int(code)}, rolled, syllabus.Leaves(s)}
	for a := range s.Topics {
		var common []int
		for b := range s.Topics {
			common = append(common, syllabus.Common(s, a, b))
		}
		all = append(all, syllabus.Under(s, a), syllabus.Path(s, a), common)
	}
	for i := range s.Components {
		share, code := syllabus.Share(s, i)
		all = append(all, []int{share.Num, share.Den, int(code)})
	}
	return all
}

// R5 and R6: arguments are kept, results share no memory, and no state is kept
func TestResultsAreNew(t *testing.T) {
	random := rand.New(rand.NewPCG(29, 30))
	for _, s := range append(forests(), example(), filled(16, 6, 6)) {
		marks := marksFor(random, s)
		before, beforeMarks := copied(s), slices.Clone(marks)
		first := answers(s, marks)
		want := make([][]int, len(first))
		for i, l := range first {
			want[i] = slices.Clone(l)
		}
		for i, l := range first {
			if !slices.Equal(l, want[i]) {
				t.Fatalf("two results for %v share memory", s)
			}
			full := l[:cap(l)]
			for k := range full {
				full[k] = -9
			}
		}
		if !same(s, before) || !slices.Equal(marks, beforeMarks) {
			t.Fatalf("%v, %v became %v, %v", before, beforeMarks, s, marks)
		}
		if got := answers(s, marks); !slices.EqualFunc(got, want, slices.Equal) {
			t.Fatalf("a second call differs for %v", s)
		}
	}
}

// R1: any topics and components at all
func FuzzSyllabuses(f *testing.F) {
	f.Add("number", -1, "algebra", 0, "graphs", 1, 2)
	f.Add("a", -1, "a", -1, "b", 5, 0)
	f.Add("", 1, "A", -2, "\xff", 2, -1)
	f.Fuzz(func(t *testing.T, x string, p int, y string, q int, z string, r, topic int) {
		s := forest(p, q, r)
		for i, n := range []string{x, y, z} {
			s.Topics[i].Name = n
		}
		s.Components = []api.Component{{Name: z, Weight: p, Maximum: q}, {Name: x, Weight: r, Maximum: topic}}
		check(t, s, checkOf(s))
		if _, code := syllabus.Share(s, topic); code == api.OK && (checkOf(s) != api.OK || topic < 0 || topic > 1) {
			t.Errorf("there is a Share of %d in %v", topic, s)
		}
		s.Components = nil
		check(t, s, checkOf(s))
		if checkOf(s) != api.OK || topic < 0 || topic > 2 {
			nothing(t, s, topic, 0)
			return
		}
		if under, path := syllabus.Under(s, topic), syllabus.Path(s, topic); !slices.Equal(under, underOf(s, topic)) || !slices.Equal(path, pathOf(s, topic)) {
			t.Errorf("%d in %v: Under is %v, Path is %v", topic, s, under, path)
		}
		if got := syllabus.Common(s, topic, 2); got != commonOf(s, topic, 2) {
			t.Errorf("Common of %d and 2 in %v is %d", topic, s, got)
		}
	})
}
