package item_test

import (
	"math/rand/v2"
	"slices"
	"strings"
	"testing"

	"awardingbody/api"
	"awardingbody/item"
)

var (
	open   = api.Part{Kind: api.PartOpen, Max: 3}
	choice = api.Part{Kind: api.PartChoice, Max: 1, Topic: 15, Objective: 5, Options: 4, Key: 2}
)

// example has the parts of the chapter.
func example() api.Item {
	return api.Item{ID: 7, Version: 1, Stem: "Add 2 and 3.", Parts: []api.Part{open, choice}, Enemies: []int{3, 9}}
}

func changed(change func(x *api.Item)) api.Item {
	x := example()
	change(&x)
	return x
}

// check checks what Check and Total say about an item.
func check(t *testing.T, x api.Item, want api.Errno) {
	t.Helper()
	total := 0
	if want == api.OK {
		total = sumOf(x.Parts)
	}
	if code, marks := item.Check(x), item.Total(x); code != want || marks != total {
		t.Errorf("Check is %d, not %d; Total is %d, not %d: %v", code, want, marks, total, x)
	}
}

// P6.1: all parts whose numbers are at most one beyond those that are valid
func TestParts(t *testing.T) {
	valid := 0
	for kind := range 4 {
		for options := range 8 {
			for key := range 8 {
				for _, most := range []int{-1, 0, 1, 2, 39, 40, 41} {
					for _, topic := range []int{-1, 0, 1, 14, 15, 16} {
						for objective := range 8 {
							p := api.Part{Kind: kind, Max: most, Topic: topic, Objective: objective - 1, Options: options - 1, Key: key - 1}
							if got := item.ValidPart(p); got != partOf(p) {
								t.Fatalf("ValidPart of %v is %v", p, got)
							}
							if item.ValidPart(p) {
								valid++
							}
						}
					}
				}
			}
		}
	}
	// 4 Max, 4 topics and 6 objectives; an open part, or 2 + 3 + 4 + 5 keys of a choice part
	if valid != 4*4*6*(1+14) {
		t.Errorf("%d parts are valid", valid)
	}
}

// P6.1: each field of a part with a number that is valid nowhere
func TestStrangeParts(t *testing.T) {
	for _, p := range []api.Part{open, choice} {
		if !item.ValidPart(p) {
			t.Errorf("%v is not valid", p)
		}
		for _, n := range strange {
			for i := range 6 {
				q := p
				*[]*int{&q.Kind, &q.Max, &q.Topic, &q.Objective, &q.Options, &q.Key}[i] = n
				if item.ValidPart(q) {
					t.Errorf("%v is valid", q)
				}
			}
		}
	}
	if item.ValidPart(api.Part{}) {
		t.Error("a part without anything is valid")
	}
}

// P6.1 and P6.2: ErrRange
func TestNumbersOfItems(t *testing.T) {
	for _, id := range []int{0, 1, 2, 4, 8, 100, 9998, 9999} {
		check(t, changed(func(x *api.Item) { x.ID = id }), api.OK)
	}
	for version := 1; version <= 8; version++ {
		check(t, changed(func(x *api.Item) { x.Version = version }), api.OK)
	}
	for _, n := range append([]int{10000, 10001, 99999}, strange...) {
		check(t, changed(func(x *api.Item) { x.ID = n }), api.ErrRange)
	}
	for _, n := range append([]int{0, 9, 10, 9999}, strange...) {
		check(t, changed(func(x *api.Item) { x.Version = n }), api.ErrRange)
	}
}

// ascending returns so many enemies, from the ID first on.
func ascending(n, first int) []int {
	var l []int
	for i := range n {
		l = append(l, first+i)
	}
	return l
}

// P6.1 and P6.2: ErrLimit
func TestLimits(t *testing.T) {
	check(t, example(), api.OK)
	for n := 1; n <= 6; n++ {
		check(t, changed(func(x *api.Item) { x.Parts = slices.Repeat([]api.Part{open}, n) }), api.OK)
	}
	for n := range 9 {
		check(t, changed(func(x *api.Item) { x.Enemies = ascending(n, 8) }), api.OK)
	}
	check(t, changed(func(x *api.Item) { x.Enemies = nil }), api.OK)
	check(t, changed(func(x *api.Item) { x.Parts = slices.Repeat([]api.Part{{Kind: api.PartOpen, Max: 40}}, 6) }), api.OK)
	for _, n := range []int{7, 8, 1000} {
		check(t, changed(func(x *api.Item) { x.Parts = slices.Repeat([]api.Part{open}, n) }), api.ErrLimit)
	}
	for _, n := range []int{9, 10, 1000} {
		check(t, changed(func(x *api.Item) { x.Enemies = ascending(n, 8) }), api.ErrLimit)
	}
	for _, n := range []int{41, 42, 1000} {
		check(t, changed(func(x *api.Item) { x.Stem = strings.Repeat("x", n) }), api.ErrLimit)
	}
	// The limit of a stem is one of bytes, whatever they are.
	check(t, changed(func(x *api.Item) { x.Stem = strings.Repeat("\n", 41) }), api.ErrLimit)
	check(t, changed(func(x *api.Item) { x.Stem = strings.Repeat("é", 21) }), api.ErrLimit)
	check(t, changed(func(x *api.Item) { x.Stem = strings.Repeat("é", 20) }), api.ErrSyntax)
}

// P6.1 and P6.2: ErrSyntax
func TestStems(t *testing.T) {
	for _, s := range []string{"a", " ", "~", "    ", "2 + 2 = ?", "|\\\"'`", strings.Repeat(" ", 40), strings.Repeat("~", 40)} {
		check(t, changed(func(x *api.Item) { x.Stem = s }), api.OK)
	}
	check(t, changed(func(x *api.Item) { x.Stem = "" }), api.ErrSyntax)
	for b := range 256 {
		want := api.OK
		if b < 32 || b > 126 {
			want = api.ErrSyntax
		}
		s := string([]byte{byte(b)})
		for _, text := range []string{s, "a" + s, s + "a", "a" + s + "a", strings.Repeat("a", 39) + s} {
			check(t, changed(func(x *api.Item) { x.Stem = text }), want)
		}
	}
	for _, s := range []string{"é", "x²", "\u2014", "\uff41", "\xff\xfe"} {
		check(t, changed(func(x *api.Item) { x.Stem = s }), api.ErrSyntax)
	}
}

// P6.1 and P6.2: ErrNone and ErrInvalid
func TestPartsOfItems(t *testing.T) {
	check(t, changed(func(x *api.Item) { x.Parts = nil }), api.ErrNone)
	check(t, changed(func(x *api.Item) { x.Parts = []api.Part{} }), api.ErrNone)
	check(t, changed(func(x *api.Item) { x.Parts = x.Parts[:0] }), api.ErrNone)
	for n := 1; n <= 6; n++ {
		for i := range n {
			for _, p := range []api.Part{{}, {Kind: 3, Max: 1}, {Kind: 1, Max: 41}, {Kind: 1}, {Kind: 1, Max: 1, Options: 2}, {Kind: 2, Max: 1, Options: 2, Key: 2}} {
				x := example()
				x.Parts = slices.Repeat([]api.Part{choice}, n)
				check(t, x, api.OK)
				x.Parts[i] = p
				check(t, x, api.ErrInvalid)
			}
		}
	}
}

// P6.1 and P6.2: ErrConflict
func TestEnemies(t *testing.T) {
	for _, l := range [][]int{{}, {0}, {6}, {8}, {9999}, {0, 9999}, {6, 8}, {0, 1, 2, 3, 4, 5, 6, 8}, {0, 1, 2, 3, 4, 5, 6, 9999}} {
		check(t, changed(func(x *api.Item) { x.Enemies = l }), api.OK)
	}
	for _, l := range [][]int{
		{7}, {7, 8}, {6, 7}, {6, 7, 8}, {0, 1, 2, 3, 4, 5, 6, 7}, {7, 7}, // its own ID
		{3, 3}, {0, 0}, {9999, 9999}, {1, 2, 2}, {1, 1, 2}, {1, 2, 3, 4, 5, 6, 8, 8}, // twice
		{9, 3}, {1, 0}, {1, 3, 2}, {2, 1, 3}, {3, 1, 3}, {1, 2, 3, 4, 5, 6, 9, 8}, // descending
		{-1}, {10000}, {-1, 0}, {-1, 8}, {0, -1}, {8, 10000}, {10000, 8}, {-2, -1}, {10000, 10001}, {1, 2, 3, 4, 5, 6, 8, 10000},
	} {
		check(t, changed(func(x *api.Item) { x.Enemies = l }), api.ErrConflict)
	}
	for _, n := range strange {
		check(t, changed(func(x *api.Item) { x.Enemies = []int{n} }), api.ErrConflict)
		check(t, changed(func(x *api.Item) { x.Enemies = []int{n, 9} }), api.ErrConflict)
		check(t, changed(func(x *api.Item) { x.Enemies = []int{3, n} }), api.ErrConflict)
	}
	for id := range 10 {
		want := api.OK
		if id == 3 || id == 9 {
			want = api.ErrConflict
		}
		check(t, changed(func(x *api.Item) { x.ID = id }), want)
	}
}

// P6.1: of two errors the first one, in the order of the chapter
func TestCheckOrder(t *testing.T) {
	damages := []struct {
		change func(x *api.Item)
		code   api.Errno
	}{
		{func(x *api.Item) { x.ID = 10000 }, api.ErrRange},
		{func(x *api.Item) { x.Version = 0 }, api.ErrRange},
		{func(x *api.Item) { x.Stem += strings.Repeat("x", 41) }, api.ErrLimit},
		{func(x *api.Item) { x.Parts = append(x.Parts, slices.Repeat([]api.Part{open}, 7)...) }, api.ErrLimit},
		{func(x *api.Item) { x.Enemies = append(x.Enemies, ascending(9, 10)...) }, api.ErrLimit},
		{func(x *api.Item) { x.Stem += "\n" }, api.ErrSyntax},
		{func(x *api.Item) { x.Stem = "" }, api.ErrSyntax},
		{func(x *api.Item) { x.Parts = nil }, api.ErrNone},
		{func(x *api.Item) { x.Parts = append(x.Parts, api.Part{}) }, api.ErrInvalid},
		{func(x *api.Item) { x.Enemies = append(x.Enemies, x.Enemies...) }, api.ErrConflict},
		{func(x *api.Item) { x.Enemies = []int{7} }, api.ErrConflict},
	}
	for i, first := range damages {
		check(t, changed(first.change), first.code)
		for _, second := range damages[i+1:] {
			// The later damage comes first here, so that what it replaces is damaged nevertheless.
			x := changed(second.change)
			first.change(&x)
			check(t, x, first.code)
		}
	}
	for i, c := range []struct {
		x    api.Item
		code api.Errno
	}{
		{api.Item{}, api.ErrRange},
		{api.Item{ID: -1, Version: 1, Stem: strings.Repeat("\n", 41), Parts: make([]api.Part, 7), Enemies: make([]int, 9)}, api.ErrRange},
		{api.Item{Version: 9, Parts: make([]api.Part, 7)}, api.ErrRange},
		{api.Item{Version: 1, Parts: make([]api.Part, 7)}, api.ErrLimit},
		{api.Item{Version: 1, Enemies: make([]int, 9)}, api.ErrLimit},
		{api.Item{Version: 1, Stem: strings.Repeat("\n", 41)}, api.ErrLimit},
		{api.Item{Version: 1}, api.ErrSyntax},
		{api.Item{Version: 1, Parts: make([]api.Part, 6), Enemies: []int{0}}, api.ErrSyntax},
		{api.Item{Version: 1, Stem: "x", Enemies: []int{0}}, api.ErrNone},
		{api.Item{Version: 1, Stem: "x", Parts: make([]api.Part, 6), Enemies: []int{0}}, api.ErrInvalid},
		{api.Item{Version: 1, Stem: "x", Parts: []api.Part{open}, Enemies: []int{0}}, api.ErrConflict},
		{api.Item{Version: 1, Stem: "x", Parts: []api.Part{open}}, api.OK},
	} {
		if got := item.Check(c.x); got != c.code {
			t.Errorf("%d: Check is %d, not %d", i, got, c.code)
		}
	}
}

// P6.1 and P6.2: items with several errors
func TestCheckOfDamaged(t *testing.T) {
	count := map[api.Errno]int{}
	for n := range 40000 {
		x := chance{rand.New(rand.NewPCG(31, uint64(n))), 2 + n%100}.item()
		want := checkOf(x)
		count[want]++
		if code, total := item.Check(x), item.Total(x); code != want || total != totalOf(x) {
			t.Fatalf("Check is %d, not %d, Total is %d, not %d: %v", code, want, total, totalOf(x), x)
		}
	}
	for _, code := range []api.Errno{api.OK, api.ErrRange, api.ErrLimit, api.ErrSyntax, api.ErrNone, api.ErrInvalid, api.ErrConflict} {
		if count[code] < 100 {
			t.Errorf("the error %d comes only %d times", code, count[code])
		}
	}
}

// P6.2
func TestTotal(t *testing.T) {
	large := api.Part{Kind: api.PartOpen, Max: 40}
	for _, c := range []struct {
		parts []api.Part
		want  int
	}{
		{[]api.Part{open, choice}, 4},
		{[]api.Part{open}, 3},
		{[]api.Part{choice}, 1},
		{[]api.Part{choice, choice, open, large, choice, large}, 86},
		{slices.Repeat([]api.Part{large}, 6), 240},
		{slices.Repeat([]api.Part{large}, 7), 0},
		{[]api.Part{open, {Kind: api.PartOpen, Max: 41}}, 0},
		{[]api.Part{open, {Kind: api.PartOpen, Max: -1}}, 0},
		{nil, 0},
	} {
		if got := item.Total(changed(func(x *api.Item) { x.Parts = c.parts })); got != c.want {
			t.Errorf("Total of %v is %d, not %d", c.parts, got, c.want)
		}
	}
}
