package item_test

import (
	"math"
	"math/rand/v2"
	"regexp"
	"slices"
	"strings"

	"awardingbody/api"
)

// strange are numbers that are valid nowhere.
var strange = []int{-1, -2, -3, 1 << 32, 1<<32 + 1, 1<<32 + 3, -1 << 32, -1<<32 + 1, math.MaxInt, math.MaxInt - 1, math.MinInt, math.MinInt + 1}

var stem = regexp.MustCompile(`\A[\x20-\x7e]+\z`)

// partOf follows the definition of a valid part word by word: nothing that it demands is missing.
func partOf(p api.Part) bool {
	missing := 0
	demand := func(holds bool) {
		if !holds {
			missing++
		}
	}
	demand(p.Kind == 1 || p.Kind == 2)
	demand(1 <= p.Max && p.Max <= 40)
	demand(0 <= p.Topic && p.Topic <= 15)
	demand(0 <= p.Objective && p.Objective <= 5)
	if p.Kind == 2 {
		demand(slices.Contains([]int{2, 3, 4, 5}, p.Options))
		demand(0 <= p.Key && p.Key < p.Options)
	}
	if p.Kind == 1 {
		demand([2]int{p.Options, p.Key} == [2]int{})
	}
	return missing == 0
}

func partsOf(parts []api.Part) bool {
	return !slices.ContainsFunc(parts, func(p api.Part) bool { return !partOf(p) })
}

// checkOf follows P6.1 word by word: each error with its condition, in order.
func checkOf(x api.Item) api.Errno {
	ascending := slices.IsSorted(x.Enemies) && len(slices.Compact(slices.Clone(x.Enemies))) == len(x.Enemies)
	outside := slices.ContainsFunc(x.Enemies, func(e int) bool { return e < 0 || e > 9999 })
	for _, c := range []struct {
		holds bool
		code  api.Errno
	}{
		{x.ID < 0 || x.ID > 9999 || x.Version < 1 || x.Version > 8, api.ErrRange},
		{len(x.Stem) > 40 || len(x.Parts) > 6 || len(x.Enemies) > 8, api.ErrLimit},
		{!stem.MatchString(x.Stem), api.ErrSyntax},
		{len(x.Parts) == 0, api.ErrNone},
		{!partsOf(x.Parts), api.ErrInvalid},
		{!ascending || outside || slices.Contains(x.Enemies, x.ID), api.ErrConflict},
	} {
		if c.holds {
			return c.code
		}
	}
	return api.OK
}

func sumOf(parts []api.Part) int {
	sum := 0
	for _, p := range parts {
		sum += p.Max
	}
	return sum
}

func totalOf(x api.Item) int {
	if checkOf(x) != api.OK {
		return 0
	}
	return sumOf(x.Parts)
}

func fields(p api.Part) []int {
	return []int{p.Kind, p.Max, p.Topic, p.Objective, p.Options, p.Key}
}

// materialOf follows P6.3 field by field; where only one of the items has a part, no field is equal to that of the other one.
func materialOf(a, b api.Item) []int {
	var found []int
	for i := 0; i < len(a.Parts) || i < len(b.Parts); i++ {
		var of, against []int
		if i < len(a.Parts) {
			of = fields(a.Parts[i])
		}
		if i < len(b.Parts) {
			against = fields(b.Parts[i])
		}
		if !slices.Equal(of, against) {
			found = append(found, i)
		}
	}
	return found
}

// enemyOf follows P6.4 word by word.
func enemyOf(a, b api.Item) bool {
	among := slices.Contains(a.Enemies, b.ID) || slices.Contains(b.Enemies, a.ID)
	return checkOf(a) == api.OK && checkOf(b) == api.OK && a.ID != b.ID && among
}

// paperOf follows the definition of a valid paper word by word.
func paperOf(p api.Paper) bool {
	if len(p.Parts) < 1 || len(p.Parts) > 24 || !partsOf(p.Parts) {
		return false
	}
	return 0 <= p.Code && p.Code <= 31 && 0 <= p.Variant && p.Variant <= 3 && sumOf(p.Parts) <= 200
}

func choicesOf(p api.Paper) []int {
	var found []int
	for i, part := range p.Parts {
		if paperOf(p) && part.Kind == 2 {
			found = append(found, i)
		}
	}
	return found
}

// chance makes values of which each is wrong with the chance 1 to rarely.
type chance struct {
	*rand.Rand
	rarely int
}

func (c chance) wrong() bool { return c.IntN(c.rarely) == 0 }

func (c chance) number(least, most int) int {
	if c.wrong() {
		return []int{least - 1, most + 1, strange[c.IntN(len(strange))]}[c.IntN(3)]
	}
	return least + c.IntN(most-least+1)
}

// count returns how many elements a list has, seldom too many and seldom none.
func (c chance) count(most int) int {
	if c.wrong() {
		return (most + 1 + c.IntN(2)) * c.IntN(2)
	}
	return 1 + c.IntN(most)
}

// part returns a part; its Max is at most most.
func (c chance) part(most int) api.Part {
	p := api.Part{Kind: 1, Max: c.number(1, most), Topic: c.number(0, 15), Objective: c.number(0, 5)}
	if c.IntN(2) == 0 {
		p.Kind, p.Options = 2, 2+c.IntN(4)
		p.Key = c.number(0, p.Options-1)
	}
	if c.wrong() {
		p.Options = c.IntN(7)
	}
	if c.wrong() {
		p.Kind = c.IntN(4)
	}
	return p
}

func (c chance) parts(n, most int) []api.Part {
	var parts []api.Part
	for range n {
		parts = append(parts, c.part(most))
	}
	return parts
}

// enemies returns a list of IDs, most of which are small.
func (c chance) enemies() []int {
	l := []int{}
	for range c.count(9) - 1 {
		l = append(l, c.id())
	}
	slices.Sort(l)
	if l = slices.Compact(l); len(l) > 1 && c.wrong() {
		k := 1 + c.IntN(len(l)-1)
		l[k] = []int{l[0], l[k-1], c.id(), c.number(0, 9999)}[c.IntN(4)]
	}
	return l
}

func (c chance) id() int {
	if c.IntN(4) > 0 {
		return c.IntN(12)
	}
	return c.number(0, 9999)
}

func (c chance) item() api.Item {
	text := strings.Repeat("a ~", 14)[:c.count(40)]
	if c.wrong() {
		text += []string{"\n", "\x1f", "\x7f", "é", "\x00"}[c.IntN(5)]
	}
	return api.Item{ID: c.id(), Version: c.number(1, 8), Stem: text, Parts: c.parts(c.count(6), 40), Enemies: c.enemies()}
}

// paper returns a paper whose marks are about as many as are permitted at most.
func (c chance) paper() api.Paper {
	n := c.count(24)
	return api.Paper{Code: c.number(0, 31), Variant: c.number(0, 3), Parts: c.parts(n, min(40, 400/max(n, 1)))}
}

func copied(x api.Item) api.Item {
	x.Parts, x.Enemies = slices.Clone(x.Parts), slices.Clone(x.Enemies)
	return x
}

func same(a, b api.Item) bool {
	return a.ID == b.ID && a.Version == b.Version && a.Stem == b.Stem && slices.Equal(a.Parts, b.Parts) && slices.Equal(a.Enemies, b.Enemies)
}
