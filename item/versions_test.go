package item_test

import (
	"math/rand/v2"
	"slices"
	"strings"
	"testing"

	"awardingbody/api"
	"awardingbody/item"
)

// material checks Material of two items, both ways.
func material(t *testing.T, a, b api.Item, want ...int) {
	t.Helper()
	if got, back := item.Material(a, b), item.Material(b, a); !slices.Equal(got, want) || !slices.Equal(back, want) {
		t.Errorf("Material is %v and %v, not %v: %v, %v", got, back, want, a, b)
	}
}

// P6.3: the chapter's example
func TestMaterialOfExample(t *testing.T) {
	next := example()
	next.Version, next.Parts[1].Key = 2, 3
	next.Parts = append(next.Parts, open)
	material(t, example(), next, 1, 2)
}

// P6.3: each field of each part changed
func TestMaterialOfFields(t *testing.T) {
	for i := range 6 {
		for field := range 6 {
			for _, n := range append([]int{0, 1, 2, 3, 4, 5, 15}, strange...) {
				a, b := example(), example()
				a.Parts = slices.Repeat([]api.Part{choice}, 6)
				b.Parts = slices.Clone(a.Parts)
				p := &b.Parts[i]
				value := []*int{&p.Kind, &p.Max, &p.Topic, &p.Objective, &p.Options, &p.Key}[field]
				if *value == n {
					material(t, a, b)
					continue
				}
				*value = n
				material(t, a, b, i)
			}
		}
	}
}

// P6.3: parts that only one of the items has
func TestMaterialOfMissingParts(t *testing.T) {
	for n := range 8 {
		for m := range n + 1 {
			// The parts are without anything, or valid ones.
			for _, p := range []api.Part{{}, open, choice} {
				material(t, api.Item{Parts: slices.Repeat([]api.Part{p}, n)}, api.Item{Parts: slices.Repeat([]api.Part{p}, m)}, ascending(n-m, m)...)
			}
		}
	}
	material(t, api.Item{}, api.Item{Parts: []api.Part{}})
	material(t, example(), changed(func(x *api.Item) { x.Parts = x.Parts[1:] }), 0, 1)
	material(t, example(), changed(func(x *api.Item) { x.Parts = []api.Part{choice, open} }), 0, 1)
	material(t, example(), changed(func(x *api.Item) { x.Parts = []api.Part{open, open, choice} }), 1, 2)
	large := make([]api.Part, 1000)
	material(t, api.Item{Parts: large}, api.Item{Parts: large[:999]}, 999)
}

// P6.3: what does not matter, in items that are valid or not
func TestNotMaterial(t *testing.T) {
	for _, change := range []func(x *api.Item){
		func(x *api.Item) {},
		func(x *api.Item) { x.ID = 8 },
		func(x *api.Item) { x.ID = -1 },
		func(x *api.Item) { x.Version = 2 },
		func(x *api.Item) { x.Version = 9 },
		func(x *api.Item) { x.Stem = "Add 3 and 2." },
		func(x *api.Item) { x.Stem = strings.Repeat("\n", 41) },
		func(x *api.Item) { x.Enemies = nil },
		func(x *api.Item) { x.Enemies = []int{7, 7} },
	} {
		material(t, example(), changed(change))
		material(t, example(), changed(func(x *api.Item) { change(x); x.Parts[0].Max++ }), 0)
	}
}

// P6.3: pairs of items that have some parts in common
func TestMaterialOfDamaged(t *testing.T) {
	count := map[int]int{}
	for n := range 10000 {
		c := chance{rand.New(rand.NewPCG(32, uint64(n))), 2 + n%40}
		a := c.item()
		b := c.item()
		for i := range min(len(a.Parts), len(b.Parts)) {
			if c.IntN(3) > 0 {
				b.Parts[i] = a.Parts[i]
			}
		}
		count[len(materialOf(a, b))]++
		material(t, a, b, materialOf(a, b)...)
	}
	for n := range 7 {
		if count[n] < 20 {
			t.Errorf("%d indices come only %d times", n, count[n])
		}
	}
}

// enemy checks Enemy of two items, both ways.
func enemy(t *testing.T, a, b api.Item, want bool) {
	t.Helper()
	if got, back := item.Enemy(a, b), item.Enemy(b, a); got != want || back != want {
		t.Errorf("Enemy is %v and %v, not %v: %v, %v", got, back, want, a, b)
	}
}

func withEnemies(id int, enemies ...int) api.Item {
	return api.Item{ID: id, Version: 1, Stem: "Add.", Parts: []api.Part{open}, Enemies: enemies}
}

// P6.4
func TestEnemy(t *testing.T) {
	for _, c := range []struct {
		a, b api.Item
		want bool
	}{
		{withEnemies(3, 7), withEnemies(7), true},
		{withEnemies(3), withEnemies(7, 3), true},
		{withEnemies(3, 7), withEnemies(7, 3), true},
		{withEnemies(3), withEnemies(7), false},
		{withEnemies(3, 8), withEnemies(7, 8), false}, // they only have an enemy in common
		{withEnemies(3, 6, 8), withEnemies(7, 2, 4), false},
		{withEnemies(3, 0, 1, 2, 4, 5, 6, 7, 8), withEnemies(7), true},
		{withEnemies(3, 7, 8, 9, 10, 11, 12, 13, 14), withEnemies(7), true},
		{withEnemies(3, 0, 1, 2, 4, 5, 6, 7, 8), withEnemies(8), true},
		{withEnemies(0, 9999), withEnemies(9999), true},
		{withEnemies(0), withEnemies(9999, 0), true},
		{withEnemies(1), withEnemies(0), false},
		{withEnemies(7, 3), withEnemies(7, 3), false}, // one ID
		{withEnemies(7, 3), withEnemies(7, 9), false},
		{withEnemies(7), withEnemies(7), false},
	} {
		enemy(t, c.a, c.b, c.want)
		c.a.Version, c.b.Version, c.b.Stem, c.b.Parts = 8, 2, "Subtract.", []api.Part{choice, open}
		enemy(t, c.a, c.b, c.want)
	}
}

// P6.4: an item that is not valid is no enemy, although it names the other one or is named
func TestEnemyOfInvalid(t *testing.T) {
	for _, pair := range [][2]api.Item{{withEnemies(3, 7), withEnemies(7)}, {withEnemies(7), withEnemies(3, 7)}, {withEnemies(3, 7), withEnemies(7, 3)}} {
		enemy(t, pair[0], pair[1], true)
		for _, change := range []func(x *api.Item){
			func(x *api.Item) { x.Version = 0 },
			func(x *api.Item) { x.Version = 9 },
			func(x *api.Item) { x.Stem = "" },
			func(x *api.Item) { x.Stem = strings.Repeat("x", 41) },
			func(x *api.Item) { x.Stem = "é" },
			func(x *api.Item) { x.Parts = nil },
			func(x *api.Item) { x.Parts = slices.Repeat(x.Parts, 7) },
			func(x *api.Item) { x.Parts = []api.Part{open, {}} },
			func(x *api.Item) { x.Enemies = append(ascending(9, 8), x.Enemies...) },
			func(x *api.Item) { x.Enemies = append(slices.Clone(x.Enemies), 10000) },
			func(x *api.Item) { x.Enemies = append(slices.Clone(x.Enemies), x.ID) },
			func(x *api.Item) { x.Enemies = append(slices.Clone(x.Enemies), 9, 8) },
		} {
			bad := copied(pair[0])
			change(&bad)
			enemy(t, bad, pair[1], false)
		}
	}
	// IDs that are out of range
	enemy(t, withEnemies(3, 10000), withEnemies(10000), false)
	enemy(t, withEnemies(10000, 3), withEnemies(3), false)
	enemy(t, withEnemies(-1, 3), withEnemies(3), false)
	// versions of one item that name their own ID
	enemy(t, withEnemies(7, 7), withEnemies(7, 7), false)
	enemy(t, withEnemies(7, 7), withEnemies(7), false)
	enemy(t, api.Item{}, api.Item{}, false)
}

// P6.4: pairs of items, most of which have small IDs
func TestEnemyOfDamaged(t *testing.T) {
	enemies := 0
	for n := range 30000 {
		c := chance{rand.New(rand.NewPCG(33, uint64(n))), 10 + n%300}
		a, b := c.item(), c.item()
		want := enemyOf(a, b)
		if want {
			enemies++
		}
		enemy(t, a, b, want)
	}
	if enemies < 1000 || enemies > 29000 {
		t.Errorf("%d pairs are enemies", enemies)
	}
}
