package item_test

import (
	"math/rand/v2"
	"slices"
	"testing"

	"awardingbody/api"
	"awardingbody/item"
)

// some are items of which some are valid, and with IDs of which many are equal.
func some() []api.Item {
	all := []api.Item{{}, example(), withEnemies(3, 7), withEnemies(9), withEnemies(7, 7), {Parts: make([]api.Part, 9)}}
	for n := range 250 {
		all = append(all, chance{rand.New(rand.NewPCG(35, uint64(n))), 2 + n}.item())
	}
	return all
}

// P6.6: Enemy is symmetric, and no item is an enemy of itself
func TestEnemyIsSymmetric(t *testing.T) {
	enemies := 0
	for _, a := range some() {
		if item.Enemy(a, a) {
			t.Fatalf("%v is an enemy of itself", a)
		}
		for _, b := range some() {
			if item.Enemy(a, b) != item.Enemy(b, a) {
				t.Fatalf("Enemy is not symmetric for %v and %v", a, b)
			}
			if item.Enemy(a, b) {
				enemies++
			}
		}
	}
	if enemies < 100 {
		t.Errorf("only %d pairs are enemies", enemies)
	}
}

// P6.6: Material of an item with itself is empty, and it is symmetric
func TestMaterialIsSymmetric(t *testing.T) {
	for _, a := range some() {
		if got := item.Material(a, copied(a)); len(got) != 0 {
			t.Fatalf("Material of %v with itself is %v", a, got)
		}
		for _, b := range some() {
			if got, back := item.Material(a, b), item.Material(b, a); !slices.Equal(got, back) {
				t.Fatalf("Material of %v and %v is %v, and %v the other way", a, b, got, back)
			}
		}
	}
}

// answers are the results of all functions for two items and their parts as papers.
func answers(a, b api.Item) [][]int {
	yes := func(holds bool) int {
		if holds {
			return 1
		}
		return 0
	}
	all := [][]int{item.Material(a, b), {yes(item.Enemy(a, b))}}
	for _, x := range []api.Item{a, b} {
		p := api.Paper{Parts: x.Parts}
		all = append(all, []int{int(item.Check(x)), item.Total(x)}, []int{yes(item.ValidPaper(p)), item.PaperTotal(p)}, item.Choices(p))
		for _, part := range x.Parts {
			all = append(all, []int{yes(item.ValidPart(part))})
		}
	}
	return all
}

// R5 and R6: arguments are kept, results share no memory, and no state is kept
func TestResultsAreNew(t *testing.T) {
	items := some()
	for i, a := range items {
		b := items[(i+1)%len(items)]
		beforeA, beforeB := copied(a), copied(b)
		first := answers(a, b)
		want := make([][]int, len(first))
		for k, l := range first {
			want[k] = slices.Clone(l)
		}
		for k, l := range first {
			if !slices.Equal(l, want[k]) {
				t.Fatalf("two results for %v and %v share memory", a, b)
			}
			full := l[:cap(l)]
			for m := range full {
				full[m] = -9
			}
		}
		if !same(a, beforeA) || !same(b, beforeB) {
			t.Fatalf("%v, %v became %v, %v", beforeA, beforeB, a, b)
		}
		if got := answers(a, b); !slices.EqualFunc(got, want, slices.Equal) {
			t.Fatalf("a second call differs for %v and %v", a, b)
		}
	}
}

// R4: nil and an empty list are equivalent
func TestNilAndEmpty(t *testing.T) {
	for _, x := range []api.Item{withEnemies(3), {Version: 1, Stem: "x"}, {}} {
		y := x
		y.Enemies = []int{}
		if len(y.Parts) == 0 {
			y.Parts = []api.Part{}
		}
		check(t, y, item.Check(x))
		material(t, x, y)
		enemy(t, x, withEnemies(5, 3), item.Enemy(y, withEnemies(5, 3)))
	}
}

// R1: any items and papers at all
func FuzzItems(f *testing.F) {
	f.Add(7, 1, "Add.", 1, 3, 0, 0, 0, 0, 3, 9)
	f.Add(0, 8, "~", 2, 40, 15, 5, 5, 4, 0, 9999)
	f.Add(-1, 0, "\xff", 3, 41, 16, 6, 6, 6, -1, -1)
	f.Fuzz(func(t *testing.T, id, version int, text string, kind, most, topic, objective, options, key, enemy1, enemy2 int) {
		p := api.Part{Kind: kind, Max: most, Topic: topic, Objective: objective, Options: options, Key: key}
		x := api.Item{ID: id, Version: version, Stem: text, Parts: []api.Part{open, p}, Enemies: []int{enemy1, enemy2}}
		if got := item.ValidPart(p); got != partOf(p) {
			t.Errorf("ValidPart of %v is %v", p, got)
		}
		check(t, x, checkOf(x))
		y := withEnemies(enemy2, id)
		material(t, x, y, materialOf(x, y)...)
		enemy(t, x, y, enemyOf(x, y))
		q := api.Paper{Code: id, Variant: version, Parts: x.Parts}
		marks := 0
		if paperOf(q) {
			marks = sumOf(q.Parts)
		}
		paper(t, q, marks, choicesOf(q)...)
	})
}
