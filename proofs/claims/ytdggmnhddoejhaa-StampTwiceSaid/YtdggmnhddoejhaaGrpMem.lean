/-
  A slice of slices of the call's own: groups of places in memory.
-/
import Derived.Test.YtdggmnhddoejhaaSortRow
namespace Go.Proofs.Ytdggmnhddoejhaa
open Go.RowKit
set_option linter.unusedSimpArgs false
set_option linter.unusedVariables false

theorem own_apart {w : World} {B B' s s' n n' : Nat} {e e' : TypeId} {v v' : Value} {xs xs' : List Value} (h : w.ownsRow B e s v n xs) (h' : w.ownsRow B' e' s' v' n' xs') (hne : e ≠ e') : v.ownBlock = none ∨ v.ownBlock ≠ v'.ownBlock := by
  rcases h.2 with ⟨rfl, _⟩ | ⟨g, cap, cur, rfl, _, hc, _⟩
  · exact .inl rfl
  · right
    rcases h'.2 with ⟨rfl, _⟩ | ⟨g', cap', cur', rfl, _, hc', _⟩
    · simp [Value.ownBlock]
    · intro hb
      simp only [Value.ownBlock, Option.some.injEq] at hb
      subst hb
      rw [hc] at hc'
      injection hc' with hc'
      injection hc' with _ h2 _
      exact hne h2
theorem own_some {w : World} {B s n : Nat} {e : TypeId} {v : Value} {xs : List Value} (h : w.ownsRow B e s v n xs) (hn : n ≠ 0) : ∃ g cap, v = .slice (some ⟨g, 0, none⟩) n cap ∧ v.ownBlock = some g ∧ B ≤ g ∧ g < w.heap.size := by
  rcases h.2 with ⟨_, h0⟩ | ⟨g, cap, cur, rfl, hb, hc, _⟩
  · exact absurd h0 hn
  · exact ⟨g, cap, rfl, rfl, hb, (Array.getElem?_eq_some_iff.1 hc).1⟩
theorem grownSet (w : World) (g o : Nat) (v : Value) : w.grownBy (w.setCell ⟨g, o, none⟩ v) (some g) :=
  ⟨rfl, rfl, rfl, by simp, fun k hk hne => Below.heap_setCell w ⟨g, o, none⟩ v k (fun e => hne (by rw [e]))⟩

/-- a slice v of the slices vs, which hold the groups G -/
structure GM (w : World) (B : Nat) (v : Value) (vs : List Value) (G : List (List Nat)) : Prop where
  out : w.ownsRow B 28 1 v vs.length vs
  len : vs.length = G.length
  row : ∀ (j : Nat) (x : Value) (g : List Nat), vs[j]? = some x → G[j]? = some g → w.ownsRow B 3 1 x g.length (g.map iv)
  apart : vs.Pairwise fun a b => a.ownBlock ≠ b.ownBlock
theorem GM.nil (w : World) (B : Nat) : GM w B (.slice none 0 0) [] [] := ⟨World.ownsRow_nil _ _ _ _, rfl, by simp, by simp⟩
theorem GM.later {w w' : World} {B : Nat} {v : Value} {vs : List Value} {G : List (List Nat)} (h : GM w B v vs G) (hb : Below w.heap.size w w') : GM w' B v vs G :=
  ⟨own_later h.out hb, h.len, fun j x g hx hg => own_later (h.row j x g hx hg) hb, h.apart⟩
theorem tne : 28 ≠ 3 := by decide
/-- behind 'groups = append(groups, nil)' -/
theorem GM.pushNil {w w' : World} {B : Nat} {v v' : Value} {vs : List Value} {G : List (List Nat)} (h : GM w B v vs G) (hne : ∀ g ∈ G, g ≠ []) (hown : w'.ownsRow B 28 1 v' (vs.length + 1) (vs ++ [.slice none 0 0])) (hg : w.grownBy w' v.ownBlock) :
    GM w' B v' (vs ++ [.slice none 0 0]) (G ++ [[]]) := by
  refine ⟨by simpa using hown, by simp [h.len], fun j x g hx hgg => ?_, ?_⟩
  · rcases Nat.lt_or_ge j vs.length with hj | hj
    · rw [List.getElem?_append_left hj] at hx
      rw [List.getElem?_append_left (by rw [← h.len]; exact hj)] at hgg
      have hr := h.row j x g hx hgg
      exact hr.kept hg (own_apart hr h.out (Ne.symm tne))
    · rw [List.getElem?_append_right hj] at hx
      rw [List.getElem?_append_right (by rw [← h.len]; exact hj)] at hgg
      rw [List.getElem?_singleton] at hx hgg
      split at hx
      · cases hx
        rw [if_pos (by have := h.len; omega)] at hgg
        cases hgg
        exact World.ownsRow_nil _ _ _ _
      · cases hx
  · rw [List.pairwise_append]
    refine ⟨h.apart, by simp, fun a ha b hb => ?_⟩
    simp only [List.mem_singleton] at hb
    subst hb
    obtain ⟨j, hj, rfl⟩ := List.getElem_of_mem ha
    have hgj : G[j]? = some (G[j]'(by rw [← h.len]; exact hj)) := List.getElem?_eq_getElem _
    have hr := h.row j _ _ (List.getElem?_eq_getElem hj) hgj
    obtain ⟨q, cap, _, hq, _⟩ := own_some hr (by rw [Ne, List.length_eq_zero_iff]; exact hne _ (List.getElem_mem _))
    rw [hq]; simp [Value.ownBlock]
/-- behind 'groups[last] = append(groups[last], i)' -/
theorem GM.grow {w w1 w2 : World} {B gb cap : Nat} {x v' : Value} {vs : List Value} {G : List (List Nat)} {g : List Nat} {i : Nat} (h : GM w B (.slice (some ⟨gb, 0, none⟩) (vs.length + 1) cap) (vs ++ [x]) (G ++ [g])) (hb : Below w.heap.size w w1)
    (hown : w2.ownsRow B 3 1 v' (g.length + 1) (g.map iv ++ [iv i])) (hg : w1.grownBy w2 x.ownBlock) (hat : v'.ownBlock = x.ownBlock ∨ v'.ownBlock = some w1.heap.size) :
    GM (w2.setCell ⟨gb, vs.length, none⟩ v') B (.slice (some ⟨gb, 0, none⟩) (vs.length + 1) cap) (vs ++ [v']) (G ++ [g ++ [i]]) := by
  have h1 := h.later hb
  have hlen : vs.length = G.length := by have := h.len; simpa using this
  have hx := h1.row vs.length x g (by simp) (by rw [hlen]; simp)
  have hout : w1.ownsRow B 28 1 (.slice (some ⟨gb, 0, none⟩) (vs.length + 1) cap) (vs.length + 1) (vs ++ [x]) := by simpa using h1.out
  have hout2 : w2.ownsRow B 28 1 (.slice (some ⟨gb, 0, none⟩) (vs.length + 1) cap) (vs.length + 1) (vs ++ [x]) := hout.kept hg (own_apart hout hx tne)
  have hset := (hout2.stored vs.length v').1
  have hlist : (vs ++ [x]).set vs.length v' = vs ++ [v'] := by rw [List.set_append_right _ _ (Nat.le_refl _)]; simp
  have hap := List.pairwise_append.1 h1.apart
  refine ⟨by rw [hlist] at hset; simpa using hset, by simp [hlen], fun j y g' hy hg' => ?_, ?_⟩
  · rcases Nat.lt_or_ge j vs.length with hj | hj
    · rw [List.getElem?_append_left hj] at hy
      rw [List.getElem?_append_left (by omega)] at hg'
      have hr := h1.row j y g' (by rw [List.getElem?_append_left hj]; exact hy) (by rw [List.getElem?_append_left (by omega)]; exact hg')
      have hne : y.ownBlock ≠ x.ownBlock := hap.2.2 y (List.mem_of_getElem? hy) x (by simp)
      have hr2 := hr.kept hg (.inr hne)
      exact hr2.kept (grownSet w2 gb vs.length v') (own_apart hr2 hout2 (Ne.symm tne))
    · rw [List.getElem?_append_right hj] at hy
      rw [List.getElem?_append_right (by omega)] at hg'
      rw [List.getElem?_singleton] at hy hg'
      split at hy
      · cases hy
        rw [if_pos (by omega)] at hg'
        cases hg'
        have hr2 : w2.ownsRow B 3 1 v' (g ++ [i]).length ((g ++ [i]).map iv) := by simpa using hown
        exact hr2.kept (grownSet w2 gb vs.length v') (own_apart hr2 hout2 (Ne.symm tne))
      · cases hy
  · rw [List.pairwise_append]
    refine ⟨hap.1, by simp, fun a ha b hb' => ?_⟩
    simp only [List.mem_singleton] at hb'
    subst hb'
    rcases hat with hat | hat
    · rw [hat]; exact hap.2.2 a ha x (by simp)
    · rw [hat]
      obtain ⟨j, hj, rfl⟩ := List.getElem_of_mem ha
      have hgj : G[j]? = some (G[j]'(by omega)) := List.getElem?_eq_getElem _
      have hr := h1.row j _ _ (by rw [List.getElem?_append_left hj]; exact List.getElem?_eq_getElem hj) (by rw [List.getElem?_append_left (by omega)]; exact hgj)
      intro he
      have := (hr.lt _ he).2
      omega
/-- the last slice's cell, behind an append to it -/
theorem GM.cells {w w4 : World} {B gb cap : Nat} {x : Value} {vs : List Value} {G : List (List Nat)} {g : List Nat} {ob : Obj} (h : GM w B (.slice (some ⟨gb, 0, none⟩) (vs.length + 1) cap) (vs ++ [x]) (G ++ [g])) (hg : (w.alloc ob).grownBy w4 x.ownBlock) :
    w4.cell? ⟨gb, vs.length, none⟩ = some x ∧ w4.frozen? ⟨gb, vs.length, none⟩ = false := by
  have h1 := h.later (bAl (Below.refl _ _) ob)
  have hlen : vs.length = G.length := by have := h.len; simpa using this
  have hx := h1.row vs.length x g (by simp) (by rw [hlen]; simp)
  have hout : (w.alloc ob).ownsRow B 28 1 (.slice (some ⟨gb, 0, none⟩) (vs.length + 1) cap) (vs.length + 1) (vs ++ [x]) := by simpa using h1.out
  have hout2 := hout.kept hg (own_apart hout hx tne)
  exact ⟨by rw [hout2.cellAt vs.length (by omega)]; simp, hout2.frozenAt vs.length⟩
theorem GM.last {w : World} {B gb cap : Nat} {x : Value} {vs : List Value} {G : List (List Nat)} {g : List Nat} (h : GM w B (.slice (some ⟨gb, 0, none⟩) (vs.length + 1) cap) (vs ++ [x]) (G ++ [g])) :
    w.cell? ⟨gb, vs.length, none⟩ = some x ∧ w.ownsRow B 3 1 x g.length (g.map iv) := by
  have hlen : vs.length = G.length := by have := h.len; simpa using this
  have hx := h.row vs.length x g (by simp) (by rw [hlen]; simp)
  have hout : w.ownsRow B 28 1 (.slice (some ⟨gb, 0, none⟩) (vs.length + 1) cap) (vs.length + 1) (vs ++ [x]) := by simpa using h.out
  exact ⟨by rw [hout.cellAt vs.length (by omega)]; simp, hx⟩
end Go.Proofs.Ytdggmnhddoejhaa
