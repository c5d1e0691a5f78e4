/-
  The canonical list of a reordering with copies: the mathematics.
-/
import Derived.Test.YtdhjmnehjmoilaaLawKit
namespace Go.Proofs.Ytdhjmnehjmoilaa
open Go.RowKit
set_option linter.unusedSimpArgs false
set_option linter.unusedVariables false

theorem dis_same {x y : St} {a b : Int} (e : x = y) (h : dis x y a b = false) : a = b := by
  subst e
  unfold dis at h
  simpa using h
/-- valid, and no valid event disputes it -/
def calm (L : Nat → St) (C : Nat → Int) (n i : Nat) : Prop := vld (L i) = true ∧ ∀ j, j < n → vld (L j) = true → dis (L i) (L j) (C i) (C j) = false
theorem calm_of {L : Nat → St} {C : Nat → Int} {n i : Nat} (h : cnts L C n i = true) : calm L C n i := by
  rw [cnts_iff] at h
  refine ⟨h.1, fun j hj hv => ?_⟩
  have := h.2 j hj
  unfold bars at this
  rw [hv] at this
  cases hd : dis (L i) (L j) (C i) (C j)
  · rfl
  · rw [hd] at this; simp at this
theorem calm_first {L : Nat → St} {C : Nat → Int} {n : Nat} : ∀ (f i : Nat), i ≤ f → i < n → calm L C n i → ∃ k, k < n ∧ cnts L C n k = true ∧ L k = L i ∧ C k = C i
  | f, i, hif, hin, h => by
    by_cases hc : ∃ k, k < i ∧ L k = L i
    · obtain ⟨k, hk, he⟩ := hc
      have hvk : vld (L k) = true := by rw [he]; exact h.1
      have hck : C i = C k := dis_same he.symm (h.2 k (by omega) hvk)
      have hcalm : calm L C n k := ⟨hvk, fun j hj hv => by rw [he, ← hck]; exact h.2 j hj hv⟩
      match f, hif with
      | 0, hif => omega
      | f + 1, hif =>
        obtain ⟨k', h1, h2, h3, h4⟩ := calm_first f k (by omega) (by omega) hcalm
        exact ⟨k', h1, h2, h3.trans he, h4.trans hck.symm⟩
    · refine ⟨i, hin, (cnts_iff L C n i).2 ⟨h.1, fun j hj => ?_⟩, rfl, rfl⟩
      unfold bars
      cases hv : vld (L j)
      · rfl
      · rw [h.2 j hj hv]
        have : (decide (j < i) && decide (L j = L i)) = false := by
          rw [Bool.and_eq_false_iff]
          by_cases hji : j < i
          · exact .inr (decide_eq_false fun e => hc ⟨j, hji, e⟩)
          · exact .inl (decide_eq_false hji)
        rw [this]; rfl
theorem pairs_mem {L : Nat → St} {C : Nat → Int} {n : Nat} {a : List Nat} (h : IsCanon L C n a) (x : St × Int) : x ∈ a.map (fun i => (L i, C i)) ↔ ∃ i, i < n ∧ calm L C n i ∧ (L i, C i) = x := by
  rw [List.mem_map]
  constructor
  · rintro ⟨i, hi, e⟩
    obtain ⟨h1, h2⟩ := (h.mem i).1 hi
    exact ⟨i, h1, calm_of h2, e⟩
  · rintro ⟨i, h1, h2, e⟩
    obtain ⟨k, hk, hc, e1, e2⟩ := calm_first i i (Nat.le_refl _) h1 h2
    exact ⟨k, (h.mem k).2 ⟨hk, hc⟩, by rw [e1, e2]; exact e⟩
theorem any_pairs {L M : Nat → St} {C D : Nat → Int} {n m : Nat} {a b : List Nat} (ha : IsCanon L C n a) (hb : IsCanon M D m b) (ord : Nat → Nat)
    (h1 : ∀ j, j < m → ord j < n ∧ M j = L (ord j) ∧ D j = C (ord j)) (h2 : ∀ i, i < n → ∃ j, j < m ∧ ord j = i) : a.map (fun i => (L i, C i)) = b.map (fun j => (M j, D j)) := by
  have hcalm : ∀ j, j < m → (calm M D m j ↔ calm L C n (ord j)) := fun j hj => by
    obtain ⟨e0, e1, e2⟩ := h1 j hj
    unfold calm
    rw [e1, e2]
    refine and_congr_right fun _ => ⟨fun h i hi hv => ?_, fun h k hk hv => ?_⟩
    · obtain ⟨k, hk, rfl⟩ := h2 i hi
      obtain ⟨_, e3, e4⟩ := h1 k hk
      have := h k hk (by rw [e3]; exact hv)
      rw [e3, e4] at this; exact this
    · obtain ⟨e5, e3, e4⟩ := h1 k hk
      rw [e3, e4]
      exact h _ e5 (by rw [← e3]; exact hv)
  refine sorted_unique (fun p q : St × Int => stLt p.1 q.1) (fun _ => stLt_irr _) (fun _ _ h k => stLt_irr _ (stLt_trans h k)) _ _ ?_ ?_ fun x => ?_
  · rw [List.pairwise_map]; exact ha.asc
  · rw [List.pairwise_map]; exact hb.asc
  · rw [pairs_mem ha, pairs_mem hb]
    constructor
    · rintro ⟨i, hi, hc, e⟩
      obtain ⟨j, hj, rfl⟩ := h2 i hi
      obtain ⟨_, e1, e2⟩ := h1 j hj
      exact ⟨j, hj, (hcalm j hj).2 hc, by rw [e1, e2]; exact e⟩
    · rintro ⟨j, hj, hc, e⟩
      obtain ⟨e0, e1, e2⟩ := h1 j hj
      exact ⟨ord j, e0, (hcalm j hj).1 hc, by rw [← e1, ← e2]; exact e⟩
theorem any_at {L M : Nat → St} {C D : Nat → Int} {n m : Nat} {a b : List Nat} (ha : IsCanon L C n a) (hb : IsCanon M D m b) (h : a.map (fun i => (L i, C i)) = b.map (fun j => (M j, D j))) :
    a.length = b.length ∧ ∀ i, i < a.length → a.getD i 0 < n ∧ b.getD i 0 < m ∧ L (a.getD i 0) = M (b.getD i 0) ∧ C (a.getD i 0) = D (b.getD i 0) := by
  have hl : a.length = b.length := by simpa using congrArg List.length h
  refine ⟨hl, fun i hi => ?_⟩
  have hib : i < b.length := by omega
  have h1 : (a.map (fun i => (L i, C i)))[i]? = (b.map (fun j => (M j, D j)))[i]? := by rw [h]
  rw [List.getElem?_map, List.getElem?_map, List.getElem?_eq_getElem hi, List.getElem?_eq_getElem hib] at h1
  simp only [Option.map_some, Option.some.injEq, Prod.mk.injEq] at h1
  rw [List.getD_eq_getElem?_getD, List.getD_eq_getElem?_getD, List.getElem?_eq_getElem hi, List.getElem?_eq_getElem hib]
  exact ⟨((ha.mem _).1 (List.getElem_mem hi)).1, ((hb.mem _).1 (List.getElem_mem hib)).1, h1.1, h1.2⟩
end Go.Proofs.Ytdhjmnehjmoilaa
