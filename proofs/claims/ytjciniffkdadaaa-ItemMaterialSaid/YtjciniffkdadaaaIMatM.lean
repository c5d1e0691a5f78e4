/-
  What the statement on Material wants of rows of parts: a row copied, a part of it replaced.
-/
import Derived.Test.YtjciniffkdadaaaIKit
import Derived.Test.YtjciniffkdadaaaIDraw
import Derived.Test.YtjciniffkdadaaaIMatR
namespace Go.Proofs.Ytjciniffkdadaaa
open Go.RowKit
set_option linter.unusedSimpArgs false
set_option linter.unusedVariables false

theorem pCells_len (l : List Pt) : (pCells l).length = l.length * 6 := by
  induction l with
  | nil => rfl
  | cons a t ih =>
    have e : pCells (a :: t) = ptL a ++ pCells t := by simp [pCells]
    rw [e, List.length_append, ih]
    show 6 + t.length * 6 = (t.length + 1) * 6
    omega
theorem pMap_at {P : Nat → Pt} {n i : Nat} (h : i < n) : ((List.range n).map P)[i]? = some (P i) := by simp [h]
theorem six_cases {Q : Nat → Prop} {m : Nat} (h : ∀ i, Q (i * 6) ∧ Q (i * 6 + 1) ∧ Q (i * 6 + 2) ∧ Q (i * 6 + 3) ∧ Q (i * 6 + 4) ∧ Q (i * 6 + 5)) : Q m := by
  obtain ⟨h0, h1, h2, h3, h4, h5⟩ := h (m / 6)
  have : m = m / 6 * 6 ∨ m = m / 6 * 6 + 1 ∨ m = m / 6 * 6 + 2 ∨ m = m / 6 * 6 + 3 ∨ m = m / 6 * 6 + 4 ∨ m = m / 6 * 6 + 5 := by omega
  rcases this with e | e | e | e | e | e <;> rw [e] <;> assumption
/-- the cells of a row of parts, to be appended -/
theorem rowP_news {w : World} {B b off n : Nat} {P : Nat → Pt} (h : RowP w B (some ⟨b, off, none⟩) n P) : ∀ j u, (pCells ((List.range n).map P))[j]? = some u → w.cell? ((⟨b, off, none⟩ : Addr).add j) = some u := by
  intro j
  have e : ∀ j, ((⟨b, off, none⟩ : Addr).add j) = ⟨b, off + j, none⟩ := fun j => by unfold Addr.add; split <;> simp_all
  have hl : (pCells ((List.range n).map P)).length = n * 6 := by rw [pCells_len]; simp
  refine six_cases (Q := fun j => ∀ u, (pCells ((List.range n).map P))[j]? = some u → w.cell? ((⟨b, off, none⟩ : Addr).add j) = some u) fun i => ?_
  rcases Nat.lt_or_ge i n with hi | hi
  · obtain ⟨b2, off2, ho, _, h0, h1, h2, h3, h4, h5⟩ := h i hi
    injection ho with ho
    injection ho with e1 e2 _
    subst e1
    subst e2
    obtain ⟨k0, k1, k2, k3, k4, k5⟩ := pCells_at _ i _ (pMap_at (P := P) hi)
    refine ⟨fun u hu => ?_, fun u hu => ?_, fun u hu => ?_, fun u hu => ?_, fun u hu => ?_, fun u hu => ?_⟩
    · rw [k0] at hu; injection hu with hu; subst hu; rw [e]; exact h0
    · rw [k1] at hu; injection hu with hu; subst hu; rw [e]; exact h1
    · rw [k2] at hu; injection hu with hu; subst hu; rw [e]; exact h2
    · rw [k3] at hu; injection hu with hu; subst hu; rw [e]; exact h3
    · rw [k4] at hu; injection hu with hu; subst hu; rw [e]; exact h4
    · rw [k5] at hu; injection hu with hu; subst hu; rw [e]; exact h5
  · have hn : ∀ r, (pCells ((List.range n).map P))[i * 6 + r]? = none := fun r => List.getElem?_eq_none (by rw [hl]; omega)
    refine ⟨fun u hu => ?_, fun u hu => ?_, fun u hu => ?_, fun u hu => ?_, fun u hu => ?_, fun u hu => ?_⟩
    · rw [show i * 6 = i * 6 + 0 from rfl, hn] at hu; cases hu
    all_goals rw [hn] at hu; cases hu
/-- six cells of a row replaced -/
def set6 (cur : Array Value) (k : Nat) (p : Pt) : Array Value := (((((cur.setIfInBounds (k * 6) (.int .i64 p.kd)).setIfInBounds (k * 6 + 1) (.int .i64 p.mx)).setIfInBounds (k * 6 + 2) (.int .i64 p.tp)).setIfInBounds (k * 6 + 3) (.int .i64 p.ob)).setIfInBounds (k * 6 + 4) (.int .i64 p.op)).setIfInBounds (k * 6 + 5) (.int .i64 p.ky)
theorem set6_far (cur : Array Value) (k : Nat) (p : Pt) {j : Nat} (h : j < k * 6 ∨ k * 6 + 6 ≤ j) : (set6 cur k p)[j]? = cur[j]? := by
  unfold set6
  rw [Array.getElem?_setIfInBounds_ne (by omega), Array.getElem?_setIfInBounds_ne (by omega), Array.getElem?_setIfInBounds_ne (by omega), Array.getElem?_setIfInBounds_ne (by omega), Array.getElem?_setIfInBounds_ne (by omega), Array.getElem?_setIfInBounds_ne (by omega)]
theorem set6_at (cur : Array Value) (k : Nat) (p : Pt) (h : k * 6 + 6 ≤ cur.size) : (set6 cur k p)[k * 6]? = some (.int .i64 p.kd) ∧ (set6 cur k p)[k * 6 + 1]? = some (.int .i64 p.mx) ∧ (set6 cur k p)[k * 6 + 2]? = some (.int .i64 p.tp) ∧ (set6 cur k p)[k * 6 + 3]? = some (.int .i64 p.ob) ∧ (set6 cur k p)[k * 6 + 4]? = some (.int .i64 p.op) ∧ (set6 cur k p)[k * 6 + 5]? = some (.int .i64 p.ky) := by
  unfold set6
  have hk : ∀ r, r < 6 → k * 6 + r < cur.size := fun r hr => by omega
  have h0 := hk 0 (by omega)
  have h1 := hk 1 (by omega)
  have h2 := hk 2 (by omega)
  have h3 := hk 3 (by omega)
  have h4 := hk 4 (by omega)
  have h5 := hk 5 (by omega)
  refine ⟨?_, ?_, ?_, ?_, ?_, ?_⟩
  · rw [Array.getElem?_setIfInBounds_ne (by omega), Array.getElem?_setIfInBounds_ne (by omega), Array.getElem?_setIfInBounds_ne (by omega), Array.getElem?_setIfInBounds_ne (by omega), Array.getElem?_setIfInBounds_ne (by omega), Array.getElem?_setIfInBounds_self_of_lt (by simpa using h0)]
  · rw [Array.getElem?_setIfInBounds_ne (by omega), Array.getElem?_setIfInBounds_ne (by omega), Array.getElem?_setIfInBounds_ne (by omega), Array.getElem?_setIfInBounds_ne (by omega), Array.getElem?_setIfInBounds_self_of_lt (by simpa using h1)]
  · rw [Array.getElem?_setIfInBounds_ne (by omega), Array.getElem?_setIfInBounds_ne (by omega), Array.getElem?_setIfInBounds_ne (by omega), Array.getElem?_setIfInBounds_self_of_lt (by simpa using h2)]
  · rw [Array.getElem?_setIfInBounds_ne (by omega), Array.getElem?_setIfInBounds_ne (by omega), Array.getElem?_setIfInBounds_self_of_lt (by simpa using h3)]
  · rw [Array.getElem?_setIfInBounds_ne (by omega), Array.getElem?_setIfInBounds_self_of_lt (by simpa using h4)]
  · rw [Array.getElem?_setIfInBounds_self_of_lt (by simpa using h5)]
/-- a row of parts known by its block, one part of it replaced -/
theorem rowP_set6 {w : World} {g n k : Nat} {cur : Array Value} {P : Nat → Pt} {p : Pt} (hb : Blk w g 23 (set6 cur k p)) (hc : cur.toList.take (n * 6) = pCells ((List.range n).map P)) (hs : n * 6 ≤ cur.size) (hk : k < n) :
    RowP w w.heap.size (some ⟨g, 0, none⟩) n (fun i => if i = k then p else P i) := by
  intro i hi
  refine ⟨g, 0, rfl, hb.lt, ?_⟩
  rw [Nat.zero_add]
  have hcell : ∀ r, w.cell? ⟨g, i * 6 + r, none⟩ = (set6 cur k p)[i * 6 + r]? := fun r => hb.cell _
  have h0 : w.cell? ⟨g, i * 6, none⟩ = (set6 cur k p)[i * 6]? := hb.cell _
  rw [h0, hcell 1, hcell 2, hcell 3, hcell 4, hcell 5]
  dsimp only
  by_cases he : i = k
  · subst he
    rw [if_pos rfl]
    exact set6_at cur i p (by omega)
  · rw [if_neg he, set6_far cur k p (by omega), set6_far cur k p (by omega), set6_far cur k p (by omega), set6_far cur k p (by omega), set6_far cur k p (by omega), set6_far cur k p (by omega)]
    have hr : ∀ j, j < n * 6 → cur[j]? = (pCells ((List.range n).map P))[j]? := fun j hj => by
      rw [← hc, List.getElem?_take_of_lt hj]; simp
    obtain ⟨k0, k1, k2, k3, k4, k5⟩ := pCells_at _ i _ (pMap_at (P := P) hi)
    exact ⟨(hr _ (by omega)).trans k0, (hr _ (by omega)).trans k1, (hr _ (by omega)).trans k2, (hr _ (by omega)).trans k3, (hr _ (by omega)).trans k4, (hr _ (by omega)).trans k5⟩
theorem blk_set6 {w : World} {g k : Nat} {t : TypeId} {cur : Array Value} (h : Blk w g t cur) (p : Pt) : Blk ((((((w.setCell ⟨g, k * 6, none⟩ (.int .i64 p.kd)).setCell ⟨g, k * 6 + 1, none⟩ (.int .i64 p.mx)).setCell ⟨g, k * 6 + 2, none⟩ (.int .i64 p.tp)).setCell ⟨g, k * 6 + 3, none⟩ (.int .i64 p.ob)).setCell ⟨g, k * 6 + 4, none⟩ (.int .i64 p.op)).setCell ⟨g, k * 6 + 5, none⟩ (.int .i64 p.ky)) g t (set6 cur k p) :=
  (((((h.set_ _ _).set_ _ _).set_ _ _).set_ _ _).set_ _ _).set_ _ _
end Go.Proofs.Ytjciniffkdadaaa
