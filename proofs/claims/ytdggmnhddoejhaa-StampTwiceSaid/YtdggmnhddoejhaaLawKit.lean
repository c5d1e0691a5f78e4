/-
  What the statements on stamps share: the tape, the events, lists that are equal.
-/
import Derived.Test.YtdggmnhddoejhaaEvents
import Derived.Test.YtdggmnhddoejhaaAwake
import Derived.Test.YtdggmnhddoejhaaQuietB
import Derived.OpenShut
namespace Go.Proofs.Ytdggmnhddoejhaa
open Go.RowKit
set_option linter.unusedSimpArgs false
set_option linter.unusedVariables false

/-- what is told of a slice of integers that came in: it is nil, or it leads to a row of c cells, the numbers zs -/
def IsRow (k : IntKind) (w : World) (a : Option Addr) (len cap : Nat) (zs : List Int) : Prop :=
  (a = none ∧ len = 0 ∧ cap = 0 ∧ zs = []) ∨
  ∃ x, a = some x ∧ len ≤ cap ∧ cap ≤ maxLen ∧ zs.length = cap ∧ (∀ i, i < zs.length → w.cell? (x.add i) = some (.int k (zs.getD i 0))) ∧ ∀ n ∈ zs, (Lit.int k n).wf = true
theorem row_of {w : World} {o : Option Addr} {n c : Nat} {zs : List Int} (h : IsRow .i64 w o n c zs) :
    RowB w w.heap.size o n (fun i => zs.getD i 0) ∧ n ≤ c ∧ c ≤ 9223372036854775807 ∧ (o = none → n = 0 ∧ c = 0) := by
  rcases h with ⟨rfl, rfl, rfl, rfl⟩ | ⟨x, rfl, hl, hm, hz, hc, hw⟩
  · exact ⟨fun i hi => absurd hi (by omega), by omega, by omega, fun _ => ⟨rfl, rfl⟩⟩
  · refine ⟨fun i hi => ?_, hl, by unfold maxLen at hm; exact hm, fun h => by cases h⟩
    have hci := hc i (by omega)
    have hc0 := hc 0 (by omega)
    obtain ⟨b, off, spot⟩ := x
    have hs : spot = none := by simpa [Addr.add] using World.cell?_spot hc0
    subst hs
    have hb := World.block_lt_of_cell? w _ hc0
    refine ⟨⟨b, off, rfl, by simpa [Addr.add] using hb, ?_⟩, ?_⟩
    · by_cases h0 : i = 0
      · subst h0; simpa [Addr.add] using hci
      · simpa [Addr.add, h0] using hci
    · have hmem : zs.getD i 0 ∈ zs := by
        rw [List.getD_eq_getElem?_getD, List.getElem?_eq_getElem (by omega)]
        exact List.getElem_mem _
      obtain ⟨a, b⟩ := bounds_i64 (hw _ hmem)
      exact ⟨a, Int.lt_of_le_of_lt b (by omega)⟩
def lsF (ls : List St) (i : Nat) : St := ls.getD i (0, 0, 0)
def csF (cs : List Int) (i : Nat) : Int := cs.getD i 0
theorem rowS_own {w : World} {B : Nat} {p : Option Addr} {m cap : Nat} {ls : List St} (h : w.ownsRow B 23 3 (.slice p m cap) ls.length (stCells ls)) : RowS w w.heap.size p ls.length (lsF ls) ∧ m = ls.length ∧ m ≤ cap := by
  rcases h.2 with ⟨hv, h0⟩ | ⟨g, cap', cur, hv, hb, hc, hmc, _⟩
  · injection hv with h1 h2 h3
    exact ⟨fun i hi => by omega, by omega, by omega⟩
  · injection hv with h1 h2 h3
    subst h1; subst h2; subst h3
    refine ⟨fun i hi => ⟨g, 0, rfl, (Array.getElem?_eq_some_iff.1 hc).1, ?_⟩, rfl, hmc⟩
    have hx : ls[i]? = some (lsF ls i) := by unfold lsF; rw [List.getD_eq_getElem?_getD, List.getElem?_eq_getElem hi]; rfl
    obtain ⟨e0, e1, e2⟩ := stCells_at ls i _ hx
    exact ⟨by rw [Nat.zero_add]; exact (h.cellAt (i * 3) (by omega)).trans e0, by rw [Nat.zero_add]; exact (h.cellAt (i * 3 + 1) (by omega)).trans e1, by rw [Nat.zero_add]; exact (h.cellAt (i * 3 + 2) (by omega)).trans e2⟩
theorem rowI_own {w : World} {B : Nat} {p : Option Addr} {m cap : Nat} {cs : List Int} (h : w.ownsRow B 3 1 (.slice p m cap) cs.length (cs.map (Value.int .i64))) : RowI w w.heap.size p cs.length (csF cs) ∧ m = cs.length ∧ m ≤ cap := by
  rcases h.2 with ⟨hv, h0⟩ | ⟨g, cap', cur, hv, hb, hc, hmc, _⟩
  · injection hv with h1 h2 h3
    exact ⟨fun i hi => by omega, by omega, by omega⟩
  · injection hv with h1 h2 h3
    subst h1; subst h2; subst h3
    refine ⟨fun i hi => ⟨g, 0, rfl, (Array.getElem?_eq_some_iff.1 hc).1, ?_⟩, rfl, hmc⟩
    rw [Nat.zero_add, h.cellAt i (by omega), List.getElem?_map, List.getElem?_eq_getElem hi]
    simp [csF, List.getD_eq_getElem?_getD, List.getElem?_eq_getElem hi]
theorem grown_below {a b : World} {g B : Nat} (h : a.grownBy b (some g)) (hB : B ≤ g) (hs : B ≤ a.heap.size) : Below B a b := bGr h hB hs
theorem bq_rowS {w : World} {o : Option Addr} {n : Nat} {L : Nat → St} (h : RowS w w.heap.size o n L) (p : BelowOf w) : RowS p.to p.to.heap.size o n L := (h.below p.h (Nat.le_refl _)).more p.h.size
theorem bq_rowI {w : World} {o : Option Addr} {n : Nat} {L : Nat → Int} (h : RowI w w.heap.size o n L) (p : BelowOf w) : RowI p.to p.to.heap.size o n L := (h.below p.h (Nat.le_refl _)).more p.h.size
theorem until_exists (L : Nat → St) (n : Nat) (t : Int) : ∃ r, UntilIs L n t r := by
  induction n with
  | zero => exact ⟨0, Nat.le_refl _, fun j h => absurd h (Nat.not_lt_zero _), fun h => absurd h (Nat.lt_irrefl _)⟩
  | succ n ih =>
    obtain ⟨r, h1, h2, h3⟩ := ih
    rcases Nat.lt_or_ge r n with g | g
    · exact ⟨r, by omega, h2, fun _ => h3 g⟩
    · have : r = n := by omega
      subst this
      by_cases ht : t < (L r).1
      · exact ⟨r, by omega, h2, fun _ => ht⟩
      · exact ⟨r + 1, Nat.le_refl _, fun j hj => by
          rcases Nat.lt_succ_iff_lt_or_eq.1 hj with g | g
          · exact h2 j g
          · rw [g]; omega, fun h => absurd h (Nat.lt_irrefl _)⟩
theorem until_det {o : Option Addr} {n c r : Nat} {L : Nat → St} {t : Int} {w : World} (hs : RowS w w.heap.size o n L) (hn : n ≤ 1000000) (h : UntilIs L n t r) :
    Calls Try.prog 26 #[.slice o n c, .int .i64 t] w fun e w' => e = .returned (.int .i64 (r : Int)) ∧ Below w.heap.size w w' := by
  refine (until_any o n c L t w hs hn).mono ?_
  rintro e w' ⟨r', h', rfl, hb⟩
  rw [h'.unique h]; exact ⟨rfl, hb⟩
theorem runtil_det {o : Option Addr} {n c r : Nat} {L : Nat → St} {t : Int} {w : World} (hs : RowS w w.heap.size o n L) (hn : n ≤ 1000000) (h : UntilIs L n t r) :
    Calls Try.prog 27 #[.slice o n c, .int .i64 t] w fun e w' => e = .returned (.int .i64 (r : Int)) ∧ Below w.heap.size w w' := by
  refine (ref_until o n c L t w hs hn).mono ?_
  rintro e w' ⟨r', h', rfl, hb⟩
  rw [h'.unique h]; exact ⟨rfl, hb⟩
end Go.Proofs.Ytdggmnhddoejhaa
