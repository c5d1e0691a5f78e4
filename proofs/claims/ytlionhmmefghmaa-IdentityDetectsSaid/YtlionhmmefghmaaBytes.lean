/-
  []byte(s) of nine bytes: its row; a row's text.
-/
import Derived.Test.YtlionhmmefghmaaIdMath
namespace Go.Proofs.Ytlionhmmefghmaa
open Go.RowKit
set_option linter.unusedSimpArgs false
set_option linter.unusedVariables false
set_option maxRecDepth 100000

/-- the first nine cells of block g -/
def RowB (w : World) (g : Nat) (c : Nat → Int) : Prop := ∀ j, j < 9 → w.cell? ⟨g, j, none⟩ = some (.int .u8 (c j)) ∧ w.frozen? ⟨g, j, none⟩ = false
theorem RowB.later {w w' : World} {g : Nat} {c : Nat → Int} (h : RowB w g c) (hg : g < w.heap.size) (hb : Below w.heap.size w w') : RowB w' g c :=
  fun j hj => ⟨(hb.cell (p := ⟨g, j, none⟩) hg).trans (h j hj).1, (hb.frozen (p := ⟨g, j, none⟩) hg).trans (h j hj).2⟩
theorem RowB.set_ {w : World} {g : Nat} {c : Nat → Int} (h : RowB w g c) {k : Nat} (hk : k < 9) (x : Int) : RowB (w.setCell ⟨g, k, none⟩ (.int .u8 x)) g (fun i => if i = k then x else c i) := fun j hj => by
  refine ⟨?_, by rw [World.frozen?_setCell]; exact (h j hj).2⟩
  by_cases e : j = k
  · subst e
    rw [World.cell?_setCell_same _ _ _ (h j hj).1]
    show _ = some (Value.int .u8 (if j = j then x else c j))
    rw [if_pos rfl]
  · rw [World.cell?_setCell_other _ _ _ _ (by simp <;> omega)]
    show _ = some (Value.int .u8 (if j = k then x else c j))
    rw [if_neg e]
    exact (h j hj).1
theorem text_row (W : World) (g cap : Nat) (c : Nat → Int) (hc : ∀ i, 0 ≤ c i ∧ c i < 256) (h : RowB W g c) :
    (convert 36 9 (.slice (some ⟨g, 0, none⟩) 9 cap)).run Try.prog W = .ok (.string (tx9 c)) W := by
  refine run_convert_bytes_back (P := Try.prog) W 36 9 5 ⟨g, 0, none⟩ cap [UInt8.ofNat (c 0).toNat, UInt8.ofNat (c 1).toNat, UInt8.ofNat (c 2).toNat, UInt8.ofNat (c 3).toNat, UInt8.ofNat (c 4).toNat, UInt8.ofNat (c 5).toNat, UInt8.ofNat (c 6).toNat, UInt8.ofNat (c 7).toNat, UInt8.ofNat (c 8).toNat] Try.underlying36 Try.underlying5 Try.underlying9 (fun j hj => ?_)
  have hj' : j < 9 := hj
  have e : (⟨g, 0, none⟩ : Addr).add j = ⟨g, j, none⟩ := by unfold Addr.add; split <;> simp_all
  rw [e, (h j hj').1]
  obtain rfl | rfl | rfl | rfl | rfl | rfl | rfl | rfl | rfl : j = 0 ∨ j = 1 ∨ j = 2 ∨ j = 3 ∨ j = 4 ∨ j = 5 ∨ j = 6 ∨ j = 7 ∨ j = 8 := by omega
  all_goals exact congrArg (fun z => some (Value.int .u8 z)) (u8_back (hc _)).symm
theorem bytes_of (s : ByteArray) (h9 : s.size = 9) (w : World) : ∃ w2 cap, (convert 9 36 (.string s)).run Try.prog w = .ok (.slice (some ⟨w.heap.size, 0, none⟩) 9 cap) w2 ∧ 9 ≤ cap ∧ Hid (RowB w2 w.heap.size (byteAt s)) ∧ Hid (∀ B v, Below B v w → B ≤ w.heap.size → Below B v w2) ∧ w.heap.size < w2.heap.size := by
  have hrun := run_bytes_of_string (P := Try.prog) w 9 36 5 s Try.underlying9 Try.underlying36 Try.underlying5
  rw [h9] at hrun
  refine ⟨_, _, hrun, ?_, Lib.hid fun j hj => ⟨?_, ?_⟩, Lib.hid fun B v hb hB => ?_, ?_⟩
  · exact grownCap_ge _ _ _ _
  · refine (World.cell?_alloc_mark w.drew _ _ _ j).trans ?_
    have hj' : j < s.data.size := by have : s.data.size = 9 := h9; omega
    rw [bytesRow_at s _ j hj']
    unfold byteAt
    rw [List.getD_eq_getElem?_getD, List.getElem?_eq_getElem (by simpa using hj')]
    rfl
  · refine (World.frozen?_alloc_mark w.drew _ _ _ _ j).trans ?_
    have hb : 9 ≤ (bytesRow s (grownCap w 9 0 5)).size := by
      unfold bytesRow
      rw [Array.size_append, Array.size_map]
      have : s.data.size = 9 := h9
      omega
    rw [decide_eq_false (by omega)]
    rfl
  · exact hb.drew.alloc hB _
  · show _ < (w.heap.push _).size
    simp
end Go.Proofs.Ytlionhmmefghmaa
