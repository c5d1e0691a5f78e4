/-
  Texts in plain lists; what a laid table keeps.
-/
import Derived.Test.YtajiheohkmjhnaaGreatDoorNkB
import Derived.Lib.ItoaNum
import Derived.Lib.AppendIntMem
import Derived.Lib.LaidTab
import Derived.RegionCalls
namespace Go.Proofs.YtajiheohkmjhnaaGreatDoor
open Go.RowKit Go.Lib
set_option linter.unusedSimpArgs false
set_option linter.unusedVariables false

theorem zeroW {h l : Int} {x : Nat} (H : W2 h l x) : decide ((h, l) = ((0 : Int), (0 : Int))) = decide (x = 0) := by
  obtain ⟨a, b, c, d, e⟩ := H
  by_cases hx : x = 0
  · rw [decide_eq_true hx, decide_eq_true (by rw [show h = 0 by omega, show l = 0 by omega])]
  · rw [decide_eq_false hx, decide_eq_false (fun g => hx (by injection g with g1 g2; omega))]
theorem decD_small {u : Nat} (h : u < 10) : decDigits u = [UInt8.ofNat (48 + u)] := by rw [decDigits, dif_pos h]
theorem decD_big {u : Nat} (h : ¬ u < 10) : decDigits u = decDigits (u / 10) ++ [UInt8.ofNat (48 + u % 10)] := by rw [decDigits, dif_neg h]
theorem decD_len : ∀ (k u : Nat), 1 ≤ k → u < 10 ^ k → 1 ≤ (decDigits u).length ∧ (decDigits u).length ≤ k
  | 0, _, h, _ => by omega
  | k + 1, u, _, h => by
    by_cases hs : u < 10
    · rw [decD_small hs]; simp
    · rw [decD_big hs, List.length_append, List.length_singleton]
      rcases Nat.eq_zero_or_pos k with rfl | hk
      · simp at h; omega
      · have := decD_len k (u / 10) hk (by rw [Nat.pow_succ] at h; omega)
        omega
theorem text_app (a b : List UInt8) : (⟨a.toArray⟩ : ByteArray) ++ ⟨b.toArray⟩ = ⟨(a ++ b).toArray⟩ := by
  apply ByteArray.ext
  rw [ByteArray.data_append]
  simp
theorem text_size (a : List UInt8) : (⟨a.toArray⟩ : ByteArray).size = a.length := by simp [ByteArray.size]
theorem ret_str {a b : ByteArray} (h : a = b) : Ending.returned (.string a) = .returned (.string b) := by rw [h]

theorem tab_later {P : Program} {w w' : World} {name : String} {k : IntKind} {zs : List Int} {B : Nat} (h : TabIs P w name k zs) (hb : Below B w w') (hB : w.heap.size ≤ B) : TabIs P w' name k zs := by
  unfold TabIs World.var? at h ⊢
  cases hg : P.globalNamed name with
  | none => rw [hg] at h; cases h
  | some g =>
    rw [hg] at h
    simp only [Option.bind_some] at h ⊢
    have hlt : g < w.heap.size := by
      rcases Nat.lt_or_ge g w.heap.size with h' | h'
      · exact h'
      · rw [Array.getElem?_eq_none h'] at h; cases h
    rw [hb.block g (by omega)]
    exact h
def Tab (w : World) : Prop := TabIs Tryz.prog w "internal/strconv.uint64pow10" .u64 Lib.pow10Tab
theorem Tab.later {w w' : World} (h : Tab w) (hb : Below w.heap.size w w') : Tab w' := tab_later h hb (Nat.le_refl _)
end Go.Proofs.YtajiheohkmjhnaaGreatDoor
