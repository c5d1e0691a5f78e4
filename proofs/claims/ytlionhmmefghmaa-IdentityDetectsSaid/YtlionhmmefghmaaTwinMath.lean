/-
  The text of eight bytes, its letter, and twins that are changed.
-/
import Derived.Test.YtlionhmmefghmaaSwapMath
namespace Go.Proofs.Ytlionhmmefghmaa
open Go.RowKit
set_option linter.unusedSimpArgs false
set_option linter.unusedVariables false
set_option maxRecDepth 100000

/-- the text of eight bytes -/
def tx8 (c : Nat → Int) : ByteArray := ⟨[UInt8.ofNat (c 0).toNat, UInt8.ofNat (c 1).toNat, UInt8.ofNat (c 2).toNat, UInt8.ofNat (c 3).toNat, UInt8.ofNat (c 4).toNat, UInt8.ofNat (c 5).toNat, UInt8.ofNat (c 6).toNat, UInt8.ofNat (c 7).toNat].toArray⟩
theorem byteAt_tx8 (c : Nat → Int) (hc : ∀ i, 0 ≤ c i ∧ c i < 256) {i : Nat} (hi : i < 8) : byteAt (tx8 c) i = c i := by
  rw [← u8_back (hc i)]
  unfold byteAt
  obtain rfl | rfl | rfl | rfl | rfl | rfl | rfl | rfl : i = 0 ∨ i = 1 ∨ i = 2 ∨ i = 3 ∨ i = 4 ∨ i = 5 ∨ i = 6 ∨ i = 7 := by omega
  all_goals rfl
theorem tx8_add (c : Nat → Int) (L : Int) : tx8 c ++ ⟨[UInt8.ofNat L.toNat].toArray⟩ = tx9 (upd c 8 L) := by
  unfold tx8 tx9
  rw [ByteArray.mk_append_mk, upd_same, upd_other c L (show 0 ≠ 8 by omega), upd_other c L (show 1 ≠ 8 by omega), upd_other c L (show 2 ≠ 8 by omega), upd_other c L (show 3 ≠ 8 by omega), upd_other c L (show 4 ≠ 8 by omega), upd_other c L (show 5 ≠ 8 by omega), upd_other c L (show 6 ≠ 8 by omega), upd_other c L (show 7 ≠ 8 by omega)]
  rfl
theorem text_row8 (W : World) (g cap : Nat) (c : Nat → Int) (hc : ∀ i, 0 ≤ c i ∧ c i < 256) (h : RowB W g c) :
    (convert 36 9 (.slice (some ⟨g, 0, none⟩) 8 cap)).run Try.prog W = .ok (.string (tx8 c)) W := by
  refine run_convert_bytes_back (P := Try.prog) W 36 9 5 ⟨g, 0, none⟩ cap [UInt8.ofNat (c 0).toNat, UInt8.ofNat (c 1).toNat, UInt8.ofNat (c 2).toNat, UInt8.ofNat (c 3).toNat, UInt8.ofNat (c 4).toNat, UInt8.ofNat (c 5).toNat, UInt8.ofNat (c 6).toNat, UInt8.ofNat (c 7).toNat] Try.underlying36 Try.underlying5 Try.underlying9 (fun j hj => ?_)
  have hj' : j < 8 := hj
  have e : (⟨g, 0, none⟩ : Addr).add j = ⟨g, j, none⟩ := by unfold Addr.add; split <;> simp_all
  rw [e, (h j (by omega)).1]
  obtain rfl | rfl | rfl | rfl | rfl | rfl | rfl | rfl : j = 0 ∨ j = 1 ∨ j = 2 ∨ j = 3 ∨ j = 4 ∨ j = 5 ∨ j = 6 ∨ j = 7 := by omega
  all_goals exact congrArg (fun z => some (Value.int .u8 z)) (u8_back (hc _)).symm
/-- the letter that belongs to a sum -/
def lsum (c : Nat → Int) : Int := lett ((wsum c 8) % 23).toNat
theorem letter_tx8 (c : Nat → Int) (hc : ∀ i, 0 ≤ c i ∧ c i < 256) (hd : digs c 8 = true) : letS (tx8 c) = ⟨[UInt8.ofNat (lsum c).toNat].toArray⟩ ∧ letE (tx8 c) = 0 := by
  have hb : ∀ i, i < 8 → byteAt (tx8 c) i = c i := fun i hi => byteAt_tx8 _ hc hi
  have hd' : digs (byteAt (tx8 c)) 8 = true := (digs_iff _ _).2 fun i hi => by rw [hb i hi]; exact (digs_iff _ _).1 hd i hi
  have hz : (tx8 c).size = 8 := rfl
  unfold letS letE lsum
  rw [if_pos ⟨hz, hd'⟩, if_pos ⟨hz, hd'⟩, wsum_ext 8 hb]
  exact ⟨rfl, rfl⟩
theorem bad_letter2 (c d : Nat → Int) (hc : ∀ i, 0 ≤ c i ∧ c i < 256) (hd : digs c 8 = true) (h8 : c 8 = lsum d) (hw : ¬ wsum c 8 % 23 = wsum d 8 % 23) : prE (tx9 c) = 24 := by
  have hb : ∀ i, i < 9 → byteAt (tx9 c) i = c i := fun i hi => byteAt_tx9 _ hc hi
  have hd' : digs (byteAt (tx9 c)) 8 = true := (digs_iff _ _).2 fun i hi => by rw [hb i (by omega)]; exact (digs_iff _ _).1 hd i hi
  have hwc : wsum (byteAt (tx9 c)) 8 = wsum c 8 := wsum_ext 8 fun i hi => hb i (by omega)
  unfold lsum at h8
  have hs : shp (tx9 c) = true := by
    unfold shp
    rw [hd', hb 8 (by omega), h8, isLet_lett (by omega)]
    rfl
  have hr : rgt (tx9 c) = false := by
    unfold rgt
    rw [hb 8 (by omega), h8, hwc]
    refine beq_eq_false_iff_ne.2 fun e => hw ?_
    have := lett_inj (by omega) (by omega) e
    omega
  unfold prE
  rw [if_pos hs, hr, if_neg (by simp)]
theorem twins_bad (N : Nat) {i : Nat} {x : Int} (hi : i < 7) (hx : 48 ≤ x ∧ x ≤ 57) (h : numC N i ≠ x) :
    prE (tx9 (upd (upd (upd (upd (numC N) (i + 1) (numC N i)) i x) (i + 1) x) 8 (lsum (upd (numC N) (i + 1) (numC N i))))) = 24 := by
  have di := num_digit N (show i < 8 by omega)
  have hL : 0 ≤ lsum (upd (numC N) (i + 1) (numC N i)) ∧ lsum (upd (numC N) (i + 1) (numC N i)) < 256 := lett_bd _
  refine bad_letter2 _ (upd (numC N) (i + 1) (numC N i)) (upd_bd (upd_bd (upd_bd (upd_bd (numC_bd N) (i + 1) (numC_bd N i)) i (by omega)) (i + 1) (by omega)) 8 hL) ((digs_iff _ _).2 fun j hj => ?_) (upd_same _ _ _) ?_
  · rw [upd_other _ _ (show j ≠ 8 by omega)]
    unfold upd
    split
    · exact hx
    · split
      · exact hx
      · exact num_digit N hj
  · rw [wsum_ext (d := upd (upd (upd (numC N) (i + 1) (numC N i)) i x) (i + 1) x) 8 fun j hj => upd_other _ _ (by omega)]
    rw [wsum_upd (upd (upd (numC N) (i + 1) (numC N i)) i x) x (show i + 1 < 8 by omega), wsum_upd (upd (numC N) (i + 1) (numC N i)) x (show i < 8 by omega), upd_other (upd (numC N) (i + 1) (numC N i)) x (show i + 1 ≠ i by omega), upd_same, upd_other (numC N) (numC N i) (show i ≠ i + 1 by omega)]
    have hp := prod_mod (m := 2 * (i : Int) + 3) (d := dg x - dg (numC N i)) (by omega) (by omega) (by unfold dg; omega) (by unfold dg; omega)
    generalize wsum (upd (numC N) (i + 1) (numC N i)) 8 = S
    have e : S + ((i : Int) + 1) * (dg x - dg (numC N i)) + (((i + 1 : Nat) : Int) + 1) * (dg x - dg (numC N i)) = S + (2 * (i : Int) + 3) * (dg x - dg (numC N i)) := by grind
    rw [e]
    omega
end Go.Proofs.Ytlionhmmefghmaa
