/-
  Parse and Format are inverse, on texts and numbers.
-/
import Derived.Test.YtlionhmmefghmaaAwake
namespace Go.Proofs.Ytlionhmmefghmaa
open Go.RowKit
set_option linter.unusedSimpArgs false
set_option linter.unusedVariables false
set_option maxRecDepth 100000

theorem byteAt_tx9 (c : Nat → Int) (hc : ∀ i, 0 ≤ c i ∧ c i < 256) {i : Nat} (hi : i < 9) : byteAt (tx9 c) i = c i := by
  rw [← u8_back (hc i)]
  unfold byteAt
  obtain rfl | rfl | rfl | rfl | rfl | rfl | rfl | rfl | rfl : i = 0 ∨ i = 1 ∨ i = 2 ∨ i = 3 ∨ i = 4 ∨ i = 5 ∨ i = 6 ∨ i = 7 ∨ i = 8 := by omega
  all_goals rfl
theorem tx9_byteAt (s : ByteArray) (h : s.size = 9) : tx9 (byteAt s) = s := by
  obtain ⟨⟨l⟩⟩ := s
  have hl : l.length = 9 := h
  obtain ⟨x0, x1, x2, x3, x4, x5, x6, x7, x8, rfl⟩ : ∃ x0 x1 x2 x3 x4 x5 x6 x7 x8, l = [x0, x1, x2, x3, x4, x5, x6, x7, x8] := by
    match l, hl with
    | [x0, x1, x2, x3, x4, x5, x6, x7, x8], _ => exact ⟨x0, x1, x2, x3, x4, x5, x6, x7, x8, rfl⟩
  have e : ∀ x : UInt8, UInt8.ofNat ((x.toNat : Int).toNat) = x := fun x => by simp
  show (⟨[UInt8.ofNat ((x0.toNat : Int).toNat), UInt8.ofNat ((x1.toNat : Int).toNat), UInt8.ofNat ((x2.toNat : Int).toNat), UInt8.ofNat ((x3.toNat : Int).toNat), UInt8.ofNat ((x4.toNat : Int).toNat), UInt8.ofNat ((x5.toNat : Int).toNat), UInt8.ofNat ((x6.toNat : Int).toNat), UInt8.ofNat ((x7.toNat : Int).toNat), UInt8.ofNat ((x8.toNat : Int).toNat)].toArray⟩ : ByteArray) = _
  rw [e, e, e, e, e, e, e, e, e]
theorem tx9_ext {c d : Nat → Int} (h : ∀ i, i < 9 → c i = d i) : tx9 c = tx9 d := by
  unfold tx9
  rw [h 0 (by omega), h 1 (by omega), h 2 (by omega), h 3 (by omega), h 4 (by omega), h 5 (by omega), h 6 (by omega), h 7 (by omega), h 8 (by omega)]
theorem isLet_lett {k : Nat} (h : k < 23) : isLet (lett k) = true := (isLet_iff _ (lett_bd k).1 (lett_bd k).2).2 ⟨k, h, rfl⟩
theorem dg_digit (d : Nat) (h : d < 10) : dg (48 + (d : Int)) = d := by unfold dg; omega
/-- a number's text is read back -/
theorem read_num (N : Nat) (h : N < 100000000) : shp (tx9 (numC N)) = true ∧ rgt (tx9 (numC N)) = true ∧ valD (byteAt (tx9 (numC N))) 8 = N := by
  have hb : ∀ i, i < 9 → byteAt (tx9 (numC N)) i = numC N i := fun i hi => byteAt_tx9 _ (numC_bd N) hi
  have hb8 : ∀ i, i < 8 → byteAt (tx9 (numC N)) i = 48 + (digN N i : Int) := fun i hi => by rw [hb i (by omega)]; unfold numC; rw [if_pos hi]
  have hw : wsum (byteAt (tx9 (numC N))) 8 = wsum (partC N 0) 8 := wsum_ext 8 fun i hi => by rw [hb8 i hi]; unfold partC; rw [if_pos ⟨by omega, hi⟩]
  have hl : numC N 8 = lett ((wsum (partC N 0) 8) % 23).toNat := by unfold numC; rw [if_neg (by omega)]
  have hd : digs (byteAt (tx9 (numC N))) 8 = true := (digs_iff _ _).2 fun i hi => by rw [hb8 i hi]; have := digN_lt N i; omega
  refine ⟨?_, ?_, ?_⟩
  · unfold shp
    rw [hd, hb 8 (by omega), hl, isLet_lett (by omega)]
    rfl
  · unfold rgt
    rw [hw, hb 8 (by omega), hl]
    simp
  · simp only [valD]
    rw [hb8 0 (by omega), hb8 1 (by omega), hb8 2 (by omega), hb8 3 (by omega), hb8 4 (by omega), hb8 5 (by omega), hb8 6 (by omega), hb8 7 (by omega)]
    rw [dg_digit _ (digN_lt _ _), dg_digit _ (digN_lt _ _), dg_digit _ (digN_lt _ _), dg_digit _ (digN_lt _ _), dg_digit _ (digN_lt _ _), dg_digit _ (digN_lt _ _), dg_digit _ (digN_lt _ _), dg_digit _ (digN_lt _ _)]
    show (10 * (10 * (10 * (10 * (10 * (10 * (10 * (10 * 0 + ((N / 10000000 % 10 : Nat) : Int)) + ((N / 1000000 % 10 : Nat) : Int)) + ((N / 100000 % 10 : Nat) : Int)) + ((N / 10000 % 10 : Nat) : Int)) + ((N / 1000 % 10 : Nat) : Int)) + ((N / 100 % 10 : Nat) : Int)) + ((N / 10 % 10 : Nat) : Int)) + ((N / 1 % 10 : Nat) : Int)) = (N : Int)
    omega
theorem parse_num (N : Nat) (h : N < 100000000) : prE (tx9 (numC N)) = 0 ∧ prV (tx9 (numC N)) = N := by
  obtain ⟨h1, h2, h3⟩ := read_num N h
  unfold prE prV
  rw [if_pos h1, if_pos h1, if_pos h2, if_pos h2]
  exact ⟨rfl, h3⟩
/-- the text of what was read -/
theorem text_back (s : ByteArray) (h : prE s = 0) : ∃ N : Nat, N < 100000000 ∧ prV s = N ∧ tx9 (numC N) = s := by
  have hs : shp s = true := by cases e : shp s; · unfold prE at h; rw [e] at h; simp at h
                               · rfl
  have hr : rgt s = true := by cases e : rgt s; · unfold prE at h; rw [hs, e] at h; simp at h
                               · rfl
  have hs' := hs
  unfold shp at hs'
  rw [Bool.and_eq_true, Bool.and_eq_true, decide_eq_true_eq] at hs'
  obtain ⟨h9, hd, -⟩ := hs'
  have hv : prV s = valD (byteAt s) 8 := by unfold prV; rw [if_pos hs, if_pos hr]
  have hb := valD_bd (byteAt s) hd (show 8 ≤ 8 by omega)
  obtain ⟨N, hN⟩ := Int.eq_ofNat_of_zero_le hb.1
  refine ⟨N, by omega, by rw [hv, hN], ?_⟩
  have hdi := (digs_iff _ _).1 hd
  have key : ∀ i, i < 8 → numC N i = byteAt s i := by
    have e0 := hdi 0 (by omega)
    have e1 := hdi 1 (by omega)
    have e2 := hdi 2 (by omega)
    have e3 := hdi 3 (by omega)
    have e4 := hdi 4 (by omega)
    have e5 := hdi 5 (by omega)
    have e6 := hdi 6 (by omega)
    have e7 := hdi 7 (by omega)
    simp only [valD, dg] at hN
    intro i hi
    unfold numC digN
    rw [if_pos hi]
    obtain rfl | rfl | rfl | rfl | rfl | rfl | rfl | rfl : i = 0 ∨ i = 1 ∨ i = 2 ∨ i = 3 ∨ i = 4 ∨ i = 5 ∨ i = 6 ∨ i = 7 := by omega
    · show 48 + ((N / 10000000 % 10 : Nat) : Int) = byteAt s 0; omega
    · show 48 + ((N / 1000000 % 10 : Nat) : Int) = byteAt s 1; omega
    · show 48 + ((N / 100000 % 10 : Nat) : Int) = byteAt s 2; omega
    · show 48 + ((N / 10000 % 10 : Nat) : Int) = byteAt s 3; omega
    · show 48 + ((N / 1000 % 10 : Nat) : Int) = byteAt s 4; omega
    · show 48 + ((N / 100 % 10 : Nat) : Int) = byteAt s 5; omega
    · show 48 + ((N / 10 % 10 : Nat) : Int) = byteAt s 6; omega
    · show 48 + ((N / 1 % 10 : Nat) : Int) = byteAt s 7; omega
  refine Eq.trans (tx9_ext fun i hi => ?_) (tx9_byteAt s h9)
  by_cases h8 : i < 8
  · exact key i h8
  · obtain rfl : i = 8 := by omega
    unfold numC
    rw [if_neg (by omega)]
    have hw : wsum (partC N 0) 8 = wsum (byteAt s) 8 := wsum_ext 8 fun i hi => by
      have := key i hi
      unfold numC at this
      rw [if_pos hi] at this
      unfold partC
      rw [if_pos ⟨by omega, hi⟩]
      exact this
    rw [hw]
    unfold rgt at hr
    exact (eq_of_beq hr).symm
end Go.Proofs.Ytlionhmmefghmaa
