/-
  The candidate number of an ID.
-/
import Derived.Test.YtlionhmmefghmaaNumB
import Derived.Lib.IndexLaws
import Derived.Lib.Bytealg
import Derived.Laws.Externs
import Derived.BigCall
import Derived.Deep.RegionHeld3
namespace Go.Proofs.Ytlionhmmefghmaa
open Go.RowKit
set_option linter.unusedSimpArgs false
set_option linter.unusedVariables false
set_option maxRecDepth 100000

/-- the digit at place i of the eight digits of N -/
def digN (N i : Nat) : Nat := N / 10 ^ (7 - i) % 10
/-- the bytes as they stand when the places from p on are written -/
def partC (N p i : Nat) : Int := if p ≤ i ∧ i < 8 then 48 + (digN N i : Int) else 0
/-- the bytes of the candidate number of N -/
def numC (N i : Nat) : Int := if i < 8 then 48 + (digN N i : Int) else lett ((wsum (partC N 0) 8) % 23).toNat
theorem digN_lt (N i : Nat) : digN N i < 10 := Nat.mod_lt _ (by omega)
theorem partC_bd (N p i : Nat) : 0 ≤ partC N p i ∧ partC N p i < 256 := by
  have := digN_lt N i
  unfold partC
  split <;> omega
theorem lett_bd (k : Nat) : 0 ≤ lett k ∧ lett k < 256 := by
  unfold lett
  have := (letA.getD k 0).toNat_lt
  omega
theorem numC_bd (N i : Nat) : 0 ≤ numC N i ∧ numC N i < 256 := by
  have := digN_lt N i
  unfold numC
  split
  · omega
  · exact lett_bd _
theorem digA_at (k : Nat) (h : k < (#[48, 49, 50, 51, 52, 53, 54, 55, 56, 57] : Array UInt8).size) : (((#[48, 49, 50, 51, 52, 53, 54, 55, 56, 57] : Array UInt8)[k]).toNat : Int) = 48 + (k : Int) := by
  have h' : k < 10 := h
  obtain rfl | rfl | rfl | rfl | rfl | rfl | rfl | rfl | rfl | rfl : k = 0 ∨ k = 1 ∨ k = 2 ∨ k = 3 ∨ k = 4 ∨ k = 5 ∨ k = 6 ∨ k = 7 ∨ k = 8 ∨ k = 9 := by omega
  all_goals rfl
set_option maxHeartbeats 4000000 in
theorem numberOf_any (a b d N : Nat) (ha : a ≤ 99) (hb : b ≤ 99) (hd : d ≤ 9999) (hN : N = a * 1000000 + b * 10000 + d) (w : World) :
    Calls Try.prog 28 #[.agg #[.int .i64 a, .int .i64 b, .int .i64 d]] w fun e w' => e = .returned (.agg (nine (numC N))) ∧ Below w.heap.size w w' := by
  obtain ⟨e1, e2⟩ : (a : Int) * 1000000 + (b : Int) * 10000 + (d : Int) = (N : Int) ∧ N < 100000000 := by omega
  clear hN
  go_enter Try.func28, Try.ntmps28
  go_wp2
  go_loopw [4, 5] (fun r i wr => ∃ (p : Nat), i = .int .i64 ((p : Int) - 1) ∧ p ≤ 8 ∧ r = .int .i64 ((N / 10 ^ (8 - p) : Nat) : Int) ∧ Hid (Blk wr (w.heap.size + 2) 43 (nine (partC N p))) ∧ Hid (Blk wr (w.heap.size + 1) 43 (nine fun _ => 0)) ∧ Hid (Below w.heap.size w wr)) (fun _ i _ => (intOf i + 1).toNat)
  case atStart => exact ⟨8, rfl, by omega, by simp, Lib.hid (by rw [show nine (partC N 8) = nine (fun _ => 0) from nine_ext (fun i _ => by unfold partC; rw [if_neg (by omega)])]; exact Blk.newAt (by simp)), Lib.hid (Blk.alloc (Blk.newAt (by simp)) _), Lib.hid (bAl (bAl (bAl (Below.refl _ _) _) _) _)⟩
  case round =>
    obtain ⟨p, rfl, hp, rfl, PN, PR, HB⟩ := hrel
    rcases Nat.eq_zero_or_pos p with rfl | hp0
    · obtain ⟨z0, z1, z2, z3, z4, z5, z6, z7, z8⟩ := PN.out.nine
      go_wp2_with fail
      refine (letter_any (partC N 0) (partC_bd N 0) _).mono ?_
      rintro e w2 ⟨rfl, hb9⟩
      have HB2 := Lib.hid (bTr HB.out hb9)
      have PN2 := Lib.hid (PN.out.later hb9)
      have PR2 := Lib.hid (PR.out.later hb9)
      clear z0 z1 z2 z3 z4 z5 z6 z7 z8 hb9
      obtain ⟨z0, z1, z2, z3, z4, z5, z6, z7, z8⟩ := PN2.out.nine
      have f8 := PN2.out.frozen 8
      obtain ⟨y0, y1, y2, y3, y4, y5, y6, y7, y8⟩ := PR2.out.nine
      have g0 := PR2.out.frozen 0
      have g1 := PR2.out.frozen 1
      have g2 := PR2.out.frozen 2
      have g3 := PR2.out.frozen 3
      have g4 := PR2.out.frozen 4
      have g5 := PR2.out.frozen 5
      have g6 := PR2.out.frozen 6
      have g7 := PR2.out.frozen 7
      have g8 := PR2.out.frozen 8
      have HV : Hid (nine (numC N) = #[.int .u8 (partC N 0 0), .int .u8 (partC N 0 1), .int .u8 (partC N 0 2), .int .u8 (partC N 0 3), .int .u8 (partC N 0 4), .int .u8 (partC N 0 5), .int .u8 (partC N 0 6), .int .u8 (partC N 0 7), .int .u8 (lett ((wsum (partC N 0) 8) % 23).toNat)]) := Lib.hid rfl
      go_wp2_with fail
      refine bodyPost_ret (v := .agg #[.int .u8 (partC N 0 0), .int .u8 (partC N 0 1), .int .u8 (partC N 0 2), .int .u8 (partC N 0 3), .int .u8 (partC N 0 4), .int .u8 (partC N 0 5), .int .u8 (partC N 0 6), .int .u8 (partC N 0 7), .int .u8 (lett ((wsum (partC N 0) 8) % 23).toNat)]) (by simp [results, Try.results28, go_sem, y0, y1, y2, y3, y4, y5, y6, y7, y8]) rfl ⟨by rw [HV.out], ?_⟩
      exact bSt (bSt (bSt (bSt (bSt (bSt (bSt (bSt (bSt (bSt HB2.out (by simp; omega) _) (by simp) _) (by simp) _) (by simp) _) (by simp) _) (by simp) _) (by simp) _) (by simp) _) (by simp) _) (by simp) _
    · obtain ⟨k, rfl⟩ : ∃ k, p = k + 1 := ⟨p - 1, by omega⟩
      have hk8 : k < 8 := by omega
      have hR : N / 10 ^ (8 - (k + 1)) < 1000000000 := Nat.lt_of_le_of_lt (Nat.div_le_self _ _) (by omega)
      have hD : N / 10 ^ (8 - (k + 1)) % 10 = digN N k := by unfold digN; rw [show 8 - (k + 1) = 7 - k by omega]
      have hR2 : N / 10 ^ (8 - (k + 1)) / 10 = N / 10 ^ (8 - k) := by rw [Nat.div_div_eq_div_mul, ← Nat.pow_succ, show (8 - (k + 1)).succ = 8 - k by omega]
      have hd10 := digN_lt N k
      generalize N / 10 ^ (8 - (k + 1)) = R at hR hD hR2 ⊢
      have HR2 := Lib.hid hR2
      have HS : Hid ((nine (partC N (k + 1))).setIfInBounds k (.int .u8 (48 + (digN N k : Int))) = nine (partC N k)) := Lib.hid (by
        rw [set_nine _ (by omega)]
        refine nine_ext fun i _ => ?_
        unfold partC
        by_cases hik : i = k
        · subst hik; rw [if_pos rfl, if_pos ⟨by omega, by omega⟩]
        · rw [if_neg hik]
          by_cases h : k + 1 ≤ i ∧ i < 8
          · rw [if_pos h, if_pos ⟨by omega, h.2⟩]
          · rw [if_neg h, if_neg (by omega)])
      generalize digN N k = D at hD hd10 HS
      have t1 : (R : Int) % 10 = (D : Int) := by omega
      have t2 : -9223372036854775808 ≤ (R : Int) / 10 ∧ (R : Int) / 10 ≤ 9223372036854775807 := by omega
      have t3 : ((k + 1 : Nat) : Int) - 1 = (k : Int) := by omega
      rw [t3]
      have hdA := digA_at D (show D < 10 by omega)
      have hn : wr.cell? ⟨w.heap.size + 2, k, none⟩ = some (.int .u8 (partC N (k + 1) k)) := (PN.out.cell k).trans (nine_at _ (by omega))
      have fn : wr.frozen? ⟨w.heap.size + 2, k, none⟩ = false := PN.out.frozen k
      clear hR2 hD
      go_wp2
      case roundEnd =>
        have e9 : ((({ data := #[48, 49, 50, 51, 52, 53, 54, 55, 56, 57] } : ByteArray)[D]).toNat : Int) = 48 + (D : Int) := hdA
        rw [e9]
        refine ⟨⟨k, rfl, by omega, by rw [← HR2.out]; simp, Lib.hid ?_, Lib.hid (PR.out.far (by simp) _), Lib.hid (bSt HB.out (by show w.heap.size ≤ w.heap.size + 1 + 1; omega) _)⟩, by simp [intOf]⟩
        have := PN.out.set_ k (.int .u8 (48 + (D : Int)))
        rwa [HS.out] at this
end Go.Proofs.Ytlionhmmefghmaa
