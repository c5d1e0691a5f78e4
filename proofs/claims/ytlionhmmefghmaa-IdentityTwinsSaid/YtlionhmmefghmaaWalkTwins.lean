/-
  The walk of the statement that changed twins are detected.
-/
import Derived.Test.YtlionhmmefghmaaTwinMath
import Derived.Test.YtlionhmmefghmaaQuietB
namespace Go.Proofs.Ytlionhmmefghmaa
open Go.RowKit
set_option linter.unusedSimpArgs false
set_option linter.unusedVariables false
set_option maxRecDepth 100000

set_option maxHeartbeats 4000000 in
theorem walkIdentityTwins (a0 a1 a2 : Int) (l0 : -9223372036854775808 ≤ a0) (u0 : a0 < 9223372036854775808) (l1 : -9223372036854775808 ≤ a1) (u1 : a1 < 9223372036854775808) (l2 : -9223372036854775808 ≤ a2) (u2 : a2 < 9223372036854775808) (w : World) :
    Calls Try.prog 11 #[.int .i64 a0, .int .i64 a1, .int .i64 a2] w fun e w' => e = .returned (.bool true) ∧ Below w.heap.size w w' := by
  go_enter Try.func11, Try.ntmps11
  go_wp2_with fail
  refine (cut_any a1 7 (by omega) (by omega) _).mono ?_
  rintro e w' ⟨rfl, rfl⟩
  have hm0 : 0 ≤ a1 % 7 ∧ a1 % 7 < 7 := by omega
  generalize a1 % 7 = m0 at hm0 ⊢
  obtain ⟨i, rfl⟩ := Int.eq_ofNat_of_zero_le hm0.1
  go_wp2_with fail
  refine (cut_any a2 10 (by omega) (by omega) _).mono ?_
  rintro e w' ⟨rfl, rfl⟩
  have hm1 : 0 ≤ a2 % 10 ∧ a2 % 10 < 10 := by omega
  generalize a2 % 10 = d at hm1 ⊢
  go_wp2_with fail
  refine (number_any a0 (by omega) _).mono ?_
  rintro e w1 ⟨rfl, hb⟩
  have HB := Lib.hid hb
  clear hb
  have hz : (numS a0).size = 9 := numS_size a0
  obtain ⟨N, hN, hNN⟩ : ∃ N : Nat, N < 100000000 ∧ numS a0 = tx9 (numC N) := ⟨_, by omega, rfl⟩
  rw [hNN] at hz ⊢
  have HX : Hid (∀ i, i < 9 → byteAt (tx9 (numC N)) i = numC N i) := Lib.hid fun i hi => byteAt_tx9 _ (numC_bd N) hi
  generalize tx9 (numC N) = X at HX hz ⊢
  obtain ⟨w2, cap, hrun, hcap, RB, HW, hlt⟩ := bytes_of X hz w1
  have HB2 := Lib.hid (HW.out _ _ HB.out HB.out.size)
  have hgb := HB.out.size
  clear HW HB
  have RC : Hid (RowB w2 w1.heap.size (numC N)) := Lib.hid fun j hj => by have := RB.out j hj; rwa [HX.out j hj] at this
  clear RB
  have hi7 : i < 7 := by omega
  have hi8 : (i : Int) + 1 < 9 := by omega
  have y0 := (RC.out i (by omega)).1
  have y1 := (RC.out (i + 1) (by omega)).1
  have f1 := (RC.out (i + 1) (by omega)).2
  have do_ := num_digit N (show i < 8 by omega)
  have hT := twins_bad N hi7 (x := 48 + d) (by omega)
  have hc1 := upd_bd (numC_bd N) (i + 1) (numC_bd N i)
  have hd1 : digs (upd (numC N) (i + 1) (numC N i)) 8 = true := (digs_iff _ _).2 fun j hj => by
    unfold upd
    split
    · exact do_
    · exact num_digit N hj
  have RS : RowB (w2.setCell ⟨w1.heap.size, i + 1, none⟩ (.int .u8 (numC N i))) w1.heap.size (upd (numC N) (i + 1) (numC N i)) := RC.out.set_ (show i + 1 < 9 by omega) (numC N i)
  have e0 : upd (numC N) (i + 1) (numC N i) i = numC N i := upd_other _ _ (by omega)
  have e1 : upd (numC N) (i + 1) (numC N i) (i + 1) = numC N i := upd_same _ _ _
  have ht8 := text_row8 _ _ cap _ hc1 RS
  have HB3 := Lib.hid (bSt HB2.out (p := ⟨w1.heap.size, i + 1, none⟩) hgb (.int .u8 (numC N i)))
  obtain ⟨hl1, hl2⟩ := letter_tx8 _ hc1 hd1
  have hadd := tx8_add (upd (upd (upd (numC N) (i + 1) (numC N i)) i (48 + d)) (i + 1) (48 + d)) (lsum (upd (numC N) (i + 1) (numC N i)))
  have hlt3 : w1.heap.size < (w2.setCell ⟨w1.heap.size, i + 1, none⟩ (.int .u8 (numC N i))).heap.size := by simpa using hlt
  generalize hw3 : (w2.setCell ⟨w1.heap.size, i + 1, none⟩ (.int .u8 (numC N i))) = w3 at RS HB3 ht8 hlt3
  generalize numC N i = o at *
  generalize hC1 : upd (numC N) (i + 1) o = c1 at *
  have HR := Lib.hid RS
  clear RS
  go_wp2_with fail
  refine (letterOf_any _ _).mono ?_
  rintro e w4 ⟨rfl, hb⟩
  rw [hl1, hl2]
  have HB4 := Lib.hid (bTr HB3.out hb)
  have R4 := Lib.hid (HR.out.later hlt3 hb)
  clear hb HB3 HR hw3 y0 y1 f1 ht8 hl1 hl2 hlt3 HB2 RC hrun
  have y0 := (R4.out i (by omega)).1
  have y1 := (R4.out (i + 1) (by omega)).1
  have f0 := (R4.out i (by omega)).2
  have f1 := (R4.out (i + 1) (by omega)).2
  rw [e0] at y0
  rw [e1] at y1
  by_cases he : o = 48 + d
  · have ho : o - 48 = d := by omega
    go_wp2_with fail
    refine (awake_any _).mono ?_
    rintro e w5 ⟨rfl, hb⟩
    go_wp2_with fail
    go_ret
    exact ⟨rfl, bTr HB4.out hb⟩
  · have hP := hT he
    have hbf : (o - 48 == d) = false := beq_eq_false_iff_ne.2 (by omega)
    have RS : RowB ((w4.setCell ⟨w1.heap.size, i, none⟩ (.int .u8 (48 + d))).setCell ⟨w1.heap.size, i + 1, none⟩ (.int .u8 (48 + d))) w1.heap.size (upd (upd c1 i (48 + d)) (i + 1) (48 + d)) := (R4.out.set_ (show i < 9 by omega) (48 + d)).set_ (show i + 1 < 9 by omega) (48 + d)
    have ht8 := text_row8 _ _ cap _ (upd_bd (upd_bd hc1 i (by omega)) (i + 1) (by omega)) RS
    have hadd : tx8 (upd (upd c1 i (48 + d)) (i + 1) (48 + d)) ++ ⟨#[UInt8.ofNat (lsum c1).toNat]⟩ = tx9 (upd (upd (upd c1 i (48 + d)) (i + 1) (48 + d)) 8 (lsum c1)) := tx8_add _ _
    have hsz : (tx8 (upd (upd c1 i (48 + d)) (i + 1) (48 + d))).size = 8 := rfl
    have HB5 := Lib.hid (bSt (bSt HB4.out (p := ⟨w1.heap.size, i, none⟩) hgb (.int .u8 (48 + d))) (p := ⟨w1.heap.size, i + 1, none⟩) hgb (.int .u8 (48 + d)))
    clear RS hT
    go_wp2_with fail
    refine (parse_any _ _).mono ?_
    rintro e w5 ⟨rfl, hb⟩
    rw [hP]
    have HB6 := Lib.hid (bTr HB5.out hb)
    clear hb HB5 ht8
    go_wp2_with fail
    refine (awake_any _).mono ?_
    rintro e w6 ⟨rfl, hb⟩
    go_wp2_with fail
    go_ret
    exact ⟨rfl, bTr (bAl HB6.out _) hb⟩
end Go.Proofs.Ytlionhmmefghmaa
