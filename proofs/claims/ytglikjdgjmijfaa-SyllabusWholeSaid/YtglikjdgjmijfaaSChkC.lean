/-
  Check: the program's components, and Check whole.
-/
import Derived.Test.YtglikjdgjmijfaaSChk
namespace Go.Proofs.Ytglikjdgjmijfaa
open Go.RowKit
set_option linter.unusedSimpArgs false
set_option linter.unusedVariables false

def ComAt (tn : Nat → ByteArray) (cw cm : Nat → Int) (n : Nat) (w : World) (v i : Value) (wr : World) : Prop :=
  ∃ k : Nat, i = .int .i64 k ∧ k ≤ n ∧ Hid (firstE (comE tn cw cm) k = 0) ∧ Hid (wr.ownsRow w.heap.size 9 1 v k (strCells tn k)) ∧ Hid (Below w.heap.size w wr)
set_option maxRecDepth 100000 in
set_option maxHeartbeats 4000000 in
theorem checkCom_any (o : Option Addr) (n c : Nat) (tn : Nat → ByteArray) (cw cm : Nat → Int) (w : World) (hs : RowC w w.heap.size o n tn cw cm) (hn : n ≤ 16) :
    Calls Try.prog 41 #[.slice o n c] w fun e w' => e = .returned (.int .i64 (firstE (comE tn cw cm) n)) ∧ Below w.heap.size w w' := by
  have HS := Lib.hid hs
  clear hs
  obtain ⟨i0, hi0, hz0, hz1, hz2⟩ := info_parts string_info
  go_enter Try.func41, Try.ntmps41
  go_wp2_with fail
  go_loopw [3, 9] (fun v i wr => ComAt tn cw cm n w v i wr) (fun _ i _ => n - (intOf i).toNat)
  case atStart => exact ⟨0, rfl, Nat.zero_le _, Lib.hid rfl, Lib.hid (World.ownsRow_nil _ _ _ _), Lib.hid (Below.refl _ _)⟩
  case round =>
    obtain ⟨k, rfl, hk, HD, HO, HB⟩ := hrel
    by_cases hkn : k < n
    · have hkn' : (k : Int) < (n : Int) := by omega
      obtain ⟨b, off, rfl, hbB, h0, h1, h2⟩ := HS.out.below HB.out (Nat.le_refl _) k hkn
      have HOL := HO.out
      obtain ⟨oe, ce, rfl, hce, hcm, hrow⟩ := strRow_own HOL
      have HR := Lib.hid hrow
      clear HOL hrow
      have HT := Lib.hid (show comE tn cw cm k = if nmE tn k = 0 then (if cw k < 0 ∨ 1000 < cw k ∨ cm k < 1 ∨ 200 < cm k then 2 else 0) else nmE tn k from rfl)
      have HNM := Lib.hid (nameE_nm tn k)
      have HBB := Lib.hid HB.out.size
      have HCN := Lib.hid (fun W (hb : Below wr.heap.size wr W) => checkName_any (tn k) oe k ce wr.heap.size tn W (HR.out.below hb (Nat.le_refl _)) (by omega))
      rw [HNM.out] at HCN
      have HW := Lib.hid (show Below wr.heap.size wr (wr.alloc (.cells #[.string (tn k), .int .i64 (cw k), .int .i64 (cm k)] 38)) from bAl (Below.refl _ _) _)
      by_cases he : nmE tn k = 0
      · rw [he] at HCN
        rw [if_pos he] at HT
        clear he HNM
        have HSN := Lib.hid (strCells_snoc tn k)
        generalize hx : tn k = x at h0 HW HCN HSN
        generalize hy : cw k = y at h1 HW HT
        generalize hz : cm k = z at h2 HW HT
        by_cases hbad : y < 0 ∨ 1000 < y ∨ z < 1 ∨ 200 < z
        · have HF := Lib.hid (show firstE (comE tn cw cm) n = 2 by rw [firstE_stop HD.out (by rw [HT.out, if_pos hbad]; decide) hkn, HT.out, if_pos hbad])
          clear HT
          have hcases : y < 0 ∨ (¬ y < 0 ∧ 1000 < y) ∨ (¬ y < 0 ∧ ¬ 1000 < y ∧ z < 1) ∨ (¬ y < 0 ∧ ¬ 1000 < y ∧ ¬ z < 1 ∧ 200 < z) := by omega
          clear hbad
          rcases hcases with ha | ⟨ha, hb⟩ | ⟨ha, hb, hc⟩ | ⟨ha, hb, hc, hd⟩
          all_goals
            go_wp2_with (go_at_call 61; refine (HCN.out _ HW.out).mono ?_; rintro e w' ⟨rfl, rfl⟩)
            exact bodyPost_ret (v := .int .i64 2) (by simp [results, Try.results41, go_sem]) rfl ⟨ret_int HF.out.symm, bTr HB.out HW.out⟩
        · have HG0 := Lib.hid (show comE tn cw cm k = 0 by rw [HT.out, if_neg hbad])
          have ha : ¬ y < 0 := by omega
          have hb : ¬ 1000 < y := by omega
          have hc' : ¬ z < 1 := by omega
          have hd : ¬ 200 < z := by omega
          clear hbad HT
          have HG := Lib.hid (show firstE (comE tn cw cm) (k + 1) = 0 from firstE_go HD.out HG0.out)
          have hl := strCells_len tn k
          go_wp2_with (first | (go_at_call 61; refine (HCN.out _ HW.out).mono ?_; rintro e w' ⟨rfl, rfl⟩) | (at_builtin; refine wpList_append_own_at _ rfl (.tmp 38) (.tmp 41) 24 rfl w.heap.size 9 i0 (.string ⟨#[]⟩) 1 16 Try.underlying24 hi0 hz0 hz1 hz2 rfl (by decide) _ _ _ rfl (own_later HO.out (bAl HW.out _)) ⟨wr.heap.size + 1, 0, none⟩ 1 1 [.string x] rfl rfl ?c1 ?c2 ?c3 ?c4 ?c5 ?_; (case c1 => exact cell_one_new' _ (by simp) _ _); (case c2 => intro u hu; simp at hu; subst hu; rfl); (case c3 => unfold maxLen; omega); (case c4 => omega); (case c5 => have h1 := HBB.out; simp; omega); intro v' w3 hown3 hgrow hnil hat; rw [← HSN.out] at hown3))
          go_roundw
          case rel => exact ⟨k + 1, by go_num, by omega, HG, Lib.hid hown3, Lib.hid ((bAl (bTr HB.out HW.out) _).grown hgrow (by have h1 := HBB.out; simp; omega) (fun j hj => (HO.out.lt j hj).1))⟩
          case measure => simp [intOf]; omega
      · have HF := Lib.hid (show firstE (comE tn cw cm) n = nmE tn k by rw [firstE_stop HD.out (by rw [HT.out, if_neg he]; exact he) hkn, HT.out, if_neg he])
        generalize nmE tn k = z at HCN HF he
        have he' : (z != 0) = true := by rw [bne_iff_ne]; exact he
        clear he HT HNM
        generalize tn k = x at h0 HW HCN
        generalize cw k = y at h1 HW
        generalize cm k = y2 at h2 HW
        go_wp2_with (go_at_call 61; refine (HCN.out _ HW.out).mono ?_; rintro e w' ⟨rfl, rfl⟩)
        exact bodyPost_ret (v := .int .i64 z) (by simp [results, Try.results41, go_sem]) rfl ⟨ret_int HF.out.symm, bTr HB.out HW.out⟩
    · obtain rfl : k = n := by omega
      go_wp2_with fail
      exact bodyPost_ret (v := .int .i64 0) (by simp [results, Try.results41, go_sem]) rfl ⟨ret_int HD.out.symm, HB.out⟩
end Go.Proofs.Ytglikjdgjmijfaa
