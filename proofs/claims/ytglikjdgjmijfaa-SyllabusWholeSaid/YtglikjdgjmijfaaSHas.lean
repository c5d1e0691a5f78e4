/-
  Is there such a topic?
-/
import Derived.Test.YtglikjdgjmijfaaRCheck
import Derived.Test.YtglikjdgjmijfaaSPath
namespace Go.Proofs.Ytglikjdgjmijfaa
open Go.RowKit
set_option linter.unusedSimpArgs false
set_option linter.unusedVariables false

def Syl.has (S : Syl) (t : Int) : Bool := decide (S.chk = 0 ∧ 0 ≤ t ∧ t < (S.nT : Int))
theorem Syl.has_yes {S : Syl} {t : Int} (h : S.has t = true) : ∃ k : Nat, t = k ∧ k < S.nT ∧ Fst S.tp S.nT ∧ S.nT ≤ 16 := by
  obtain ⟨h1, h2, h3⟩ := of_decide_eq_true h
  obtain ⟨a, _, _, b, _⟩ := S.ok h1
  exact ⟨t.toNat, by omega, by omega, b, a⟩
set_option maxRecDepth 100000 in
set_option maxHeartbeats 2000000 in
theorem hasTopic_any (p : Ptr) (S : Syl) (t : Int) (w : World) (hs : SylIn w w.heap.size p S) :
    Calls Try.prog 43 #[.agg (sylC p S), .int .i64 t] w fun e w' => e = .returned (.bool (S.has t)) ∧ Below w.heap.size w w' := by
  have HC := Lib.hid (fun W (hb : Below w.heap.size w W) => check_any p S W (hs.later hb))
  have HD := Lib.hid (show S.has t = decide (S.chk = 0 ∧ 0 ≤ t ∧ t < (S.nT : Int)) from rfl)
  generalize S.has t = d at HD ⊢
  generalize S.chk = x at HC HD
  have hnT : Hid (S.nT = S.nT) := rfl
  clear hs
  obtain ⟨o1, c1, o2, c2, o3, c3⟩ := p
  obtain ⟨nT, tn, tp, nO, on, nC, cn, cw, cm⟩ := S
  unfold sylC at HC ⊢
  dsimp only at HC HD ⊢
  clear hnT
  have HB := Lib.hid (bAl (Below.refl _ w) (.cells #[.slice o1 nT c1, .slice o2 nO c2, .slice o3 nC c3] 27))
  have P0 : Hid (Blk (w.alloc (.cells #[.slice o1 nT c1, .slice o2 nO c2, .slice o3 nC c3] 27)) w.heap.size 27 #[.slice o1 nT c1, .slice o2 nO c2, .slice o3 nC c3]) := Lib.hid (Blk.newAt rfl)
  by_cases h0 : x = 0
  · subst h0
    by_cases h1 : 0 ≤ t
    · have HDD := Lib.hid (show decide (t < (nT : Int)) = d by rw [HD.out, decide_eq_decide]; simp [h1])
      clear HD
      go_enter Try.func43, Try.ntmps43
      go_wp2_with (go_at_call 13; refine (HC.out _ HB.out).mono ?_; rintro e w7 ⟨rfl, hb⟩; have HF := Lib.hid (bTr HB.out hb); have z0 : w7.cell? ⟨w.heap.size, 0, none⟩ = some (.slice o1 nT c1) := (P0.out.later hb).cell 0; clear hb)
      go_ret
      exact ⟨ret_bool HDD.out, HF.out⟩
    · have HDD := Lib.hid (show false = d by rw [HD.out]; exact (decide_eq_false (by omega)).symm)
      clear HD
      go_enter Try.func43, Try.ntmps43
      go_wp2_with (go_at_call 13; refine (HC.out _ HB.out).mono ?_; rintro e w7 ⟨rfl, hb⟩; have HF := Lib.hid (bTr HB.out hb); clear hb)
      go_ret
      exact ⟨ret_bool HDD.out, HF.out⟩
  · have HDD := Lib.hid (show false = d by rw [HD.out]; exact (decide_eq_false (by omega)).symm)
    have h0' : (x == 0) = false := by rw [beq_eq_false_iff_ne]; exact h0
    clear HD h0
    go_enter Try.func43, Try.ntmps43
    go_wp2_with (go_at_call 13; refine (HC.out _ HB.out).mono ?_; rintro e w7 ⟨rfl, hb⟩; have HF := Lib.hid (bTr HB.out hb); clear hb)
    go_ret
    exact ⟨ret_bool HDD.out, HF.out⟩
set_option maxRecDepth 100000 in
set_option maxHeartbeats 2000000 in
theorem topic_any (p : Ptr) (S : Syl) (t : Int) (w : World) (hs : SylIn w w.heap.size p S) :
    Calls Try.prog 46 #[.agg (sylC p S), .int .i64 t] w fun e w' => e = .returned (.bool (S.has t)) ∧ Below w.heap.size w w' := by
  have HC := Lib.hid (fun W (hb : Below w.heap.size w W) => rcheck_any p S W (hs.later hb))
  have HD := Lib.hid (show S.has t = decide (S.chk = 0 ∧ 0 ≤ t ∧ t < (S.nT : Int)) from rfl)
  generalize S.has t = d at HD ⊢
  generalize S.chk = x at HC HD
  have hnT : Hid (S.nT = S.nT) := rfl
  clear hs
  obtain ⟨o1, c1, o2, c2, o3, c3⟩ := p
  obtain ⟨nT, tn, tp, nO, on, nC, cn, cw, cm⟩ := S
  unfold sylC at HC ⊢
  dsimp only at HC HD ⊢
  clear hnT
  have HB := Lib.hid (bAl (Below.refl _ w) (.cells #[.slice o1 nT c1, .slice o2 nO c2, .slice o3 nC c3] 27))
  have P0 : Hid (Blk (w.alloc (.cells #[.slice o1 nT c1, .slice o2 nO c2, .slice o3 nC c3] 27)) w.heap.size 27 #[.slice o1 nT c1, .slice o2 nO c2, .slice o3 nC c3]) := Lib.hid (Blk.newAt rfl)
  by_cases h0 : x = 0
  · subst h0
    by_cases h1 : 0 ≤ t
    · have HDD := Lib.hid (show decide (t < (nT : Int)) = d by rw [HD.out, decide_eq_decide]; simp [h1])
      clear HD
      go_enter Try.func46, Try.ntmps46
      go_wp2_with (go_at_call 14; refine (HC.out _ HB.out).mono ?_; rintro e w7 ⟨rfl, hb⟩; have HF := Lib.hid (bTr HB.out hb); have z0 : w7.cell? ⟨w.heap.size, 0, none⟩ = some (.slice o1 nT c1) := (P0.out.later hb).cell 0; clear hb)
      go_ret
      exact ⟨ret_bool HDD.out, HF.out⟩
    · have HDD := Lib.hid (show false = d by rw [HD.out]; exact (decide_eq_false (by omega)).symm)
      clear HD
      go_enter Try.func46, Try.ntmps46
      go_wp2_with (go_at_call 14; refine (HC.out _ HB.out).mono ?_; rintro e w7 ⟨rfl, hb⟩; have HF := Lib.hid (bTr HB.out hb); clear hb)
      go_ret
      exact ⟨ret_bool HDD.out, HF.out⟩
  · have HDD := Lib.hid (show false = d by rw [HD.out]; exact (decide_eq_false (by omega)).symm)
    have h0' : (x == 0) = false := by rw [beq_eq_false_iff_ne]; exact h0
    clear HD h0
    go_enter Try.func46, Try.ntmps46
    go_wp2_with (go_at_call 14; refine (HC.out _ HB.out).mono ?_; rintro e w7 ⟨rfl, hb⟩; have HF := Lib.hid (bTr HB.out hb); clear hb)
    go_ret
    exact ⟨ret_bool HDD.out, HF.out⟩
end Go.Proofs.Ytglikjdgjmijfaa
