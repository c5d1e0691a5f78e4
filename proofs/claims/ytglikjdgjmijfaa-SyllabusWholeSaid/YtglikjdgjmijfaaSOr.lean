/-
  cmp.Or of three errors; a text among others.
-/
import Derived.Test.YtglikjdgjmijfaaSName
import Derived.Test.YtglikjdgjmijfaaSRow
namespace Go.Proofs.Ytglikjdgjmijfaa
open Go.RowKit
set_option linter.unusedSimpArgs false
set_option linter.unusedVariables false

theorem orE_0 {b : Int} : orE 0 b = b := rfl
theorem orE_n {a b : Int} (h : a ≠ 0) : orE a b = a := if_neg h
set_option maxHeartbeats 1000000 in
theorem or_three (a b c : Int) (g : Nat) (w : World) (h0 : w.cell? ⟨g, 0, none⟩ = some (.int .i64 a)) (h1 : w.cell? ⟨g, 1, none⟩ = some (.int .i64 b)) (h2 : w.cell? ⟨g, 2, none⟩ = some (.int .i64 c)) :
    Calls Try.prog 38 #[.slice (some ⟨g, 0, none⟩) 3 3] w fun e w' => e = .returned (.int .i64 (orE a (orE b c))) ∧ w' = w := by
  by_cases ha : a = 0
  · subst ha
    rw [orE_0]
    by_cases hb : b = 0
    · subst hb
      rw [orE_0]
      by_cases hc : c = 0
      · subst hc
        go_enter Try.func38, Try.ntmps38
        go_wp2
        refine wp_loop_rounds 4 ?_
        rw [rounds_succ]
        go_wp2
        rw [rounds_succ]
        go_wp2
        rw [rounds_succ]
        go_wp2
        rw [rounds_succ]
        go_wp2
        go_ret
        exact ⟨rfl, rfl⟩
      · have hb' : (c != 0) = true := by rw [bne_iff_ne]; exact hc
        clear hc
        go_enter Try.func38, Try.ntmps38
        go_wp2
        refine wp_loop_rounds 3 ?_
        rw [rounds_succ]
        go_wp2
        rw [rounds_succ]
        go_wp2
        rw [rounds_succ]
        go_wp2
        go_ret
        exact ⟨rfl, rfl⟩
    · rw [orE_n hb]
      have hb' : (b != 0) = true := by rw [bne_iff_ne]; exact hb
      clear hb
      go_enter Try.func38, Try.ntmps38
      go_wp2
      refine wp_loop_rounds 2 ?_
      rw [rounds_succ]
      go_wp2
      rw [rounds_succ]
      go_wp2
      go_ret
      exact ⟨rfl, rfl⟩
  · rw [orE_n ha]
    have hb' : (a != 0) = true := by rw [bne_iff_ne]; exact ha
    clear ha
    go_enter Try.func38, Try.ntmps38
    go_wp2
    refine wp_loop_rounds 1 ?_
    rw [rounds_succ]
    go_wp2
    go_ret
    exact ⟨rfl, rfl⟩

def IdxR (b : Bool) (w : World) (e : Ending) (w' : World) : Prop := ∃ r : Int, e = .returned (.int .i64 r) ∧ decide (0 ≤ r) = b ∧ w' = w
set_option maxHeartbeats 1000000 in
theorem index_str (o : Option Addr) (n c B : Nat) (nm : Nat → ByteArray) (x : ByteArray) (w : World) (hs : RowStr w B o n nm) (hn : n ≤ 1000000) :
    Calls Try.prog 82 #[.slice o n c, .string x] w (IdxR (hasS nm x n) w) := by
  have HS := Lib.hid hs
  clear hs
  have HX := Lib.hid (show x = x from rfl)
  go_enter Try.func82, Try.ntmps82
  go_wp2_with fail
  go_loopw [8] (fun i wr => ∃ k : Nat, i = .int .i64 k ∧ k ≤ n ∧ Hid (hasS nm x k = false) ∧ wr = w) (fun i _ => n - (intOf i).toNat)
  case atStart => exact ⟨0, rfl, Nat.zero_le _, Lib.hid rfl, rfl⟩
  case round =>
    obtain ⟨k, rfl, hk, HD, rfl⟩ := hrel
    by_cases hkn : k < n
    · have hkn' : (k : Int) < (n : Int) := by omega
      obtain ⟨b, off, rfl, hbB, hc⟩ := HS.out k hkn
      by_cases he : eqS x (nm k) = true
      · have HF := Lib.hid (show hasS nm x n = true from hasS_yes (by rw [eqS_comm]; exact he) hkn)
        have he' : (x.toList == (nm k).toList) = true := he
        generalize nm k = y at hc he'
        clear he
        go_wp2_with fail
        exact bodyPost_ret (v := .int .i64 (k : Int)) (by simp [results, Try.results82, go_sem]) rfl ⟨(k : Int), rfl, by rw [HF.out]; exact decide_eq_true (by omega), rfl⟩
      · have he1 : eqS x (nm k) = false := by simpa using he
        have HD2 := Lib.hid (show hasS nm x (k + 1) = false by show (hasS nm x k || eqS (nm k) x) = false; rw [HD.out, eqS_comm, he1]; rfl)
        have he' : (x.toList == (nm k).toList) = false := he1
        clear he he1
        generalize nm k = y at hc he'
        go_wp2_with fail
        go_roundw
        case rel => exact ⟨k + 1, by go_num, by omega, HD2, trivial⟩
        case measure => simp [intOf]; omega
    · obtain rfl : k = n := by omega
      have HT := HD
      go_wp2_with fail
      exact bodyPost_ret (v := .int .i64 (-1)) (by simp [results, Try.results82, go_sem]) rfl ⟨-1, rfl, by rw [HT.out]; rfl, rfl⟩
end Go.Proofs.Ytglikjdgjmijfaa
