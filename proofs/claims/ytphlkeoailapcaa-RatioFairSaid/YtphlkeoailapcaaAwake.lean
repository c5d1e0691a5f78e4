/-
  Contracts on the road of the examples that every statement of layer 1 checks: the apportionment of 3 by 5, 3, 0.
-/
import Derived.Test.YtphlkeoailapcaaQuot
import Derived.LoopN
import Derived.RegionTactic
import Derived.BigRegion
namespace Go.Proofs.Ytphlkeoailapcaa
open Go.RowKit
set_option linter.unusedSimpArgs false
set_option linter.unusedVariables false

theorem quiet_add {P : Program} {f : FuncId} {args : Array Value} {w : World} {a n : Nat} {v : Value}
    (h : Calls P f args (w.drewN (a + n)) fun e w' => e = .returned v ∧ ∃ m, w' = (w.drewN (a + n)).drewN m) :
    Calls P f args (w.drewN (a + n)) fun e w'' => e = .returned v ∧ ∃ m, w'' = w.drewN (a + m) :=
  h.mono fun _ _ ⟨he, m, hm⟩ => ⟨he, n + m, by rw [hm, World.drewN_drewN, Nat.add_assoc]⟩

theorem cmpInt (x y : Int) (w : World) : Calls Try.prog 87 #[.int .i64 x, .int .i64 y] w fun e w' => e = .returned (.int .i64 (cmpI x y)) ∧ w = w' := by
  rcases Int.lt_trichotomy x y with h | h | h
  · have H := Lib.hid (show -1 = cmpI x y by unfold cmpI; rw [if_pos h])
    go_enter Try.func87, Try.ntmps87
    go_wp2
    go_ret
    exact ⟨ret_int H.out, rfl⟩
  · subst h
    have H := Lib.hid (show 0 = cmpI x x by unfold cmpI; rw [if_neg (by omega), if_neg (by omega)])
    go_enter Try.func87, Try.ntmps87
    go_wp2
    go_ret
    exact ⟨ret_int H.out, rfl⟩
  · have H := Lib.hid (show 1 = cmpI x y by unfold cmpI; rw [if_neg (by omega), if_pos (by omega)])
    have h' : ¬ x < y := by omega
    go_enter Try.func87, Try.ntmps87
    go_wp2
    go_ret
    exact ⟨ret_int H.out, rfl⟩

theorem notShare_no (x : Int) (h0 : 0 ≤ x) (h1 : x ≤ 1073741824) (w : World) : Calls Try.prog 61 #[.int .i64 x] w fun e w' => e = .returned (.bool false) ∧ w = w' := by
  have t1 : decide (x < 0) = false := decide_eq_false (by omega)
  have t2 : decide (x > 1073741824) = false := decide_eq_false (by omega)
  have t3 : ¬ 1073741824 < x := by omega
  have t4 : ¬ x < 0 := by omega
  go_enter Try.func61, Try.ntmps61
  go_wp2
  go_ret
  exact ⟨rfl, rfl⟩

set_option maxHeartbeats 1000000 in
theorem indexFunc_none (b n cap : Nat) (zs : Nat → Int) (w : World) (hn : n ≤ 4611686018427387904) (hc : ∀ i, i < n → w.cell? ⟨b, i, none⟩ = some (.int .i64 (zs i))) (hz : ∀ i, i < n → 0 ≤ zs i ∧ zs i ≤ 1073741824) :
    Calls Try.prog 84 #[.slice (some ⟨b, 0, none⟩) n cap, .func (.func 61) #[] #[]] w fun e w' => e = .returned (.int .i64 (-1)) ∧ w = w' := by
  have HC := Lib.hid hc
  clear hc
  go_enter Try.func84, Try.ntmps84
  go_wp2
  go_loop [8] (fun i => ∃ k : Nat, k ≤ n ∧ i = .int .i64 k) (fun i => n - (intOf i).toNat)
  case atStart => exact ⟨0, by omega, rfl⟩
  case round =>
    obtain ⟨k, hk, rfl⟩ := hrel
    by_cases hlt : k < n
    · have c0 := HC.out k hlt
      obtain ⟨z0, z1⟩ := hz k hlt
      have hlt' : (k : Int) < (n : Int) := by omega
      go_wp2_with fail
      refine (notShare_no _ z0 z1 _).mono ?_
      rintro e w' ⟨rfl, rfl⟩
      go_wp2
      go_round
      case rel => exact ⟨k + 1, by omega, by go_num⟩
      case measure => simp [intOf]; omega
    · have hlt' : ¬ (k : Int) < (n : Int) := by omega
      go_wp2
      go_ret
      exact ⟨rfl, rfl⟩

set_option maxHeartbeats 1000000 in
theorem closure_any (rv rb n cap : Nat) (i k : Nat) (x y : Int) (w : World) (h0 : w.cell? ⟨rv, 0, none⟩ = some (.slice (some ⟨rb, 0, none⟩) n cap)) (hi : i < n) (hk : k < n)
    (h1 : w.cell? ⟨rb, i, none⟩ = some (.int .i64 x)) (h2 : w.cell? ⟨rb, k, none⟩ = some (.int .i64 y)) :
    Calls Try.prog 86 #[.int .i64 i, .int .i64 k, .pointer (some ⟨rv, 0, none⟩)] w fun e w' => e = .returned (.int .i64 (cmpI y x)) ∧ ∃ n, w' = w.drewN n := by
  have i0 : (0 : Int) ≤ (i : Int) := by omega
  have i1 : (i : Int) < (n : Int) := by omega
  have k0 : (0 : Int) ≤ (k : Int) := by omega
  have k1 : (k : Int) < (n : Int) := by omega
  go_enter Try.func86, Try.ntmps86
  go_wp2_with fail
  go_quiet ((go_at_call 87; exact qSame (cmpInt _ _ _)))
  go_wp2
  go_ret
  exact ⟨rfl, _, rfl⟩

set_option maxHeartbeats 1000000 in
theorem insertion_three (ob rv rb : Nat) (w : World) (h0 : w.cell? ⟨rv, 0, none⟩ = some (.slice (some ⟨rb, 0, none⟩) 3 3))
    (r0 : w.cell? ⟨rb, 0, none⟩ = some (.int .i64 7)) (r1 : w.cell? ⟨rb, 1, none⟩ = some (.int .i64 1)) (r2 : w.cell? ⟨rb, 2, none⟩ = some (.int .i64 0))
    (o0 : w.cell? ⟨ob, 0, none⟩ = some (.int .i64 0)) (o1 : w.cell? ⟨ob, 1, none⟩ = some (.int .i64 1)) (o2 : w.cell? ⟨ob, 2, none⟩ = some (.int .i64 2)) :
    Calls Try.prog 102 #[.slice (some ⟨ob, 0, none⟩) 3 3, .int .i64 0, .int .i64 3, .func (.func 86) #[] #[.pointer (some ⟨rv, 0, none⟩)]] w fun e w' => e = .returned (.tuple #[]) ∧ ∃ n, w' = w.drewN n := by
  go_enter Try.func102, Try.ntmps102
  go_wp2_with fail
  refine wp_loop_rounds 3 ?_
  rw [rounds_succ]
  go_wp2_with fail
  refine wp_loop_rounds 1 ?_
  rw [rounds_succ]
  go_wp2_with fail
  go_quiet ((go_at_call 86; first | exact Calls.quiet_of (closure_any rv rb 3 3 1 0 1 7 _ (by simp [go_sem, h0]) (by omega) (by omega) (by simp [go_sem, r1]) (by simp [go_sem, r0])) | exact Calls.quiet_of (closure_any rv rb 3 3 2 1 0 1 _ (by simp [go_sem, h0]) (by omega) (by omega) (by simp [go_sem, r2]) (by simp [go_sem, r1]))))
  go_wp2_with fail
  rw [rounds_succ]
  go_wp2_with fail
  refine wp_loop_rounds 1 ?_
  rw [rounds_succ]
  go_wp2_with fail
  rename_i nq _
  go_quiet ((go_at_call 86; first | exact Calls.quiet_of (closure_any rv rb 3 3 1 0 1 7 _ (by simp [go_sem, h0]) (by omega) (by omega) (by simp [go_sem, r1]) (by simp [go_sem, r0])) | exact Calls.quiet_of (closure_any rv rb 3 3 2 1 0 1 _ (by simp [go_sem, h0]) (by omega) (by omega) (by simp [go_sem, r2]) (by simp [go_sem, r1])) | exact quiet_add (closure_any rv rb 3 3 2 1 0 1 _ (by simp [go_sem, h0]) (by omega) (by omega) (by simp [go_sem, r2]) (by simp [go_sem, r1]))))
  go_wp2_with fail
  rw [rounds_succ]
  go_wp2
  go_end0
  exact ⟨rfl, _, rfl⟩

set_option maxHeartbeats 1000000 in
theorem stable_three (ob rv rb : Nat) (w : World) (h0 : w.cell? ⟨rv, 0, none⟩ = some (.slice (some ⟨rb, 0, none⟩) 3 3))
    (r0 : w.cell? ⟨rb, 0, none⟩ = some (.int .i64 7)) (r1 : w.cell? ⟨rb, 1, none⟩ = some (.int .i64 1)) (r2 : w.cell? ⟨rb, 2, none⟩ = some (.int .i64 0))
    (o0 : w.cell? ⟨ob, 0, none⟩ = some (.int .i64 0)) (o1 : w.cell? ⟨ob, 1, none⟩ = some (.int .i64 1)) (o2 : w.cell? ⟨ob, 2, none⟩ = some (.int .i64 2)) :
    Calls Try.prog 97 #[.slice (some ⟨ob, 0, none⟩) 3 3, .int .i64 3, .func (.func 86) #[] #[.pointer (some ⟨rv, 0, none⟩)]] w fun e w' => e = .returned (.tuple #[]) ∧ ∃ n, w' = w.drewN n := by
  go_enter Try.func97, Try.ntmps97
  go_wp2_with fail
  refine wp_loop_rounds 1 ?_
  rw [rounds_succ]
  go_wp2_with fail
  refine (insertion_three ob rv rb _ h0 r0 r1 r2 o0 o1 o2).mono ?_
  rintro e w' ⟨rfl, n1, rfl⟩
  go_wp2_with fail
  refine wp_loop_rounds 1 ?_
  rw [rounds_succ]
  go_wp2
  go_end0
  exact ⟨rfl, _, rfl⟩

set_option maxHeartbeats 1000000 in
theorem sort_three (ob rv rb : Nat) (w : World) (h0 : w.cell? ⟨rv, 0, none⟩ = some (.slice (some ⟨rb, 0, none⟩) 3 3))
    (r0 : w.cell? ⟨rb, 0, none⟩ = some (.int .i64 7)) (r1 : w.cell? ⟨rb, 1, none⟩ = some (.int .i64 1)) (r2 : w.cell? ⟨rb, 2, none⟩ = some (.int .i64 0))
    (o0 : w.cell? ⟨ob, 0, none⟩ = some (.int .i64 0)) (o1 : w.cell? ⟨ob, 1, none⟩ = some (.int .i64 1)) (o2 : w.cell? ⟨ob, 2, none⟩ = some (.int .i64 2)) :
    Calls Try.prog 85 #[.slice (some ⟨ob, 0, none⟩) 3 3, .func (.func 86) #[] #[.pointer (some ⟨rv, 0, none⟩)]] w fun e w' => e = .returned (.tuple #[]) ∧ ∃ n, w' = w.drewN n := by
  go_enter Try.func85, Try.ntmps85
  go_wp2_with fail
  refine (stable_three ob rv rb _ h0 r0 r1 r2 o0 o1 o2).mono ?_
  rintro e w' ⟨rfl, n1, rfl⟩
  go_wp2
  go_end0
  exact ⟨rfl, _, rfl⟩

set_option maxRecDepth 100000 in
set_option maxHeartbeats 4000000 in
theorem apportioned_three (b : Nat) (w : World) (w0 : w.cell? ⟨b, 0, none⟩ = some (.int .i64 5)) (w1 : w.cell? ⟨b, 1, none⟩ = some (.int .i64 3)) (w2 : w.cell? ⟨b, 2, none⟩ = some (.int .i64 0)) (hb : b < w.heap.size) :
    Calls Try.prog 62 #[.int .i64 3, .int .i64 8, .slice (some ⟨b, 0, none⟩) 3 3] w fun e w' => e = .returned (.slice (some ⟨w.heap.size, 0, none⟩) 3 3) ∧
      (w'.cell? ⟨w.heap.size, 0, none⟩ = some (.int .i64 2) ∧ w'.cell? ⟨w.heap.size, 1, none⟩ = some (.int .i64 1) ∧ w'.cell? ⟨w.heap.size, 2, none⟩ = some (.int .i64 0)) ∧ Below w.heap.size w w' := by
  have b1 : b < w.heap.size + 1 := by omega
  have b2 : b < w.heap.size + 1 + 1 := by omega
  have b3 : b < w.heap.size + 1 + 1 + 1 := by omega
  have hmk : ∀ w, (Instr.makeSlice 22 (.int .i64 3) (.int .i64 3)).run Try.prog w = .ok (.slice (some ⟨w.heap.size, 0, none⟩) 3 3) (w.alloc (.cells #[.int .i64 0, .int .i64 0, .int .i64 0] 3)) := fun _ => by kernel_rfl
  go_enter Try.func62, Try.ntmps62
  go_wp2_with fail
  refine wp_loop_rounds 4 ?_
  rw [rounds_succ]
  go_wp2_with fail
  go_region
  go_wp2_with fail
  rw [rounds_succ]
  go_wp2_with fail
  go_region
  go_wp2_with fail
  rw [rounds_succ]
  go_wp2_with fail
  go_region
  go_wp2_with fail
  rw [rounds_succ]
  go_wp2_with fail
  refine (sort_three (w.heap.size + 1 + 1 + 1) (w.heap.size + 1 + 1) (w.heap.size + 1) _ (by simp [go_sem]) (by simp [go_sem]) (by simp [go_sem]) (by simp [go_sem]) (by simp [go_sem]) (by simp [go_sem]) (by simp [go_sem])).mono ?_
  rintro e w' ⟨rfl, n1, rfl⟩
  go_wp2_with fail
  refine wp_loop_rounds 2 ?_
  rw [rounds_succ]
  go_wp2_with fail
  rw [rounds_succ]
  go_wp2
  go_ret
  refine ⟨rfl, ⟨?_, ?_, ?_⟩, ?_⟩
  · exact Blk.cell ((((((Blk.newAt rfl).alloc _).alloc _).alloc _).drewN _).set_ 0 _) 0
  · exact Blk.cell ((((((Blk.newAt rfl).alloc _).alloc _).alloc _).drewN _).set_ 0 _) 1
  · exact Blk.cell ((((((Blk.newAt rfl).alloc _).alloc _).alloc _).drewN _).set_ 0 _) 2
  · exact bSt (bDr (bAl (bAl (bAl (bAl (Below.refl _ _) _) _) _) _) _) (Nat.le_refl _) _

end Go.Proofs.Ytphlkeoailapcaa
