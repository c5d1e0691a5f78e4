/-
  The examples that every statement of layer 1 checks answer true.
-/
import Derived.Test.YtphlkeoailapcaaAwake
import Derived.Test.YtphlkeoailapcaaNew
namespace Go.Proofs.Ytphlkeoailapcaa
open Go.RowKit
set_option linter.unusedSimpArgs false
set_option linter.unusedVariables false

set_option maxHeartbeats 1000000 in
theorem containsFunc_none (b n cap : Nat) (zs : Nat → Int) (w : World) (hn : n ≤ 4611686018427387904) (hc : ∀ i, i < n → w.cell? ⟨b, i, none⟩ = some (.int .i64 (zs i))) (hz : ∀ i, i < n → 0 ≤ zs i ∧ zs i ≤ 1073741824) :
    Calls Try.prog 60 #[.slice (some ⟨b, 0, none⟩) n cap, .func (.func 61) #[] #[]] w fun e w' => e = .returned (.bool false) ∧ w = w' := by
  have HI := Lib.hid (indexFunc_none b n cap zs w hn hc hz)
  clear hc hz
  go_enter Try.func60, Try.ntmps60
  go_wp2_with fail
  refine HI.out.mono ?_
  rintro e w' ⟨rfl, rfl⟩
  go_wp2
  go_ret
  exact ⟨rfl, rfl⟩

set_option maxRecDepth 100000 in
set_option maxHeartbeats 2000000 in
theorem apportion_three (b : Nat) (w : World) (w0 : w.cell? ⟨b, 0, none⟩ = some (.int .i64 5)) (w1 : w.cell? ⟨b, 1, none⟩ = some (.int .i64 3)) (w2 : w.cell? ⟨b, 2, none⟩ = some (.int .i64 0)) (hb : b < w.heap.size) :
    Calls Try.prog 29 #[.int .i64 3, .slice (some ⟨b, 0, none⟩) 3 3] w fun e w' => e = .returned (.tuple #[.slice (some ⟨w.heap.size, 0, none⟩) 3 3, .int .i64 0]) ∧
      (w'.cell? ⟨w.heap.size, 0, none⟩ = some (.int .i64 2) ∧ w'.cell? ⟨w.heap.size, 1, none⟩ = some (.int .i64 1) ∧ w'.cell? ⟨w.heap.size, 2, none⟩ = some (.int .i64 0)) ∧ Below w.heap.size w w' := by
  have hc : ∀ i, i < 3 → w.cell? ⟨b, i, none⟩ = some (.int .i64 ((fun i => if i = 0 then 5 else if i = 1 then 3 else 0) i)) := by
    intro i hi
    have : i = 0 ∨ i = 1 ∨ i = 2 := by omega
    rcases this with rfl | rfl | rfl
    · exact w0
    · exact w1
    · exact w2
  have hz : ∀ i, i < 3 → 0 ≤ (fun i : Nat => if i = 0 then (5 : Int) else if i = 1 then 3 else 0) i ∧ (fun i : Nat => if i = 0 then (5 : Int) else if i = 1 then 3 else 0) i ≤ 1073741824 := by
    intro i hi
    have : i = 0 ∨ i = 1 ∨ i = 2 := by omega
    rcases this with rfl | rfl | rfl <;> simp
  have HI := Lib.hid (containsFunc_none b 3 3 _ w (by omega) hc hz)
  have HA := Lib.hid (apportioned_three b w w0 w1 w2 hb)
  clear hc hz
  go_enter Try.func29, Try.ntmps29
  go_wp2_with fail
  refine HI.out.mono ?_
  rintro e w' ⟨rfl, rfl⟩
  go_wp2_with fail
  refine wp_loop_rounds 4 ?_
  rw [rounds_succ]
  go_wp2_with fail
  rw [rounds_succ]
  go_wp2_with fail
  rw [rounds_succ]
  go_wp2_with fail
  rw [rounds_succ]
  go_wp2_with fail
  refine HA.out.mono ?_
  rintro e w' ⟨rfl, hc, hb⟩
  go_wp2
  go_ret2
  exact ⟨rfl, hc, hb⟩

theorem new_six : newNum 6 (-4) = -3 ∧ newDen 6 (-4) = 2 ∧ newErr 6 (-4) = 0 := by decide +kernel

set_option maxRecDepth 100000 in
set_option maxHeartbeats 2000000 in
theorem awake_any (w : World) :
    Calls Try.prog 17 #[] w fun e w' => e = .returned (.bool true) ∧ Below w.heap.size w w' := by
  go_enter Try.func17, Try.ntmps17
  go_wp2_with fail
  refine (ratio_new 6 (-4) (by omega) (by omega) (by omega) (by omega) _).mono ?_
  rintro e w1 ⟨rfl, hb1⟩
  rw [new_six.1, new_six.2.1, new_six.2.2]
  go_wp2_with fail
  refine (apportion_three _ _ ?_ ?_ ?_ ?_).mono ?_
  · simp [go_sem]
  · simp [go_sem]
  · simp [go_sem]
  · simp
  rintro e w2 ⟨rfl, ⟨p0, p1, p2⟩, hb2⟩
  have PA := (((Blk.newAt (w := w1) (t := 26) (cs := #[.int .i64 (-3), .int .i64 2]) rfl).alloc _).later hb2)
  obtain ⟨⟨c0, c1⟩, ⟨f0, f1⟩, k⟩ := PA.two
  have HB := Lib.hid (bTr (bAl (bAl hb1 _) _) hb2)
  clear PA hb1 hb2
  simp only [World.size_alloc] at p0 p1 p2
  go_wp2
  go_ret
  exact ⟨rfl, HB.out⟩
end Go.Proofs.Ytphlkeoailapcaa
