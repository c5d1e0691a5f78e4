/-
  Contracts of compareIdentities, Compare, upTo and Valid of package stamp, and of the reference's Compare and Valid.
-/
import Derived.Test.YtdggmnhddoejhaaCmp
namespace Go.Proofs.Ytdggmnhddoejhaa
open Go.RowKit
set_option linter.unusedSimpArgs false
set_option linter.unusedVariables false

set_option maxHeartbeats 1000000 in
theorem compareId_any (t s q t' s' q' : Int) (w : World) :
    Calls Try.prog 35 #[.agg #[.int .i64 t, .int .i64 s, .int .i64 q], .agg #[.int .i64 t', .int .i64 s', .int .i64 q']] w fun e w' =>
      e = .returned (.int .i64 (orI (cmpI s s') (cmpI q q'))) ∧ Gro w w' := by
  go_enter Try.func35, Try.ntmps35
  go_wp2_with fail
  have HB := Lib.hid (Gro.alloc (Gro.alloc (Gro.refl w) (.cells #[.int .i64 t, .int .i64 s, .int .i64 q] 23)) (.cells #[.int .i64 t', .int .i64 s', .int .i64 q'] 23))
  have B0 : Blk ((w.alloc (.cells #[.int .i64 t, .int .i64 s, .int .i64 q] 23)).alloc (.cells #[.int .i64 t', .int .i64 s', .int .i64 q'] 23)) w.heap.size 23 #[.int .i64 t, .int .i64 s, .int .i64 q] := (Blk.new _ _ _).alloc _
  have B1 : Blk ((w.alloc (.cells #[.int .i64 t, .int .i64 s, .int .i64 q] 23)).alloc (.cells #[.int .i64 t', .int .i64 s', .int .i64 q'] 23)) (w.heap.size + 1) 23 #[.int .i64 t', .int .i64 s', .int .i64 q'] := Blk.newAt (by simp)
  generalize (w.alloc (.cells #[.int .i64 t, .int .i64 s, .int .i64 q] 23)).alloc (.cells #[.int .i64 t', .int .i64 s', .int .i64 q'] 23) = w1 at HB B0 B1 ⊢
  have c1 := B0.cell 1; have c2 := B0.cell 2; have d1 := B1.cell 1; have d2 := B1.cell 2
  have hlt := B1.lt
  clear B0 B1
  go_region_held3 (fun w' => w'.cell? ⟨w.heap.size, 1, none⟩ = some (.int .i64 s) ∧ w'.cell? ⟨w.heap.size, 2, none⟩ = some (.int .i64 q) ∧ w'.cell? ⟨w.heap.size + 1, 1, none⟩ = some (.int .i64 s') ∧ w'.cell? ⟨w.heap.size + 1, 2, none⟩ = some (.int .i64 q')) (first | go_keep)
    (first | (go_at_call 34; refine (compare_int _ _ _).mono ?_; rintro e w' ⟨rfl, rfl⟩) | (go_at_call 33; refine (or_int (cmpI s s') (cmpI q q') _ _ ?_ ?_).mono ?_; (exact (Blk.newAt rfl).cell 0); (exact (Blk.newAt rfl).cell 1); rintro e w' ⟨rfl, rfl⟩))
  go_wp2
  go_ret
  exact ⟨rfl, (HB.out.alloc _).drew⟩

set_option maxHeartbeats 1000000 in
theorem stamp_compare (t s q t' s' q' : Int) (w : World) :
    Calls Try.prog 14 #[.agg #[.int .i64 t, .int .i64 s, .int .i64 q], .agg #[.int .i64 t', .int .i64 s', .int .i64 q']] w fun e w' =>
      e = .returned (.int .i64 (cmp3 (t, s, q) (t', s', q'))) ∧ Gro w w' := by
  go_enter Try.func14, Try.ntmps14
  go_wp2_with fail
  have HB := Lib.hid (Gro.alloc (Gro.alloc (Gro.refl w) (.cells #[.int .i64 t, .int .i64 s, .int .i64 q] 23)) (.cells #[.int .i64 t', .int .i64 s', .int .i64 q'] 23))
  have B0 : Blk ((w.alloc (.cells #[.int .i64 t, .int .i64 s, .int .i64 q] 23)).alloc (.cells #[.int .i64 t', .int .i64 s', .int .i64 q'] 23)) w.heap.size 23 #[.int .i64 t, .int .i64 s, .int .i64 q] := (Blk.new _ _ _).alloc _
  have B1 : Blk ((w.alloc (.cells #[.int .i64 t, .int .i64 s, .int .i64 q] 23)).alloc (.cells #[.int .i64 t', .int .i64 s', .int .i64 q'] 23)) (w.heap.size + 1) 23 #[.int .i64 t', .int .i64 s', .int .i64 q'] := Blk.newAt (by simp)
  generalize (w.alloc (.cells #[.int .i64 t, .int .i64 s, .int .i64 q] 23)).alloc (.cells #[.int .i64 t', .int .i64 s', .int .i64 q'] 23) = w1 at HB B0 B1 ⊢
  have c0 := B0.cell 0; have c1 := B0.cell 1; have c2 := B0.cell 2; have d0 := B1.cell 0; have d1 := B1.cell 1; have d2 := B1.cell 2
  have hlt := B1.lt
  clear B0 B1
  go_region_held3 (fun w' => w'.cell? ⟨w.heap.size, 0, none⟩ = some (.int .i64 t) ∧ w'.cell? ⟨w.heap.size, 1, none⟩ = some (.int .i64 s) ∧ w'.cell? ⟨w.heap.size, 2, none⟩ = some (.int .i64 q) ∧ w'.cell? ⟨w.heap.size + 1, 0, none⟩ = some (.int .i64 t') ∧ w'.cell? ⟨w.heap.size + 1, 1, none⟩ = some (.int .i64 s') ∧ w'.cell? ⟨w.heap.size + 1, 2, none⟩ = some (.int .i64 q')) (first | (go_split_ands; refine ⟨?_, ?_, ?_, ?_, ?_, ?_⟩ <;> (rw [hb.below.cell (by simp; omega)]; assumption)) | go_keep)
    (first | (go_at_call 34; refine (compare_int _ _ _).mono ?_; rintro e w' ⟨rfl, rfl⟩) | (go_at_call 35; refine (compareId_any _ _ _ _ _ _ _).mono ?_; rintro e w' ⟨rfl, hb⟩; have HB := Lib.hid (Gro.trans (by first | exact HB.out | exact Gro.drew HB.out) hb); have hlt := Nat.lt_of_lt_of_le hlt hb.size) | (go_at_call 33; refine (or_int (cmpI t t') (orI (cmpI s s') (cmpI q q')) _ _ ?_ ?_).mono ?_; (exact (Blk.newAt rfl).cell 0); (exact (Blk.newAt rfl).cell 1); rintro e w' ⟨rfl, rfl⟩))
  go_wp2
  go_ret
  exact ⟨rfl, by first | exact (HB.out.alloc _).drew | exact (HB.out.alloc _) | exact HB.out.drew | exact HB.out⟩

def upB (n m : Int) : Bool := decide (0 ≤ n ∧ n ≤ m)
set_option maxHeartbeats 400000 in
theorem upTo_any (n m : Int) (w : World) : Calls Try.prog 32 #[.int .i64 n, .int .i64 m] w fun e w' => e = .returned (.bool (upB n m)) ∧ w = w' := by
  by_cases h0 : 0 ≤ n
  · by_cases h1 : n ≤ m
    · have H := Lib.hid (show true = upB n m from (decide_eq_true ⟨h0, h1⟩).symm)
      go_enter Try.func32, Try.ntmps32
      go_wp2
      go_ret
      exact ⟨ret_bool H.out, rfl⟩
    · have H := Lib.hid (show false = upB n m from (decide_eq_false (by omega)).symm)
      have h1' : decide (n ≤ m) = false := decide_eq_false h1
      go_enter Try.func32, Try.ntmps32
      go_wp2
      go_ret
      exact ⟨ret_bool H.out, rfl⟩
  · have H := Lib.hid (show false = upB n m from (decide_eq_false (by omega)).symm)
    have h1' : decide (0 ≤ n) = false := decide_eq_false h0
    go_enter Try.func32, Try.ntmps32
    go_wp2
    go_ret
    exact ⟨ret_bool H.out, rfl⟩

theorem vld_up (t s q : Int) : vld (t, s, q) = (upB t 1000000 && upB s 99 && upB q 9999) := rfl
set_option maxHeartbeats 1000000 in
theorem stamp_valid (t s q : Int) (w : World) :
    Calls Try.prog 12 #[.agg #[.int .i64 t, .int .i64 s, .int .i64 q]] w fun e w' => e = .returned (.bool (vld (t, s, q))) ∧ Gro w w' := by
  rw [vld_up]
  cases h1 : upB t 1000000
  · go_enter Try.func12, Try.ntmps12
    go_wp2_with (go_at_call 32; refine (upTo_any _ _ _).mono ?_; rintro e w' ⟨rfl, rfl⟩)
    go_ret
    exact ⟨rfl, (Gro.refl w).alloc _⟩
  · cases h2 : upB s 99
    · go_enter Try.func12, Try.ntmps12
      go_wp2_with (go_at_call 32; refine (upTo_any _ _ _).mono ?_; rintro e w' ⟨rfl, rfl⟩)
      go_ret
      exact ⟨rfl, (Gro.refl w).alloc _⟩
    · go_enter Try.func12, Try.ntmps12
      go_wp2_with (go_at_call 32; refine (upTo_any _ _ _).mono ?_; rintro e w' ⟨rfl, rfl⟩)
      go_ret
      exact ⟨ret_bool (by simp), (Gro.refl w).alloc _⟩
end Go.Proofs.Ytdggmnhddoejhaa
