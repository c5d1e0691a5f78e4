/-
  The walk of the statement on ValidPart.
-/
import Derived.Test.YtjciniffkdadaaaIKit
import Derived.Test.YtjciniffkdadaaaQuietTail
namespace Go.Proofs.Ytjciniffkdadaaa
open Go.RowKit
set_option linter.unusedSimpArgs false
set_option linter.unusedVariables false

def ok6 (a b c d e f : Int) : Bool := Pt.okB ⟨a, b, c, d, e, f⟩
theorem valid6 (a b c d e f : Int) (w : World) : Calls Try.prog 12 #[.agg #[.int .i64 a, .int .i64 b, .int .i64 c, .int .i64 d, .int .i64 e, .int .i64 f]] w fun e' w' => e' = .returned (.bool (ok6 a b c d e f)) ∧ Below w.heap.size w w' := valid_any ⟨a, b, c, d, e, f⟩ w
theorem rvalid6 (a b c d e f : Int) (w : World) : Calls Try.prog 13 #[.agg #[.int .i64 a, .int .i64 b, .int .i64 c, .int .i64 d, .int .i64 e, .int .i64 f]] w fun e' w' => e' = .returned (.bool (ok6 a b c d e f)) ∧ Below w.heap.size w w' := rvalid_any ⟨a, b, c, d, e, f⟩ w
attribute [local irreducible] ok6 in
set_option maxRecDepth 100000 in
set_option maxHeartbeats 2000000 in
theorem walkItemParts (a0 a1 a2 a3 a4 a5 : Int) (l0 : -9223372036854775808 ≤ a0) (u0 : a0 < 9223372036854775808) (l1 : -9223372036854775808 ≤ a1) (u1 : a1 < 9223372036854775808) (l2 : -9223372036854775808 ≤ a2) (u2 : a2 < 9223372036854775808) (l3 : -9223372036854775808 ≤ a3) (u3 : a3 < 9223372036854775808) (l4 : -9223372036854775808 ≤ a4) (u4 : a4 < 9223372036854775808) (l5 : -9223372036854775808 ≤ a5) (u5 : a5 < 9223372036854775808) (w : World) :
    Calls Try.prog 3 #[.int .i64 a0, .int .i64 a1, .int .i64 a2, .int .i64 a3, .int .i64 a4, .int .i64 a5] w fun e w' => e = .returned (.bool true) ∧ Below w.heap.size w w' := by
  have HC0 := Lib.hid (cut_any a0 2 (by omega) (by omega) ⟨l0, u0⟩)
  have hr0 := cut_range a0 2 (by omega)
  have HC1 := Lib.hid (cut_any a1 43 (by omega) (by omega) ⟨l1, u1⟩)
  have hr1 := cut_range a1 43 (by omega)
  have HC2 := Lib.hid (cut_any a2 18 (by omega) (by omega) ⟨l2, u2⟩)
  have hr2 := cut_range a2 18 (by omega)
  have HC3 := Lib.hid (cut_any a3 8 (by omega) (by omega) ⟨l3, u3⟩)
  have hr3 := cut_range a3 8 (by omega)
  have HC4 := Lib.hid (cut_any a4 7 (by omega) (by omega) ⟨l4, u4⟩)
  have hr4 := cut_range a4 7 (by omega)
  have HC5 := Lib.hid (cut_any a5 6 (by omega) (by omega) ⟨l5, u5⟩)
  have hr5 := cut_range a5 6 (by omega)
  have HC6 := Lib.hid (cut_any a1 40 (by omega) (by omega) ⟨l1, u1⟩)
  have hr6 := cut_range a1 40 (by omega)
  have HC7 := Lib.hid (cut_any a2 16 (by omega) (by omega) ⟨l2, u2⟩)
  have hr7 := cut_range a2 16 (by omega)
  have HC8 := Lib.hid (cut_any a3 6 (by omega) (by omega) ⟨l3, u3⟩)
  have hr8 := cut_range a3 6 (by omega)
  generalize a0 % 2 = r0 at HC0 hr0
  generalize a1 % 43 = r1 at HC1 hr1
  generalize a2 % 18 = r2 at HC2 hr2
  generalize a3 % 8 = r3 at HC3 hr3
  generalize a4 % 7 = r4 at HC4 hr4
  generalize a5 % 6 = r5 at HC5 hr5
  generalize a1 % 40 = r6 at HC6 hr6
  generalize a2 % 16 = r7 at HC7 hr7
  generalize a3 % 6 = r8 at HC8 hr8
  obtain ⟨y0, hw0⟩ : ∃ y, IntKind.i64.wrap (1 + r0) = y := ⟨_, rfl⟩
  obtain ⟨y6, hw6⟩ : ∃ y, IntKind.i64.wrap (1 + r6) = y := ⟨_, rfl⟩
  clear hr0  hr1  hr2  hr3  hr4  hr5  hr6  hr7  hr8 l0 u0 l1 u1 l2 u2 l3 u3 l4 u4 l5 u5
  go_enter Try.func3, Try.ntmps3
  go_wp2_with (go_at_call 11; first | (refine (HC0.out _).mono ?_; rintro e w' ⟨rfl, hw'⟩; obtain rfl := hw'; clear HC0) | (refine (HC1.out _).mono ?_; rintro e w' ⟨rfl, hw'⟩; obtain rfl := hw'; clear HC1) | (refine (HC2.out _).mono ?_; rintro e w' ⟨rfl, hw'⟩; obtain rfl := hw'; clear HC2) | (refine (HC3.out _).mono ?_; rintro e w' ⟨rfl, hw'⟩; obtain rfl := hw'; clear HC3) | (refine (HC4.out _).mono ?_; rintro e w' ⟨rfl, hw'⟩; obtain rfl := hw'; clear HC4) | (refine (HC5.out _).mono ?_; rintro e w' ⟨rfl, hw'⟩; obtain rfl := hw'; clear HC5) | (refine (HC6.out _).mono ?_; rintro e w' ⟨rfl, hw'⟩; obtain rfl := hw'; clear HC6) | (refine (HC7.out _).mono ?_; rintro e w' ⟨rfl, hw'⟩; obtain rfl := hw'; clear HC7) | (refine (HC8.out _).mono ?_; rintro e w' ⟨rfl, hw'⟩; obtain rfl := hw'; clear HC8))
  generalize hwc : (((w.alloc _).alloc _).alloc _) = wc
  have P0 : Hid (Blk wc w.heap.size 23 #[.int .i64 a0, .int .i64 a1, .int .i64 a2, .int .i64 a3, .int .i64 a4, .int .i64 a5]) := Lib.hid (by rw [← hwc]; exact ((Blk.new _ _ _).alloc _).alloc _)
  have P1 : Hid (Blk wc (w.heap.size + 1) 23 #[.int .i64 y0, .int .i64 r1, .int .i64 r2, .int .i64 r3, .int .i64 r4, .int .i64 r5]) := Lib.hid (by rw [← hwc]; exact (Blk.newAt (by simp)).alloc _)
  have P2 : Hid (Blk wc (w.heap.size + 1 + 1) 23 #[.int .i64 y0, .int .i64 y6, .int .i64 r7, .int .i64 r8, .int .i64 r4, .int .i64 r5]) := Lib.hid (by rw [← hwc]; exact Blk.newAt (by simp))
  have HB : Hid (Below w.heap.size w wc) := Lib.hid (by rw [← hwc]; exact bAl (bAl (bAl (Below.refl _ w) _) _) _)
  clear hwc hw0 hw6
  have q00 : ∀ p : BelowOf wc, p.to.cell? ⟨w.heap.size, 0, none⟩ = some (.int .i64 a0) := bq_cell P0.out.lt (P0.out.cell 0)
  have q01 : ∀ p : BelowOf wc, p.to.cell? ⟨w.heap.size, 1, none⟩ = some (.int .i64 a1) := bq_cell P0.out.lt (P0.out.cell 1)
  have q02 : ∀ p : BelowOf wc, p.to.cell? ⟨w.heap.size, 2, none⟩ = some (.int .i64 a2) := bq_cell P0.out.lt (P0.out.cell 2)
  have q03 : ∀ p : BelowOf wc, p.to.cell? ⟨w.heap.size, 3, none⟩ = some (.int .i64 a3) := bq_cell P0.out.lt (P0.out.cell 3)
  have q04 : ∀ p : BelowOf wc, p.to.cell? ⟨w.heap.size, 4, none⟩ = some (.int .i64 a4) := bq_cell P0.out.lt (P0.out.cell 4)
  have q05 : ∀ p : BelowOf wc, p.to.cell? ⟨w.heap.size, 5, none⟩ = some (.int .i64 a5) := bq_cell P0.out.lt (P0.out.cell 5)
  have q10 : ∀ p : BelowOf wc, p.to.cell? ⟨(w.heap.size + 1), 0, none⟩ = some (.int .i64 y0) := bq_cell P1.out.lt (P1.out.cell 0)
  have q11 : ∀ p : BelowOf wc, p.to.cell? ⟨(w.heap.size + 1), 1, none⟩ = some (.int .i64 r1) := bq_cell P1.out.lt (P1.out.cell 1)
  have q12 : ∀ p : BelowOf wc, p.to.cell? ⟨(w.heap.size + 1), 2, none⟩ = some (.int .i64 r2) := bq_cell P1.out.lt (P1.out.cell 2)
  have q13 : ∀ p : BelowOf wc, p.to.cell? ⟨(w.heap.size + 1), 3, none⟩ = some (.int .i64 r3) := bq_cell P1.out.lt (P1.out.cell 3)
  have q14 : ∀ p : BelowOf wc, p.to.cell? ⟨(w.heap.size + 1), 4, none⟩ = some (.int .i64 r4) := bq_cell P1.out.lt (P1.out.cell 4)
  have q15 : ∀ p : BelowOf wc, p.to.cell? ⟨(w.heap.size + 1), 5, none⟩ = some (.int .i64 r5) := bq_cell P1.out.lt (P1.out.cell 5)
  have q20 : ∀ p : BelowOf wc, p.to.cell? ⟨(w.heap.size + 1 + 1), 0, none⟩ = some (.int .i64 y0) := bq_cell P2.out.lt (P2.out.cell 0)
  have q21 : ∀ p : BelowOf wc, p.to.cell? ⟨(w.heap.size + 1 + 1), 1, none⟩ = some (.int .i64 y6) := bq_cell P2.out.lt (P2.out.cell 1)
  have q22 : ∀ p : BelowOf wc, p.to.cell? ⟨(w.heap.size + 1 + 1), 2, none⟩ = some (.int .i64 r7) := bq_cell P2.out.lt (P2.out.cell 2)
  have q23 : ∀ p : BelowOf wc, p.to.cell? ⟨(w.heap.size + 1 + 1), 3, none⟩ = some (.int .i64 r8) := bq_cell P2.out.lt (P2.out.cell 3)
  have q24 : ∀ p : BelowOf wc, p.to.cell? ⟨(w.heap.size + 1 + 1), 4, none⟩ = some (.int .i64 r4) := bq_cell P2.out.lt (P2.out.cell 4)
  have q25 : ∀ p : BelowOf wc, p.to.cell? ⟨(w.heap.size + 1 + 1), 5, none⟩ = some (.int .i64 r5) := bq_cell P2.out.lt (P2.out.cell 5)
  refine wp_region_below (by kernel_rfl) (by kernel_rfl) ?_
  repeat (go_big_quiet_step (first | (go_at_call 12; exact bq_call (valid6 _ _ _ _ _ _ _)) | (go_at_call 13; exact bq_call (rvalid6 _ _ _ _ _ _ _)) | (go_at_call 14; exact bq_call (awake_any _))))
  refine wpQuiet_nil ?_
  intro w6 hw'
  have HX := Lib.hid (show Below wc.heap.size wc w6 by obtain ⟨pw, h⟩ := hw'; exact h ▸ pw.h)
  clear hw' q00 q01 q02 q03 q04 q05 q10 q11 q12 q13 q14 q15 q20 q21 q22 q23 q24 q25
  go_wp2_with fail
  go_ret
  exact ⟨rfl, bTr HB.out HX.out⟩
end Go.Proofs.Ytjciniffkdadaaa
