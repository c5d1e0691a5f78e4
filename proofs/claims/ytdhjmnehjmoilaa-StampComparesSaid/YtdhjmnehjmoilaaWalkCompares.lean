/-
  The walk of the statement on Valid and Compare.
-/
import Derived.Test.YtdhjmnehjmoilaaAwake
import Derived.Test.YtdhjmnehjmoilaaQuietB
namespace Go.Proofs.Ytdhjmnehjmoilaa
open Go.RowKit
set_option linter.unusedSimpArgs false
set_option linter.unusedVariables false

theorem gro_below {P : Program} {f : FuncId} {args : Array Value} {w : World} {v : Value} (h : Calls P f args w fun e w' => e = .returned v ∧ Gro w w') : Calls P f args w fun e w' => e = .returned v ∧ Below w.heap.size w w' := h.mono fun _ _ ⟨he, hg⟩ => ⟨he, hg.below⟩

set_option maxHeartbeats 4000000 in
theorem walkStampCompares (a b c d e f : Int) (l0 : -9223372036854775808 ≤ a) (u0 : a < 9223372036854775808) (l1 : -9223372036854775808 ≤ b) (u1 : b < 9223372036854775808) (l2 : -9223372036854775808 ≤ c) (u2 : c < 9223372036854775808) (l3 : -9223372036854775808 ≤ d) (u3 : d < 9223372036854775808) (l4 : -9223372036854775808 ≤ e) (u4 : e < 9223372036854775808) (l5 : -9223372036854775808 ≤ f) (u5 : f < 9223372036854775808) (w : World) :
    Calls Try.prog 3 #[.int .i64 a, .int .i64 b, .int .i64 c, .int .i64 d, .int .i64 e, .int .i64 f] w fun e w' => e = .returned (.bool true) ∧ Below w.heap.size w w' := by
  have mixed : Try.prog.follows .mixedOrders = true := by kernel_rfl
  clear l0 u0 l1 u1 l2 u2 l3 u3 l4 u4 l5 u5
  go_enter Try.func3, Try.ntmps3
  go_wp2_with fail
  have HB := Lib.hid (bAl (bAl (bAl (Below.refl _ w) (.cells #[.int .i64 a, .int .i64 b, .int .i64 c] 23)) (.cells #[.int .i64 d, .int .i64 e, .int .i64 f] 23)) (.cells #[.int .i64 a, .int .i64 e, .int .i64 c] 23))
  have B0 : Blk (((w.alloc (.cells #[.int .i64 a, .int .i64 b, .int .i64 c] 23)).alloc (.cells #[.int .i64 d, .int .i64 e, .int .i64 f] 23)).alloc (.cells #[.int .i64 a, .int .i64 e, .int .i64 c] 23)) w.heap.size 23 #[.int .i64 a, .int .i64 b, .int .i64 c] := ((Blk.new _ _ _).alloc _).alloc _
  have B1 : Blk (((w.alloc (.cells #[.int .i64 a, .int .i64 b, .int .i64 c] 23)).alloc (.cells #[.int .i64 d, .int .i64 e, .int .i64 f] 23)).alloc (.cells #[.int .i64 a, .int .i64 e, .int .i64 c] 23)) (w.heap.size + 1) 23 #[.int .i64 d, .int .i64 e, .int .i64 f] := (Blk.newAt (by simp)).alloc _
  have B2 : Blk (((w.alloc (.cells #[.int .i64 a, .int .i64 b, .int .i64 c] 23)).alloc (.cells #[.int .i64 d, .int .i64 e, .int .i64 f] 23)).alloc (.cells #[.int .i64 a, .int .i64 e, .int .i64 c] 23)) (w.heap.size + 1 + 1) 23 #[.int .i64 a, .int .i64 e, .int .i64 c] := Blk.newAt (by simp)
  generalize ((w.alloc (.cells #[.int .i64 a, .int .i64 b, .int .i64 c] 23)).alloc (.cells #[.int .i64 d, .int .i64 e, .int .i64 f] 23)).alloc (.cells #[.int .i64 a, .int .i64 e, .int .i64 c] 23) = w1 at HB B0 B1 B2 ⊢
  have x0 : ∀ p : BelowOf w1, p.to.cell? ⟨w.heap.size, 0, none⟩ = some (.int .i64 a) := bq_cell B0.lt (B0.cell 0)
  have x1 : ∀ p : BelowOf w1, p.to.cell? ⟨w.heap.size, 1, none⟩ = some (.int .i64 b) := bq_cell B0.lt (B0.cell 1)
  have x2 : ∀ p : BelowOf w1, p.to.cell? ⟨w.heap.size, 2, none⟩ = some (.int .i64 c) := bq_cell B0.lt (B0.cell 2)
  have y0 : ∀ p : BelowOf w1, p.to.cell? ⟨w.heap.size + 1, 0, none⟩ = some (.int .i64 d) := bq_cell B1.lt (B1.cell 0)
  have y1 : ∀ p : BelowOf w1, p.to.cell? ⟨w.heap.size + 1, 1, none⟩ = some (.int .i64 e) := bq_cell B1.lt (B1.cell 1)
  have y2 : ∀ p : BelowOf w1, p.to.cell? ⟨w.heap.size + 1, 2, none⟩ = some (.int .i64 f) := bq_cell B1.lt (B1.cell 2)
  have z0 : ∀ p : BelowOf w1, p.to.cell? ⟨w.heap.size + 1 + 1, 0, none⟩ = some (.int .i64 a) := bq_cell B2.lt (B2.cell 0)
  have z1 : ∀ p : BelowOf w1, p.to.cell? ⟨w.heap.size + 1 + 1, 1, none⟩ = some (.int .i64 e) := bq_cell B2.lt (B2.cell 1)
  have z2 : ∀ p : BelowOf w1, p.to.cell? ⟨w.heap.size + 1 + 1, 2, none⟩ = some (.int .i64 c) := bq_cell B2.lt (B2.cell 2)
  clear B0 B1 B2
  have hcc : cmp3 (a, b, c) (a, b, c) = 0 := (cmp3_eq _ _).2 rfl
  refine wp_region_below mixed (by kernel_rfl) ?_
  repeat (go_big_quiet_step ((first | (go_at_call 12; exact bq_call (gro_below (stamp_valid _ _ _ _))) | (go_at_call 13; exact bq_call (gro_below (ref_valid _ _ _ _))) | (go_at_call 14; exact bq_call (gro_below (stamp_compare _ _ _ _ _ _ _))) | (go_at_call 15; exact bq_call (gro_below (ref_compare _ _ _ _ _ _ _))) | (go_at_call 16; exact bq_call (awake_any _)))))
  refine wpQuiet_nil ?_
  intro w5 hw'
  have HB5 := Lib.hid (show Below w1.heap.size w1 w5 by obtain ⟨p, h⟩ := hw'; exact h ▸ p.h)
  clear hw' x0 x1 x2 y0 y1 y2 z0 z1 z2
  go_wp2
  go_ret
  exact ⟨rfl, bTr HB.out HB5.out⟩
end Go.Proofs.Ytdhjmnehjmoilaa
