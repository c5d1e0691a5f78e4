/-
  The walk of the statement on Valid and Format.
-/
import Derived.Test.YtlionhmmefghmaaAwake
import Derived.Test.YtlionhmmefghmaaQuietB
namespace Go.Proofs.Ytlionhmmefghmaa
open Go.RowKit
set_option linter.unusedSimpArgs false
set_option linter.unusedVariables false
set_option maxRecDepth 100000

attribute [local irreducible] okID fmtS fmtE in
set_option maxHeartbeats 4000000 in
theorem walkIdentityFormats (a0 a1 a2 : Int) (l0 : -9223372036854775808 ≤ a0) (u0 : a0 < 9223372036854775808) (l1 : -9223372036854775808 ≤ a1) (u1 : a1 < 9223372036854775808) (l2 : -9223372036854775808 ≤ a2) (u2 : a2 < 9223372036854775808) (w : World) :
    Calls Try.prog 3 #[.int .i64 a0, .int .i64 a1, .int .i64 a2] w fun e w' => e = .returned (.bool true) ∧ Below w.heap.size w w' := by
  go_enter Try.func3, Try.ntmps3
  go_wp2_with fail
  have PX : Hid (Blk (w.alloc (.cells #[.int .i64 a0, .int .i64 a1, .int .i64 a2] 23)) w.heap.size 23 #[.int .i64 a0, .int .i64 a1, .int .i64 a2]) := Lib.hid (Blk.newAt rfl)
  have HB0 := Lib.hid (bAl (Below.refl w.heap.size w) (.cells #[.int .i64 a0, .int .i64 a1, .int .i64 a2] 23))
  generalize (w.alloc (.cells #[.int .i64 a0, .int .i64 a1, .int .i64 a2] 23)) = w0 at PX HB0 ⊢
  refine (cut_any a0 101 (by omega) (by omega) _).mono ?_
  rintro e w' ⟨rfl, rfl⟩
  have hb0 : 0 ≤ a0 % 101 ∧ a0 % 101 < 101 := by omega
  generalize a0 % 101 = b0 at hb0 ⊢
  go_wp2_with fail
  refine (cut_any a1 101 (by omega) (by omega) _).mono ?_
  rintro e w' ⟨rfl, rfl⟩
  have hb1 : 0 ≤ a1 % 101 ∧ a1 % 101 < 101 := by omega
  generalize a1 % 101 = b1 at hb1 ⊢
  go_wp2_with fail
  refine (cut_any a2 10001 (by omega) (by omega) _).mono ?_
  rintro e w' ⟨rfl, rfl⟩
  have hb2 : 0 ≤ a2 % 10001 ∧ a2 % 10001 < 10001 := by omega
  generalize a2 % 10001 = b2 at hb2 ⊢
  have x0 : w'.cell? ⟨w.heap.size, 0, none⟩ = some (.int .i64 a0) := PX.out.cell 0
  have x1 : w'.cell? ⟨w.heap.size, 1, none⟩ = some (.int .i64 a1) := PX.out.cell 1
  have x2 : w'.cell? ⟨w.heap.size, 2, none⟩ = some (.int .i64 a2) := PX.out.cell 2
  have klt : w.heap.size < w'.heap.size := PX.out.lt
  go_wp2_with fail
  have PX1 := Lib.hid (PX.out.alloc (.cells #[.int .i64 b0, .int .i64 b1, .int .i64 b2] 23))
  have PY1 : Hid (Blk (w'.alloc (.cells #[.int .i64 b0, .int .i64 b1, .int .i64 b2] 23)) w'.heap.size 23 #[.int .i64 b0, .int .i64 b1, .int .i64 b2]) := Lib.hid (Blk.newAt rfl)
  have HB1 := Lib.hid (bAl HB0.out (.cells #[.int .i64 b0, .int .i64 b1, .int .i64 b2] 23))
  generalize (w'.alloc (.cells #[.int .i64 b0, .int .i64 b1, .int .i64 b2] 23)) = w1 at PX1 PY1 HB1 ⊢
  clear x0 x1 x2 HB0 PX klt
  generalize w'.heap.size = g at PY1 ⊢
  refine (format_any a0 a1 a2 _).mono ?_
  rintro e w2 ⟨rfl, hb⟩
  have HB2 := Lib.hid (bTr HB1.out hb)
  have PX2 := Lib.hid (PX1.out.later hb)
  have PY2 := Lib.hid (PY1.out.later hb)
  clear hb HB1 PX1 PY1
  have x0 : w2.cell? ⟨w.heap.size, 0, none⟩ = some (.int .i64 a0) := PX2.out.cell 0
  have y0 : w2.cell? ⟨g, 0, none⟩ = some (.int .i64 b0) := PY2.out.cell 0
  have x1 : w2.cell? ⟨w.heap.size, 1, none⟩ = some (.int .i64 a1) := PX2.out.cell 1
  have y1 : w2.cell? ⟨g, 1, none⟩ = some (.int .i64 b1) := PY2.out.cell 1
  have x2 : w2.cell? ⟨w.heap.size, 2, none⟩ = some (.int .i64 a2) := PX2.out.cell 2
  have y2 : w2.cell? ⟨g, 2, none⟩ = some (.int .i64 b2) := PY2.out.cell 2
  go_wp2_with fail
  refine (rformat_any a0 a1 a2 _).mono ?_
  rintro e w3 ⟨rfl, hb⟩
  have HB3 := Lib.hid (bTr HB2.out hb)
  have PX3 := Lib.hid (PX2.out.later hb)
  have PY3 := Lib.hid (PY2.out.later hb)
  clear hb HB2 PX2 PY2 x0 x1 x2 y0 y1 y2
  have x0 : w3.cell? ⟨w.heap.size, 0, none⟩ = some (.int .i64 a0) := PX3.out.cell 0
  have y0 : w3.cell? ⟨g, 0, none⟩ = some (.int .i64 b0) := PY3.out.cell 0
  have x1 : w3.cell? ⟨w.heap.size, 1, none⟩ = some (.int .i64 a1) := PX3.out.cell 1
  have y1 : w3.cell? ⟨g, 1, none⟩ = some (.int .i64 b1) := PY3.out.cell 1
  have x2 : w3.cell? ⟨w.heap.size, 2, none⟩ = some (.int .i64 a2) := PX3.out.cell 2
  have y2 : w3.cell? ⟨g, 2, none⟩ = some (.int .i64 b2) := PY3.out.cell 2
  go_wp2_with fail
  refine (format_any b0 b1 b2 _).mono ?_
  rintro e w4 ⟨rfl, hb⟩
  have HB4 := Lib.hid (bTr HB3.out hb)
  have PX4 := Lib.hid (PX3.out.later hb)
  have PY4 := Lib.hid (PY3.out.later hb)
  clear hb HB3 PX3 PY3 x0 x1 x2 y0 y1 y2
  have x0 : w4.cell? ⟨w.heap.size, 0, none⟩ = some (.int .i64 a0) := PX4.out.cell 0
  have y0 : w4.cell? ⟨g, 0, none⟩ = some (.int .i64 b0) := PY4.out.cell 0
  have x1 : w4.cell? ⟨w.heap.size, 1, none⟩ = some (.int .i64 a1) := PX4.out.cell 1
  have y1 : w4.cell? ⟨g, 1, none⟩ = some (.int .i64 b1) := PY4.out.cell 1
  have x2 : w4.cell? ⟨w.heap.size, 2, none⟩ = some (.int .i64 a2) := PX4.out.cell 2
  have y2 : w4.cell? ⟨g, 2, none⟩ = some (.int .i64 b2) := PY4.out.cell 2
  go_wp2_with fail
  refine (rformat_any b0 b1 b2 _).mono ?_
  rintro e w5 ⟨rfl, hb⟩
  have HB5 := Lib.hid (bTr HB4.out hb)
  have PX5 := Lib.hid (PX4.out.later hb)
  have PY5 := Lib.hid (PY4.out.later hb)
  clear hb HB4 PX4 PY4 x0 x1 x2 y0 y1 y2
  have x0 : w5.cell? ⟨w.heap.size, 0, none⟩ = some (.int .i64 a0) := PX5.out.cell 0
  have y0 : w5.cell? ⟨g, 0, none⟩ = some (.int .i64 b0) := PY5.out.cell 0
  have x1 : w5.cell? ⟨w.heap.size, 1, none⟩ = some (.int .i64 a1) := PX5.out.cell 1
  have y1 : w5.cell? ⟨g, 1, none⟩ = some (.int .i64 b1) := PY5.out.cell 1
  have x2 : w5.cell? ⟨w.heap.size, 2, none⟩ = some (.int .i64 a2) := PX5.out.cell 2
  have y2 : w5.cell? ⟨g, 2, none⟩ = some (.int .i64 b2) := PY5.out.cell 2
  go_wp2_with fail
  have q0 := bq_cell (w := w5) PX5.out.lt x0
  have q1 := bq_cell (w := w5) PX5.out.lt x1
  have q2 := bq_cell (w := w5) PX5.out.lt x2
  have r0 := bq_cell (w := w5) PY5.out.lt y0
  have r1 := bq_cell (w := w5) PY5.out.lt y1
  have r2 := bq_cell (w := w5) PY5.out.lt y2
  clear x0 x1 x2 y0 y1 y2
  refine wp_region_below mixed (by kernel_rfl) ?_
  repeat (go_big_quiet_step ((first | (go_at_call 15; exact bq_call (valid_any _ _ _ _)) | (go_at_call 16; exact bq_call (rvalid_any _ _ _ _)) | (go_at_call 17; exact bq_call (awake_any _)))))
  refine wpQuiet_nil ?_
  intro w6 hw'
  have HB6 := Lib.hid (bTr HB5.out (show Below w5.heap.size w5 w6 by obtain ⟨p, h⟩ := hw'; exact h ▸ p.h))
  clear hw' q0 q1 q2 r0 r1 r2
  go_wp2
  go_ret
  exact ⟨rfl, HB6.out⟩
end Go.Proofs.Ytlionhmmefghmaa
