/-
  The walk of the statement on Enemy.
-/
import Derived.Test.YtjciniffkdadaaaIKit
import Derived.Test.YtjciniffkdadaaaIDraw
import Derived.Test.YtjciniffkdadaaaIEnemyB
namespace Go.Proofs.Ytjciniffkdadaaa
open Go.RowKit
set_option linter.unusedSimpArgs false
set_option linter.unusedVariables false

theorem enemy_lit (p q : IPtr) (x y : Itm) (w : World) (hs : ItmIn w w.heap.size p x) (hs2 : ItmIn w w.heap.size q y) :
    Calls Try.prog 27 #[.agg #[.int .i64 x.id, .int .i64 x.ver, .string x.st, .slice p.o1 x.nP p.c1, .slice p.o2 x.nE p.c2], .agg #[.int .i64 y.id, .int .i64 y.ver, .string y.st, .slice q.o1 y.nP q.c1, .slice q.o2 y.nE q.c2]] w fun e w' => e = .returned (.bool (eneB x y)) ∧ Below w.heap.size w w' := enemy_any p q x y w hs hs2
theorem renemy_lit (p q : IPtr) (x y : Itm) (w : World) (hs : ItmIn w w.heap.size p x) (hs2 : ItmIn w w.heap.size q y) :
    Calls Try.prog 28 #[.agg #[.int .i64 x.id, .int .i64 x.ver, .string x.st, .slice p.o1 x.nP p.c1, .slice p.o2 x.nE p.c2], .agg #[.int .i64 y.id, .int .i64 y.ver, .string y.st, .slice q.o1 y.nP q.c1, .slice q.o2 y.nE q.c2]] w fun e w' => e = .returned (.bool (eneB x y)) ∧ Below w.heap.size w w' := renemy_any p q x y w hs hs2
attribute [local irreducible] eneB in
set_option maxRecDepth 100000 in
set_option maxHeartbeats 4000000 in
theorem walkItemEnemies (o : Option Addr) (n c : Nat) (zs : List Int) (w : World) (h0 : IsRow .i64 w o n c zs) :
    Calls Try.prog 7 #[.slice o n c] w fun e w' => e = .returned (.bool true) ∧ Below w.heap.size w w' := by
  obtain ⟨hr, h1, h2, h3⟩ := row_of h0
  go_enter Try.func7, Try.ntmps7
  go_wp2_with fail
  refine (tape_new hr h1 h2 h3).mono ?_
  rintro e w1 ⟨g, n9, rfl, ht1, hb1, hg⟩
  have T1 := Lib.hid ht1
  have HB1 := Lib.hid hb1
  have HG := Lib.hid hg
  clear ht1 hb1 hg hr h1 h2 h3
  go_wp2_with fail
  refine (tape_next 3 (by omega) (by omega) T1.out).mono ?_
  rintro e w2 ⟨a, ⟨ha0, ha1⟩, rfl, ht2, hg2⟩
  have T2 := Lib.hid ht2
  have G2 := Lib.hid hg2
  clear ht2 hg2
  go_wp2_with fail
  refine (item_any 8 a 1 (by omega) (by omega) (by omega) (by omega) T2.out).mono ?_
  rintro e w4 ⟨p, x, rfl, _, hS, ht4, hg4, _, _, _, _⟩
  have G4 := Lib.hid (gTr G2.out hg4)
  have T4 := Lib.hid (ht4.alloc (.cells (itmC p x) 33))
  have HSX := Lib.hid hS
  have hgl := ht4.lt
  clear ht4 hg4 G2 T2 T1 hS ha0 ha1
  unfold itmC at T4 ⊢
  go_wp2_with fail
  refine (tape_next 3 (by omega) (by omega) T4.out).mono ?_
  rintro e w5 ⟨b, ⟨hb0, hb1⟩, rfl, ht5, hg5⟩
  have T5 := Lib.hid ht5
  have G5 := Lib.hid (gTr (gAlc (gDr w4 0 _) _) hg5)
  have P5 := Lib.hid ((Blk.new w4 33 (itmC p x)).grown hg5 (fun e => by injection e; omega))
  clear ht5 hg5 T4
  go_wp2_with fail
  refine (item_any 8 b 1 (by omega) (by omega) (by omega) (by omega) T5.out).mono ?_
  rintro e w6 ⟨q, y, rfl, hSY, _, ht6, hg6, _, _, _, _⟩
  have G6 := Lib.hid (gTr G5.out hg6)
  have HB6 := Lib.hid (HB1.out.trans (bGr (gTr G4.out G6.out) HG.out HB1.out.size))
  have P6 := Lib.hid (P5.out.grown hg6 (fun e => by injection e; omega))
  have hbb := bAl (Below.refl _ w6) (.cells (itmC q y) 33)
  have HSX6 := Lib.hid ((HSX.out w6 G6.out).later hbb)
  have HSY6 := Lib.hid (hSY.later hbb)
  have P7 := Lib.hid (P6.out.later hbb)
  have R7 := Lib.hid (Blk.new w6 33 (itmC q y))
  have HB7 := Lib.hid (bTr HB6.out hbb)
  clear HB1 HG hSY ht6 hg6 hbb HB6 P5 P6 T5 G5 G6 G4 HSX hb0 hb1 hgl
  unfold itmC at P7 R7 HSX6 HSY6 HB7 ⊢
  go_wp2_with fail
  generalize w6.alloc _ = w7 at P7 R7 HSX6 HSY6 HB7 ⊢
  generalize w6.heap.size = gt at R7 ⊢
  generalize w4.heap.size = gs at P7 ⊢
  have q0 : ∀ q : BelowOf w7, q.to.cell? ⟨gs, 0, none⟩ = some (.int .i64 x.id) := bq_cell P7.out.lt (P7.out.cell 0)
  have q1 : ∀ q : BelowOf w7, q.to.cell? ⟨gs, 1, none⟩ = some (.int .i64 x.ver) := bq_cell P7.out.lt (P7.out.cell 1)
  have q2 : ∀ q : BelowOf w7, q.to.cell? ⟨gs, 2, none⟩ = some (.string x.st) := bq_cell P7.out.lt (P7.out.cell 2)
  have q3 : ∀ q : BelowOf w7, q.to.cell? ⟨gs, 3, none⟩ = some (.slice p.o1 x.nP p.c1) := bq_cell P7.out.lt (P7.out.cell 3)
  have q4 : ∀ q : BelowOf w7, q.to.cell? ⟨gs, 4, none⟩ = some (.slice p.o2 x.nE p.c2) := bq_cell P7.out.lt (P7.out.cell 4)
  have r0 : ∀ r : BelowOf w7, r.to.cell? ⟨gt, 0, none⟩ = some (.int .i64 y.id) := bq_cell R7.out.lt (R7.out.cell 0)
  have r1 : ∀ r : BelowOf w7, r.to.cell? ⟨gt, 1, none⟩ = some (.int .i64 y.ver) := bq_cell R7.out.lt (R7.out.cell 1)
  have r2 : ∀ r : BelowOf w7, r.to.cell? ⟨gt, 2, none⟩ = some (.string y.st) := bq_cell R7.out.lt (R7.out.cell 2)
  have r3 : ∀ r : BelowOf w7, r.to.cell? ⟨gt, 3, none⟩ = some (.slice q.o1 y.nP q.c1) := bq_cell R7.out.lt (R7.out.cell 3)
  have r4 : ∀ r : BelowOf w7, r.to.cell? ⟨gt, 4, none⟩ = some (.slice q.o2 y.nE q.c2) := bq_cell R7.out.lt (R7.out.cell 4)
  have HX' := Lib.hid (fun q : BelowOf w7 => HSX6.out.later q.h)
  have HY' := Lib.hid (fun q : BelowOf w7 => HSY6.out.later q.h)
  have hc1 := ene_comm y x
  have hc2 := ene_self x
  have hc3 : (eneB x y == eneB x y) = true := by simp
  refine wp_region_below (by kernel_rfl) (by kernel_rfl) ?_
  repeat (go_big_quiet_step ((first | (go_at_call 27; exact bq_call (enemy_lit _ _ _ _ _ (by first | exact HX'.out _ | exact HY'.out _) (by first | exact HX'.out _ | exact HY'.out _))) | (go_at_call 28; exact bq_call (renemy_lit _ _ _ _ _ (by first | exact HX'.out _ | exact HY'.out _) (by first | exact HX'.out _ | exact HY'.out _))) | (go_at_call 14; exact bq_call (awake_any _)))))
  refine wpQuiet_nil ?_
  intro w8 hw'
  have HX := Lib.hid (show Below w7.heap.size w7 w8 by obtain ⟨pw, h⟩ := hw'; exact h ▸ pw.h)
  clear hw' q0 q1 q2 q3 q4 r0 r1 r2 r3 r4
  go_wp2_with fail
  go_ret
  exact ⟨rfl, bTr HB7.out HX.out⟩
end Go.Proofs.Ytjciniffkdadaaa
