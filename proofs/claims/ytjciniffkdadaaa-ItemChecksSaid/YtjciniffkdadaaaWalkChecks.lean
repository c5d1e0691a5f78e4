/-
  The walk of the statement on Check and Total.
-/
import Derived.Test.YtjciniffkdadaaaIKit
import Derived.Test.YtjciniffkdadaaaIDraw
import Derived.Test.YtjciniffkdadaaaIPap3
namespace Go.Proofs.Ytjciniffkdadaaa
open Go.RowKit
set_option linter.unusedSimpArgs false
set_option linter.unusedVariables false

set_option maxRecDepth 100000 in
set_option maxHeartbeats 4000000 in
theorem walkItemChecks (o : Option Addr) (n c : Nat) (zs : List Int) (w : World) (h0 : IsRow .i64 w o n c zs) :
    Calls Try.prog 4 #[.slice o n c] w fun e w' => e = .returned (.bool true) ∧ Below w.heap.size w w' := by
  obtain ⟨hr, h1, h2, h3⟩ := row_of h0
  go_enter Try.func4, Try.ntmps4
  go_wp2_with fail
  refine (tape_new hr h1 h2 h3).mono ?_
  rintro e w1 ⟨g, n9, rfl, ht1, hb1, hg⟩
  have T1 := Lib.hid ht1
  have HB1 := Lib.hid hb1
  have HG := Lib.hid hg
  clear ht1 hb1 hg hr h1 h2 h3
  go_wp2_with fail
  refine (tape_next 6 (by omega) (by omega) T1.out).mono ?_
  rintro e w2 ⟨a, ⟨ha0, ha1⟩, rfl, ht2, hg2⟩
  have T2 := Lib.hid ht2
  have G2 := Lib.hid hg2
  clear ht2 hg2
  go_wp2_with fail
  refine (tape_range 1 8 (by omega) (by omega) (by omega) T2.out).mono ?_
  rintro e w3 ⟨b, ⟨hb0, hb1⟩, rfl, ht3, hg3⟩
  have T3 := Lib.hid ht3
  have G3 := Lib.hid (gTr G2.out hg3)
  clear ht3 hg3 T2 G2
  go_wp2_with fail
  refine (item_any 2 a b (by omega) (by omega) (by omega) (by omega) T3.out).mono ?_
  rintro e w4 ⟨p, x, rfl, hS, _, ht4, hg4, _, _, _, _⟩
  have HB2 := Lib.hid (HB1.out.trans (bGr (gTr G3.out hg4) HG.out HB1.out.size))
  have hb3 := bAl (Below.refl _ w4) (.cells (itmC p x) 33)
  have P3 := Lib.hid (Blk.new w4 33 (itmC p x))
  have HS3 := Lib.hid (hS.later hb3)
  have HB3 := Lib.hid (bAl HB2.out (.cells (itmC p x) 33))
  clear HB1 T1 HG hS ht4 hg4 hb3 HB2 T3 G3 ha0 ha1 hb0 hb1
  have HC := Lib.hid (fun W (hX : ItmIn W W.heap.size p x) => icheck_any p x W hX)
  have HR := Lib.hid (fun W (hX : ItmIn W W.heap.size p x) => rcheck_any p x W hX)
  have HT := Lib.hid (fun W (hX : ItmIn W W.heap.size p x) => itotal_any p x W hX)
  have HU := Lib.hid (fun W (hX : ItmIn W W.heap.size p x) => rtotal_any p x W hX)
  unfold itmC at P3 HS3 HB3 HC HR HT HU ⊢
  go_wp2_with fail
  generalize w4.alloc _ = w5 at P3 HS3 HB3 ⊢
  generalize w4.heap.size = gs at P3 ⊢
  have q0 : ∀ q : BelowOf w5, q.to.cell? ⟨gs, 0, none⟩ = some (.int .i64 x.id) := bq_cell P3.out.lt (P3.out.cell 0)
  have q1 : ∀ q : BelowOf w5, q.to.cell? ⟨gs, 1, none⟩ = some (.int .i64 x.ver) := bq_cell P3.out.lt (P3.out.cell 1)
  have q2 : ∀ q : BelowOf w5, q.to.cell? ⟨gs, 2, none⟩ = some (.string x.st) := bq_cell P3.out.lt (P3.out.cell 2)
  have q3 : ∀ q : BelowOf w5, q.to.cell? ⟨gs, 3, none⟩ = some (.slice p.o1 x.nP p.c1) := bq_cell P3.out.lt (P3.out.cell 3)
  have q4 : ∀ q : BelowOf w5, q.to.cell? ⟨gs, 4, none⟩ = some (.slice p.o2 x.nE p.c2) := bq_cell P3.out.lt (P3.out.cell 4)
  have HC' := Lib.hid (fun q : BelowOf w5 => HC.out q.to (HS3.out.later q.h))
  have HR' := Lib.hid (fun q : BelowOf w5 => HR.out q.to (HS3.out.later q.h))
  have HT' := Lib.hid (fun q : BelowOf w5 => HT.out q.to (HS3.out.later q.h))
  have HU' := Lib.hid (fun q : BelowOf w5 => HU.out q.to (HS3.out.later q.h))
  clear HC HR HT HU
  generalize x.chk = y at HC' HR'
  generalize x.tot = z at HT' HU'
  have hyy : (y == y) = true := by simp
  have hzz : (z == z) = true := by simp
  refine wp_region_below (by kernel_rfl) (by kernel_rfl) ?_
  repeat (go_big_quiet_step ((first | (go_at_call 19; exact bq_call (HC'.out _)) | (go_at_call 20; exact bq_call (HR'.out _)) | (go_at_call 21; exact bq_call (HT'.out _)) | (go_at_call 22; exact bq_call (HU'.out _)) | (go_at_call 14; exact bq_call (awake_any _)))))
  refine wpQuiet_nil ?_
  intro w6 hw'
  have HX := Lib.hid (show Below w5.heap.size w5 w6 by obtain ⟨pw, h⟩ := hw'; exact h ▸ pw.h)
  clear hw' q0 q1 q2 q3 q4
  go_wp2_with fail
  go_ret
  exact ⟨rfl, bTr HB3.out HX.out⟩
end Go.Proofs.Ytjciniffkdadaaa
