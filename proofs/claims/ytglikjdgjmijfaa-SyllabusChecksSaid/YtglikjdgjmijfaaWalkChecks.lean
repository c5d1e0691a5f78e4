/-
  The walk of the statement on Check.
-/
import Derived.Test.YtglikjdgjmijfaaSKit
namespace Go.Proofs.Ytglikjdgjmijfaa
open Go.RowKit
set_option linter.unusedSimpArgs false
set_option linter.unusedVariables false

set_option maxRecDepth 100000 in
set_option maxHeartbeats 4000000 in
theorem walkSyllabusChecks (o : Option Addr) (n c : Nat) (zs : List Int) (w : World) (h0 : IsRow .i64 w o n c zs) :
    Calls Try.prog 3 #[.slice o n c] w fun e w' => e = .returned (.bool true) ∧ Below w.heap.size w w' := by
  obtain ⟨hr, h1, h2, h3⟩ := row_of h0
  go_enter Try.func3, Try.ntmps3
  go_wp2_with fail
  refine (tape_new hr h1 h2 h3).mono ?_
  rintro e w1 ⟨g, n9, rfl, ht1, hb1, hg⟩
  go_wp2_with fail
  refine (draw_any 2 (by omega) (by omega) ht1).mono ?_
  rintro e w2 ⟨p, lt, lo, lc, rfl, hS, _, ht2, hg2, _, _, _, _, _⟩
  have HB2 := Lib.hid (hb1.trans (bGr hg2 hg hb1.size))
  generalize sylOf lt lo lc = S at hS ⊢
  have hb3 := bAl (Below.refl _ w2) (.cells (sylC p S) 27)
  have P3 := Lib.hid (Blk.new w2 27 (sylC p S))
  have HS3 := Lib.hid (hS.later hb3)
  have HB3 := Lib.hid (bAl HB2.out (.cells (sylC p S) 27))
  clear hr h1 h2 h3 hb1 ht1 hg hS ht2 hg2 hb3 HB2
  have HC := Lib.hid (fun W (hX : SylIn W W.heap.size p S) => check_any p S W hX)
  have HR := Lib.hid (fun W (hX : SylIn W W.heap.size p S) => rcheck_any p S W hX)
  unfold sylC at P3 HS3 HB3 HC HR ⊢
  go_wp2_with fail
  generalize w2.alloc _ = w3 at P3 HS3 HB3 ⊢
  generalize w2.heap.size = gs at P3 ⊢
  have q0 : ∀ q : BelowOf w3, q.to.cell? ⟨gs, 0, none⟩ = some (.slice p.o1 S.nT p.c1) := bq_cell P3.out.lt (P3.out.cell 0)
  have q1 : ∀ q : BelowOf w3, q.to.cell? ⟨gs, 1, none⟩ = some (.slice p.o2 S.nO p.c2) := bq_cell P3.out.lt (P3.out.cell 1)
  have q2 : ∀ q : BelowOf w3, q.to.cell? ⟨gs, 2, none⟩ = some (.slice p.o3 S.nC p.c3) := bq_cell P3.out.lt (P3.out.cell 2)
  have HC' := Lib.hid (fun q : BelowOf w3 => HC.out q.to (HS3.out.later q.h))
  have HR' := Lib.hid (fun q : BelowOf w3 => HR.out q.to (HS3.out.later q.h))
  generalize S.chk = x at HC' HR'
  have hxx : (x == x) = true := by simp
  refine wp_region_below (by kernel_rfl) (by kernel_rfl) ?_
  repeat (go_big_quiet_step ((first | (go_at_call 13; exact bq_call (HC'.out _)) | (go_at_call 14; exact bq_call (HR'.out _)) | (go_at_call 15; exact bq_call (awake_any _)))))
  refine wpQuiet_nil ?_
  intro w6 hw'
  have HX := Lib.hid (show Below w3.heap.size w3 w6 by obtain ⟨pw, h⟩ := hw'; exact h ▸ pw.h)
  clear hw' q0 q1 q2
  go_wp2_with fail
  go_ret
  exact ⟨retB (by simp), bTr HB3.out HX.out⟩
end Go.Proofs.Ytglikjdgjmijfaa
