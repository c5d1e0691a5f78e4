/-
  Check of package syllabus, whole.
-/
import Derived.Test.YtglikjdgjmijfaaSChkC
namespace Go.Proofs.Ytglikjdgjmijfaa
open Go.RowKit
set_option linter.unusedSimpArgs false
set_option linter.unusedVariables false

/-- where a syllabus lies: its three slices -/
structure Ptr where
  o1 : Option Addr
  c1 : Nat
  o2 : Option Addr
  c2 : Nat
  o3 : Option Addr
  c3 : Nat
def sylC (p : Ptr) (S : Syl) : Array Value := #[.slice p.o1 S.nT p.c1, .slice p.o2 S.nO p.c2, .slice p.o3 S.nC p.c3]
structure SylIn (w : World) (B : Nat) (p : Ptr) (S : Syl) : Prop where
  t : RowT w B p.o1 S.nT S.tn S.tp
  o : RowStr w B p.o2 S.nO S.on
  c : RowC w B p.o3 S.nC S.cn S.cw S.cm
  h1 : S.nT ≤ p.c1
  h2 : S.nO ≤ p.c2
  h3 : S.nC ≤ p.c3
theorem SylIn.below {w w' : World} {B B' : Nat} {p : Ptr} {S : Syl} (h : SylIn w B p S) (hb : Below B' w w') (hB : B ≤ B') : SylIn w' B p S :=
  ⟨h.t.below hb hB, h.o.below hb hB, h.c.below hb hB, h.h1, h.h2, h.h3⟩
theorem SylIn.more {w : World} {B B' : Nat} {p : Ptr} {S : Syl} (h : SylIn w B p S) (hB : B ≤ B') : SylIn w B' p S :=
  ⟨h.t.more hB, h.o.more hB, h.c.more hB, h.h1, h.h2, h.h3⟩
/-- behind work that leaves what was there -/
theorem SylIn.later {w w' : World} {p : Ptr} {S : Syl} (h : SylIn w w.heap.size p S) (hb : Below w.heap.size w w') : SylIn w' w'.heap.size p S :=
  (h.below hb (Nat.le_refl _)).more hb.size
theorem chk_big {S : Syl} (h : S.big) : S.chk = 3 := if_pos h
theorem chk_small {S : Syl} (h : ¬ S.big) : S.chk = orE (firstE (topE S.tn S.tp) S.nT) (orE (firstE (nmE S.on) S.nO) (firstE (comE S.cn S.cw S.cm) S.nC)) := if_neg h

set_option maxRecDepth 100000 in
set_option maxHeartbeats 4000000 in
theorem check_any (p : Ptr) (S : Syl) (w : World) (hs : SylIn w w.heap.size p S) :
    Calls Try.prog 13 #[.agg (sylC p S)] w fun e w' => e = .returned (.int .i64 S.chk) ∧ Below w.heap.size w w' := by
  by_cases hbig : S.big
  · have HE := Lib.hid (chk_big hbig)
    have hbig' : 16 < S.nT ∨ 6 < S.nO ∨ 6 < S.nC := hbig
    rw [HE.out]
    clear hbig hs HE
    obtain ⟨o1, c1, o2, c2, o3, c3⟩ := p
    obtain ⟨nT, tn, tp, nO, on, nC, cn, cw, cm⟩ := S
    unfold sylC
    dsimp only at hbig' ⊢
    have hcases : (16 : Int) < (nT : Int) ∨ (¬ (16 : Int) < (nT : Int) ∧ (6 : Int) < (nO : Int)) ∨ (¬ (16 : Int) < (nT : Int) ∧ ¬ (6 : Int) < (nO : Int) ∧ (6 : Int) < (nC : Int)) := by omega
    clear hbig'
    rcases hcases with ha | ⟨ha, hb⟩ | ⟨ha, hb, hc⟩
    all_goals
      go_enter Try.func13, Try.ntmps13
      go_wp2_with fail
      go_ret
      exact ⟨rfl, bAl (Below.refl _ _) _⟩
  · have HE := Lib.hid (chk_small hbig)
    have hbig' : ¬ (16 < S.nT ∨ 6 < S.nO ∨ 6 < S.nC) := hbig
    rw [HE.out]
    clear hbig HE
    have HS := Lib.hid hs
    have H1 := Lib.hid (fun W (hb : Below w.heap.size w W) => checkTop_any p.o1 S.nT p.c1 S.tn S.tp W (HS.out.later hb).t (by omega))
    have H2 := Lib.hid (fun W (hb : Below w.heap.size w W) => checkObj_any p.o2 S.nO p.c2 _ S.on W (HS.out.later hb).o (by omega) HS.out.h2)
    have H3 := Lib.hid (fun W (hb : Below w.heap.size w W) => checkCom_any p.o3 S.nC p.c3 S.cn S.cw S.cm W (HS.out.later hb).c (by omega))
    clear hs HS
    obtain ⟨o1, c1, o2, c2, o3, c3⟩ := p
    obtain ⟨nT, tn, tp, nO, on, nC, cn, cw, cm⟩ := S
    unfold sylC
    dsimp only at hbig' H1 H2 H3 ⊢
    have ha : ¬ (16 : Int) < (nT : Int) := by omega
    have hb : ¬ (6 : Int) < (nO : Int) := by omega
    have hc : ¬ (6 : Int) < (nC : Int) := by omega
    clear hbig'
    generalize firstE (topE tn tp) nT = x1 at H1 ⊢
    generalize firstE (nmE on) nO = x2 at H2 ⊢
    generalize firstE (comE cn cw cm) nC = x3 at H3 ⊢
    go_enter Try.func13, Try.ntmps13
    go_wp2_with fail
    have P0 : Hid (Blk (w.alloc (.cells #[.slice o1 nT c1, .slice o2 nO c2, .slice o3 nC c3] 27)) w.heap.size 27 #[.slice o1 nT c1, .slice o2 nO c2, .slice o3 nC c3]) := Lib.hid (Blk.newAt rfl)
    have HB := Lib.hid (bAl (Below.refl _ w) (.cells #[.slice o1 nT c1, .slice o2 nO c2, .slice o3 nC c3] 27))
    generalize w.alloc (.cells #[.slice o1 nT c1, .slice o2 nO c2, .slice o3 nC c3] 27) = wc at P0 HB ⊢
    have q0 : ∀ p : BelowOf wc, p.to.cell? ⟨w.heap.size, 0, none⟩ = some (.slice o1 nT c1) := bq_cell P0.out.lt (P0.out.cell 0)
    have q1 : ∀ p : BelowOf wc, p.to.cell? ⟨w.heap.size, 1, none⟩ = some (.slice o2 nO c2) := bq_cell P0.out.lt (P0.out.cell 1)
    have q2 : ∀ p : BelowOf wc, p.to.cell? ⟨w.heap.size, 2, none⟩ = some (.slice o3 nC c3) := bq_cell P0.out.lt (P0.out.cell 2)
    have H1' := Lib.hid (fun p : BelowOf wc => H1.out p.to (bTr HB.out p.h))
    have H2' := Lib.hid (fun p : BelowOf wc => (H2.out p.to (bTr HB.out p.h)).mono fun e w' ⟨h1, h2⟩ => (⟨h1, bEq h2.symm⟩ : e = Ending.returned (.int .i64 x2) ∧ Below p.to.heap.size p.to w'))
    have H3' := Lib.hid (fun p : BelowOf wc => H3.out p.to (bTr HB.out p.h))
    refine wp_region_below_tail 9 (by kernel_rfl) (by kernel_rfl) ?_
    simp only [List.take_succ_cons, List.take_zero, List.drop_succ_cons, List.drop_zero]
    repeat (go_big_quiet_step ((first | (go_at_call 39; exact bq_call (H1'.out _)) | (go_at_call 40; exact bq_call (H2'.out _)) | (go_at_call 41; exact bq_call (H3'.out _)))))
    refine wpQuiet_nil ?_
    intro w6 hw'
    have HX := Lib.hid (show Below wc.heap.size wc w6 by obtain ⟨pw, h⟩ := hw'; exact h ▸ pw.h)
    clear hw' q0 q1 q2
    go_wp2_with (go_at_call 38; refine (or_three x1 x2 x3 _ _ ?_ ?_ ?_).mono ?_; (exact (Blk.newAt rfl).cell 0); (exact (Blk.newAt rfl).cell 1); (exact (Blk.newAt rfl).cell 2); rintro e w' ⟨rfl, rfl⟩)
    go_ret
    exact ⟨rfl, bAl (bTr HB.out HX.out) _⟩
end Go.Proofs.Ytglikjdgjmijfaa
