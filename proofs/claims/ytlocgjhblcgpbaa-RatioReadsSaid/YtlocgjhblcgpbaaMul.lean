/-
  Contracts of Mul of package ratio.
-/
import Derived.Test.YtlocgjhblcgpbaaArith
namespace Go.Proofs.Ytlocgjhblcgpbaa
open Go.RowKit
set_option linter.unusedSimpArgs false
set_option linter.unusedVariables false

set_option maxRecDepth 100000 in
set_option maxHeartbeats 4000000 in
theorem mul_yes (a b c d : Int) (hv : Frac.valid a b = true) (hv2 : Frac.valid c d = true) (w : World) :
    Calls Try.prog 18 #[.agg #[.int .i64 a, .int .i64 b], .agg #[.int .i64 c, .int .i64 d]] w fun e w' => e = .returned (.tuple #[.agg #[.int .i64 (qn (a * c) (b * d)), .int .i64 (qd (a * c) (b * d))], .int .i64 (qe (a * c) (b * d))]) ∧ Below w.heap.size w w' := by
  obtain ⟨b0, b1, a0, a1, hab⟩ := (valid_iff a b).1 hv
  obtain ⟨d0, d1, c0, c1, hcd⟩ := (valid_iff c d).1 hv2
  obtain ⟨g, hg⟩ : ∃ g : Int, ((Nat.gcd c.natAbs b.natAbs : Nat) : Int) = g := ⟨_, rfl⟩
  obtain ⟨s1, s2, g0, x0, x1, y1, y2⟩ := mul_scale a b c d g (by omega) (by omega) hg
  have hco := mul_coprime a b c g hab (by omega) hg
  go_enter Try.func18, Try.ntmps18
  go_wp2_with fail
  refine (valid_any _ _ (by omega) (by omega) (by omega) (by omega) _).mono ?_
  rintro e w1 ⟨rfl, hb⟩
  rw [hv]
  obtain ⟨hc, hf⟩ := bcell hb
  have hz : w.heap.size + 1 + 1 < w1.heap.size := by have := hb.size; simp at this; omega
  go_wp2_with fail
  refine (valid_any _ _ (by omega) (by omega) (by omega) (by omega) _).mono ?_
  rintro e w2 ⟨rfl, hb2⟩
  rw [hv2]
  have hb3 := bTr hb hb2
  have P2 := Lib.hid (And.intro ((((Blk.newAt (w := w) (t := 26) (cs := #[.int .i64 a, .int .i64 b]) rfl).alloc _).alloc _).later hb3) (And.intro (((Blk.newAt (w := w.alloc (.cells #[.int .i64 a, .int .i64 b] 26)) (n := w.heap.size + 1) (t := 26) (cs := #[.int .i64 c, .int .i64 d]) (by simp)).alloc _).later hb3) (And.intro ((Blk.newAt (w := (w.alloc (.cells #[.int .i64 a, .int .i64 b] 26)).alloc (.cells #[.int .i64 c, .int .i64 d] 26)) (n := w.heap.size + 1 + 1) (t := 26) (cs := #[.int .i64 0, .int .i64 0]) (by simp)).later hb3) (bTr (bAl (bAl (bAl (Below.refl _ _) _) _) _) hb3))))
  clear hb hb2 hb3 hc hf hz
  obtain ⟨⟨e1, e2⟩, -, hz⟩ := P2.out.1.two
  obtain ⟨⟨e3, e4⟩, -, hz2⟩ := P2.out.2.1.two
  have hgb : g ≤ b := by rw [← hg]; have := Nat.gcd_le_right c.natAbs (show 0 < b.natAbs by omega); omega
  have hgw : wrap64 g = g := wrap_i64 g (by omega) (by omega)
  have HG := Lib.hid hg
  have HW := Lib.hid hgw
  have HCO := Lib.hid hco
  have HQ : Hid (rnum (decide (a * (c / g) < 0)) (a * (c / g)).natAbs (d.natAbs * (b / g).natAbs) = qn (a * c) (b * d) ∧ rden (a * (c / g)).natAbs (d.natAbs * (b / g).natAbs) = qd (a * c) (b * d) ∧ rerr (a * (c / g)).natAbs (d.natAbs * (b / g).natAbs) = qe (a * c) (b * d)) := by
    obtain ⟨q1, q2, q3⟩ := quot_q (a * (c / g)) d (b / g) (by omega) (by omega)
    obtain ⟨t1, t2, t3⟩ := q_scale g (a * (c / g)) (d * (b / g)) g0
    rw [s1, s2] at t1 t2 t3
    exact ⟨q1.trans t1.symm, q2.trans t2.symm, q3.trans t3.symm⟩
  have HT := Lib.hid (show IntKind.i64.wrap (c.tdiv g) = c / g by rw [IntWalk.i64_quo' c g ⟨by omega, by omega, by omega⟩, y2])
  clear hg hgw hco s1 s2 hab hcd y2
  go_wp2_with fail
  go_quiet ((first | (go_at_call 45; exact qSame (magnitude_any _ (by omega) (by omega) _)) | (go_at_call 44; exact Calls.quiet_of (gcd_any _ _ (by omega) (by omega) _))))
  rw [HG.out, HW.out]
  have P3 := Lib.hid (And.intro (P2.out.1.drewN nq) (And.intro (P2.out.2.1.drewN nq) (And.intro (P2.out.2.2.1.drewN nq) (bDr P2.out.2.2.2 nq))))
  clear e1 e2 e3 e4 hz hz2 P2
  generalize w2.drewN nq = w3 at P3 ⊢
  have KEEP := Lib.hid (show ∀ W, Below w3.heap.size w3 W → _ from fun W hW => show (W.cell? ⟨w.heap.size, 0, none⟩ = some (.int .i64 a) ∧ W.cell? ⟨w.heap.size, 1, none⟩ = some (.int .i64 b) ∧ W.cell? ⟨w.heap.size + 1, 0, none⟩ = some (.int .i64 c) ∧ W.cell? ⟨w.heap.size + 1, 1, none⟩ = some (.int .i64 d)) from ⟨((P3.out.1.later hW).two).1.1, ((P3.out.1.later hW).two).1.2, ((P3.out.2.1.later hW).two).1.1, ((P3.out.2.1.later hW).two).1.2⟩)
  obtain ⟨⟨e1, e2⟩, -, hz⟩ := P3.out.1.two
  obtain ⟨⟨e3, e4⟩, -, hz2⟩ := P3.out.2.1.two
  have HX := Lib.hid (Below.refl w3.heap.size w3)
  have hgn : ¬ g = 0 := by omega
  have pb : -9223372036854775808 ≤ d ∧ d < 9223372036854775808 ∧ -9223372036854775808 ≤ b / g ∧ b / g < 9223372036854775808 ∧ -9223372036854775808 ≤ a ∧ a < 9223372036854775808 ∧ -9223372036854775808 ≤ c / g ∧ c / g < 9223372036854775808 := by omega
  obtain ⟨pb1, pb2, pb3, pb4, pb5, pb6, pb7, pb8⟩ := pb
  have hdp : 0 < d.natAbs := by omega
  have hdq : d.natAbs < 18446744073709551616 := by omega
  have hfp : 0 < (b / g).natAbs := by omega
  have hfq : (b / g).natAbs < 18446744073709551616 := by omega
  have hzl : -170141183460469231731687303715884105728 < a * (c / g) ∧ a * (c / g) < 170141183460469231731687303715884105728 := by
    have u1 := abs_mul_le (x := a) (y := c / g) (A := 1152921504606846976) (B := 1152921504606846976) (by omega) (by omega)
    omega
  have t1 := HT.out
  have t2 : IntKind.i64.wrap (b.tdiv g) = b / g := IntWalk.i64_quo b g ⟨by omega, by omega, by omega⟩
  obtain ⟨⟨r0, r1⟩, ⟨q0, q1⟩, hzr⟩ := P3.out.2.2.1.two
  go_wp2_with fail
  go_region_held3 (fun w' => w'.cell? ⟨w.heap.size, 0, none⟩ = some (.int .i64 a) ∧ w'.cell? ⟨w.heap.size, 1, none⟩ = some (.int .i64 b) ∧ w'.cell? ⟨w.heap.size + 1, 0, none⟩ = some (.int .i64 c) ∧ w'.cell? ⟨w.heap.size + 1, 1, none⟩ = some (.int .i64 d)) (first | exact KEEP.out _ HX.out | exact KEEP.out _ (bD1 HX.out) | (go_split_ands; refine ⟨?_, ?_, ?_, ?_⟩ <;> (rw [World.cell?_setCell_other _ _ _ _ (by first | (simp; done) | (simp; omega)), World.cell?_setCell_other _ _ _ _ (by first | (simp; done) | (simp; omega))]; assumption)) | go_keep)
    (first | (go_at_call 45; refine (magnitude_any _ (by assumption) (by assumption) _).mono ?_; rintro e w' ⟨rfl, rfl⟩) | (go_at_call 46; refine (product_any _ _ _ ?_ ?_ ?_ ?_).mono ?_; (assumption); (assumption); (assumption); (assumption); rintro e w' ⟨rfl, hb⟩; (first | (have PN := Lib.hid (And.intro (Blk.later (Blk.newD _ _ _) hb) HX.out.size)) | (have PN := Lib.hid (And.intro (Blk.later (Blk.new _ _ _) hb) HX.out.size)) | (have PN := Lib.hid (And.intro (Blk.later PN.out.1 hb) PN.out.2)) | skip); (first | (obtain ⟨⟨n0, n1⟩, ⟨m0, m1⟩, nk⟩ := PN.out.1.two) | skip); have HX := Lib.hid (bTr (by first | exact HX.out | exact bD1 HX.out | exact bAl HX.out _ | exact bD1 (bAl HX.out _) | exact bAl (bD1 HX.out) _) hb)) | (go_at_call 48; refine (quotient_any _ _ _ _ hzl.1 hzl.2 hdp hdq hfp hfq HCO.out).mono ?_; rintro e w' ⟨rfl, hb⟩; (first | (have PN := Lib.hid (And.intro (Blk.later (Blk.newD _ _ _) hb) HX.out.size)) | (have PN := Lib.hid (And.intro (Blk.later (Blk.new _ _ _) hb) HX.out.size)) | (have PN := Lib.hid (And.intro (Blk.later PN.out.1 hb) PN.out.2)) | skip); (first | (obtain ⟨⟨n0, n1⟩, ⟨m0, m1⟩, nk⟩ := PN.out.1.two) | skip); have HX := Lib.hid (bTr (by first | exact HX.out | exact bD1 HX.out | exact bAl HX.out _ | exact bD1 (bAl HX.out _) | exact bAl (bD1 HX.out) _) hb); have PR := P3.out.2.2.1.later HX.out; obtain ⟨⟨r0, r1⟩, ⟨q0, q1⟩, hzr⟩ := PR.two; clear PR))
  all_goals (go_wp2; refine bodyPost_ret (v := .tuple #[.agg #[.int .i64 (rnum (decide (a * (c / g) < 0)) (a * (c / g)).natAbs (d.natAbs * (b / g).natAbs)), .int .i64 (rden (a * (c / g)).natAbs (d.natAbs * (b / g).natAbs))], .int .i64 (rerr (a * (c / g)).natAbs (d.natAbs * (b / g).natAbs))]) (by simp [results, Try.results18, go_sem, r0, r1, hzr]) rfl ⟨ret_quot HQ.out, ?_⟩; exact bSt (bSt (bTr P3.out.2.2.2 HX.out) (by simp; omega) _) (by simp; omega) _)
end Go.Proofs.Ytlocgjhblcgpbaa
