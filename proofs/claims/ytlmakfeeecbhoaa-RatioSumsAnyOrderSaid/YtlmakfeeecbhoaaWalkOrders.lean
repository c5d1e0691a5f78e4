/-
  The walk of the statement on the order of fractions.
-/
import Derived.Test.YtlmakfeeecbhoaaWalkField
import Derived.Test.YtlmakfeeecbhoaaOMath
import Derived.Test.YtlmakfeeecbhoaaQuietB
namespace Go.Proofs.Ytlmakfeeecbhoaa
open Go.RowKit
set_option linter.unusedSimpArgs false
set_option linter.unusedVariables false

def CmpIs (a b c d v : Int) : Prop := Frac.valid a b = true ∧ Frac.valid c d = true ∧ cmpR a b c d = v
theorem compare_is {a b c d v : Int} (h : CmpIs a b c d v) (w : World) :
    Calls Try.prog 29 #[.agg #[.int .i64 a, .int .i64 b], .agg #[.int .i64 c, .int .i64 d]] w fun e w' => e = .returned (.int .i64 v) ∧ Below w.heap.size w w' := by
  obtain ⟨h1, h2, rfl⟩ := h
  obtain ⟨b0, b1, a0, a1, -⟩ := (valid_iff a b).1 h1
  obtain ⟨d0, d1, c0, c1, -⟩ := (valid_iff c d).1 h2
  exact ratio_compare a b c d (by omega) (by omega) (by omega) (by omega) (by omega) (by omega) (by omega) (by omega) w
def HB (w : World) (l : List (Nat × Int × Int)) (wx : World) : Prop := Held wx l ∧ Below w.heap.size w wx
theorem HB.go {w wx w' : World} {l : List (Nat × Int × Int)} (h : HB w l wx) (hb : Below wx.heap.size wx w') : HB w l w' := ⟨h.1.later hb, bTr h.2 hb⟩
theorem HB.add {w wx : World} {l : List (Nat × Int × Int)} (h : HB w l wx) (p q : Int) : HB w ((wx.heap.size, p, q) :: l) (wx.alloc (.cells #[.int .i64 p, .int .i64 q] 26)) := ⟨h.1.add p q, bAl h.2 _⟩
set_option maxRecDepth 100000 in
set_option maxHeartbeats 8000000 in
theorem walkRatioOrders (o : Option Addr) (n c : Nat) (zs : List Int) (w : World) (h : IsRow .i64 w o n c zs) :
    Calls Try.prog 9 #[.slice o n c] w fun e w' => e = .returned (.bool true) ∧ Below w.heap.size w w' := by
  have mixed : Try.prog.follows .mixedOrders = true := by kernel_rfl
  obtain ⟨hr, h1, h2, h3⟩ := row_of h
  clear h
  go_enter Try.func9, Try.ntmps9
  go_wp2_with fail
  refine (tape_new hr h1 h2 h3).mono ?_
  rintro e w1 ⟨g, n', rfl, ht, hb1, hg⟩
  clear hr h1 h2 h3
  have HG := Lib.hid hg
  have HB1 := Lib.hid hb1
  clear hg hb1
  go_wp2_with fail
  refine (tape_ratio ht).mono ?_
  rintro e w2 ⟨a1, a2, hpa, rfl, ht2, hg2⟩
  have HVa := Lib.hid (show Frac.valid a1 a2 = true from hpa)
  have HB2 := Lib.hid (HB1.out.trans (bGr hg2 HG.out HB1.out.size))
  clear ht hpa hg2 HB1
  have ht := ht2
  clear ht2
  go_wp2_with fail
  refine (tape_ratio ht).mono ?_
  rintro e w3 ⟨b1, b2, hpb, rfl, ht3, hg3⟩
  have HVb := Lib.hid (show Frac.valid b1 b2 = true from hpb)
  have HB3 := Lib.hid (HB2.out.trans (bGr hg3 HG.out HB2.out.size))
  clear ht hpb hg3 HB2
  have ht := ht3
  clear ht3
  go_wp2_with fail
  refine (tape_small ht).mono ?_
  rintro e w4 ⟨c1, c2, hpc, rfl, ht4, hg4⟩
  have HVc := Lib.hid ((small_q hpc).v)
  have HB4 := Lib.hid (HB3.out.trans (bGr hg4 HG.out HB3.out.size))
  clear ht hpc hg4 HB3
  have ht := ht4
  clear ht4
  clear ht HG
  obtain ⟨u, hu⟩ : ∃ u, cmpR a1 a2 b1 b2 = u := ⟨_, rfl⟩
  obtain ⟨nu, hnu⟩ : ∃ nu, cmpR b1 b2 a1 a2 = nu := ⟨_, rfl⟩
  obtain ⟨v, hv⟩ : ∃ v, cmpR b1 b2 c1 c2 = v := ⟨_, rfl⟩
  obtain ⟨t, htt⟩ : ∃ t, cmpR a1 a2 c1 c2 = t := ⟨_, rfl⟩
  have hsw := cmpR_swap HVa.out HVb.out
  have hbd := cmpR_bd a1 a2 b1 b2
  have htr := cmpR_trans HVa.out HVb.out HVc.out
  have hz0 := cmpR_zero HVa.out HVb.out
  have Cab : CmpIs a1 a2 b1 b2 u := ⟨HVa.out, HVb.out, hu⟩
  have Cba : CmpIs b1 b2 a1 a2 nu := ⟨HVb.out, HVa.out, hnu⟩
  have Cbc : CmpIs b1 b2 c1 c2 v := ⟨HVb.out, HVc.out, hv⟩
  have Cac : CmpIs a1 a2 c1 c2 t := ⟨HVa.out, HVc.out, htt⟩
  rw [hu, hnu] at hsw
  rw [hu] at hbd
  rw [hu, hv, htt] at htr
  rw [hu] at hz0
  have HU := Lib.hid hu
  have TR := Lib.hid htr
  have Z0 := Lib.hid hz0
  have SW := Lib.hid hsw
  clear hu hnu hv htt hsw htr hz0
  obtain ⟨z, hz⟩ : ∃ z : Bool, (u == 0) = z := ⟨_, rfl⟩
  have EQ : ∀ W, (binOp .eql 26 (.agg #[.int .i64 a1, .int .i64 a2]) (.agg #[.int .i64 b1, .int .i64 b2])).run Try.prog W = .ok (.bool z) W := fun W => by
    rw [eqlR, ← hz]
    by_cases h0 : u = 0
    · obtain ⟨g1, g2⟩ := Z0.out.1 h0
      rw [g1, g2, h0, decide_eq_true rfl]; rfl
    · rw [decide_eq_false (fun e => h0 (Z0.out.2 (by injection e with e1 e2; exact ⟨e1, e2⟩))), beq_eq_false_iff_ne.2 h0]
  have NEG : IntKind.i64.wrap (-nu) = u := by rw [SW.out, Int.neg_neg]; exact IntWalk.i64_in _ (by omega)
  have ZZ : (z != z) = false := by cases z <;> rfl
  go_wp2_with fail
  have H5 := Lib.hid (show HB w4 [(w4.heap.size + 1 + 1, c1, c2), (w4.heap.size + 1, b1, b2), (w4.heap.size, a1, a2)] (((w4.alloc (.cells #[.int .i64 a1, .int .i64 a2] 26)).alloc (.cells #[.int .i64 b1, .int .i64 b2] 26)).alloc (.cells #[.int .i64 c1, .int .i64 c2] 26)) from ⟨((((Held.nil w4).addAt a1 a2 (n := w4.heap.size) rfl).addAt b1 b2 (n := w4.heap.size + 1) (by simp)).addAt c1 c2 (n := w4.heap.size + 1 + 1) (by simp)), bAl (bAl (bAl (Below.refl w4.heap.size w4) _) _) _⟩)
  generalize ((w4.alloc (.cells #[.int .i64 a1, .int .i64 a2] 26)).alloc (.cells #[.int .i64 b1, .int .i64 b2] 26)).alloc (.cells #[.int .i64 c1, .int .i64 c2] 26) = w5 at H5 ⊢
  have x0 : ∀ p : BelowOf w5, p.to.cell? ⟨w4.heap.size, 0, none⟩ = some (.int .i64 a1) := bq_cell (H5.out.1.lt (p := a1) (q := a2) (by simp)) (H5.out.1.at_ (p := a1) (q := a2) (by simp)).1.1
  have x1 : ∀ p : BelowOf w5, p.to.cell? ⟨w4.heap.size, 1, none⟩ = some (.int .i64 a2) := bq_cell (H5.out.1.lt (p := a1) (q := a2) (by simp)) (H5.out.1.at_ (p := a1) (q := a2) (by simp)).1.2
  have y0 : ∀ p : BelowOf w5, p.to.cell? ⟨w4.heap.size + 1, 0, none⟩ = some (.int .i64 b1) := bq_cell (H5.out.1.lt (p := b1) (q := b2) (by simp)) (H5.out.1.at_ (p := b1) (q := b2) (by simp)).1.1
  have y1 : ∀ p : BelowOf w5, p.to.cell? ⟨w4.heap.size + 1, 1, none⟩ = some (.int .i64 b2) := bq_cell (H5.out.1.lt (p := b1) (q := b2) (by simp)) (H5.out.1.at_ (p := b1) (q := b2) (by simp)).1.2
  go_wp2_with fail
  refine wp_region_below mixed (by kernel_rfl) ?_
  repeat (go_big_quiet_step (((first | (go_at_call 29; exact bq_call (compare_is (by assumption) _))))))
  refine wpQuiet_nil ?_
  intro w6 hw'
  have HR := Lib.hid (show Below w5.heap.size w5 w6 by obtain ⟨p, h⟩ := hw'; exact h ▸ p.h)
  clear hw' x0 x1 y0 y1 NEG ZZ
  have H6 := Lib.hid (H5.out.go HR.out)
  clear HR H5 EQ hz
  go_upto_region 5 with (fail)
  go_cut [52] (fun s52 wx => s52 = .bool false ∧ HB w4 [(w4.heap.size + 1 + 1, c1, c2), (w4.heap.size + 1, b1, b2), (w4.heap.size, a1, a2)] wx)
  case first =>
    by_cases hu0 : u ≤ 0
    · have tu : decide (u ≤ 0) = true := decide_eq_true hu0
      obtain ⟨⟨p0, p1⟩, -, p2⟩ := H6.out.1.at_ (g := w4.heap.size) (p := a1) (q := a2) (by simp)
      obtain ⟨⟨q0, q1⟩, -, q2⟩ := H6.out.1.at_ (g := w4.heap.size + 1) (p := b1) (q := b2) (by simp)
      go_wp2_with fail
      refine (compare_is Cab _).mono ?_
      rintro e w7 ⟨rfl, hb⟩
      have H7 := Lib.hid (H6.out.go hb)
      clear hb H6 p0 p1 p2 q0 q1 q2
      by_cases hv0 : v ≤ 0
      · have tv : decide (v ≤ 0) = true := decide_eq_true hv0
        have ht0 : t ≤ 0 := TR.out hu0 hv0
        have tt : decide (0 < t) = false := decide_eq_false (by omega)
        obtain ⟨⟨q0, q1⟩, -, q2⟩ := H7.out.1.at_ (g := w4.heap.size + 1) (p := b1) (q := b2) (by simp)
        obtain ⟨⟨s0, s1⟩, -, s2⟩ := H7.out.1.at_ (g := w4.heap.size + 1 + 1) (p := c1) (q := c2) (by simp)
        go_wp2_with fail
        refine (compare_is Cbc _).mono ?_
        rintro e w8 ⟨rfl, hb⟩
        have H8 := Lib.hid (H7.out.go hb)
        clear hb H7 q0 q1 q2 s0 s1 s2
        obtain ⟨⟨p0, p1⟩, -, p2⟩ := H8.out.1.at_ (g := w4.heap.size) (p := a1) (q := a2) (by simp)
        obtain ⟨⟨s0, s1⟩, -, s2⟩ := H8.out.1.at_ (g := w4.heap.size + 1 + 1) (p := c1) (q := c2) (by simp)
        go_wp2_with fail
        refine (compare_is Cac _).mono ?_
        rintro e w9 ⟨rfl, hb⟩
        have H9 := Lib.hid (H8.out.go hb)
        clear hb H8 p0 p1 p2 s0 s1 s2
        go_wp2_with fail
        go_meet
        exact ⟨rfl, H9.out⟩
      · have tv : decide (v ≤ 0) = false := decide_eq_false hv0
        obtain ⟨⟨q0, q1⟩, -, q2⟩ := H7.out.1.at_ (g := w4.heap.size + 1) (p := b1) (q := b2) (by simp)
        obtain ⟨⟨s0, s1⟩, -, s2⟩ := H7.out.1.at_ (g := w4.heap.size + 1 + 1) (p := c1) (q := c2) (by simp)
        go_wp2_with fail
        refine (compare_is Cbc _).mono ?_
        rintro e w8 ⟨rfl, hb⟩
        have H8 := Lib.hid (H7.out.go hb)
        clear hb H7 q0 q1 q2 s0 s1 s2
        go_wp2_with fail
        go_meet
        exact ⟨rfl, H8.out⟩
    · have tu : decide (u ≤ 0) = false := decide_eq_false hu0
      obtain ⟨⟨p0, p1⟩, -, p2⟩ := H6.out.1.at_ (g := w4.heap.size) (p := a1) (q := a2) (by simp)
      obtain ⟨⟨q0, q1⟩, -, q2⟩ := H6.out.1.at_ (g := w4.heap.size + 1) (p := b1) (q := b2) (by simp)
      go_wp2_with fail
      refine (compare_is Cab _).mono ?_
      rintro e w7 ⟨rfl, hb⟩
      have H7 := Lib.hid (H6.out.go hb)
      clear hb H6 p0 p1 p2 q0 q1 q2
      go_wp2_with fail
      go_meet
      exact ⟨rfl, H7.out⟩
  case rest =>
    obtain ⟨rfl, hh⟩ := hcut
    have H6' := Lib.hid hh
    clear hh H6
    have H6 := H6'
    clear H6'
    obtain ⟨⟨p0, p1⟩, -, p2⟩ := H6.out.1.at_ (g := w4.heap.size) (p := a1) (q := a2) (by simp)
    obtain ⟨⟨s0, s1⟩, -, s2⟩ := H6.out.1.at_ (g := w4.heap.size + 1 + 1) (p := c1) (q := c2) (by simp)
    go_wp2_with fail
    refine (add_yes a1 a2 c1 c2 HVa.out HVc.out _).mono ?_
    rintro e w7 ⟨rfl, hb⟩
    have H7 := Lib.hid (H6.out.go hb)
    clear hb H6 p0 p1 p2 s0 s1 s2
    have hA : 0 < a2 * c2 := Int.mul_pos (den_pos HVa.out) (den_pos HVc.out)
    have hB : 0 < b2 * c2 := Int.mul_pos (den_pos HVb.out) (den_pos HVc.out)
    have hqa := q_ok (a1 * c2 + c1 * a2) (a2 * c2) hA
    have hqb := q_ok (b1 * c2 + c1 * b2) (b2 * c2) hB
    have QA := Lib.hid hqa
    have QB := Lib.hid hqb
    clear hA hB hqa hqb
    generalize qn (a1 * c2 + c1 * a2) (a2 * c2) = x1 at QA ⊢
    generalize qd (a1 * c2 + c1 * a2) (a2 * c2) = x2 at QA ⊢
    generalize qe (a1 * c2 + c1 * a2) (a2 * c2) = ex at QA ⊢
    obtain ⟨⟨q0, q1⟩, -, q2⟩ := H7.out.1.at_ (g := w4.heap.size + 1) (p := b1) (q := b2) (by simp)
    obtain ⟨⟨s0, s1⟩, -, s2⟩ := H7.out.1.at_ (g := w4.heap.size + 1 + 1) (p := c1) (q := c2) (by simp)
    go_wp2_with fail
    refine (add_yes b1 b2 c1 c2 HVb.out HVc.out _).mono ?_
    rintro e w8 ⟨rfl, hb⟩
    have H8 := Lib.hid ((H7.out.add x1 x2).go hb)
    clear hb H7 q0 q1 q2 s0 s1 s2
    generalize qn (b1 * c2 + c1 * b2) (b2 * c2) = z1 at QB ⊢
    generalize qd (b1 * c2 + c1 * b2) (b2 * c2) = z2 at QB ⊢
    generalize qe (b1 * c2 + c1 * b2) (b2 * c2) = ez at QB ⊢
    go_wp2_with fail
    have H9 := Lib.hid (H8.out.add z1 z2)
    have H4 := Lib.hid (HB4.out)
    clear H8 HB4
    generalize w8.alloc (.cells #[.int .i64 z1, .int .i64 z2] 26) = w9 at H9 ⊢
    by_cases he : ex = 0
    · by_cases hf : ez = 0
      · subst he
        subst hf
        obtain ⟨vx, exx⟩ := QA.out rfl
        obtain ⟨vz, ezz⟩ := QB.out rfl
        have Cxz : CmpIs x1 x2 z1 z2 u := ⟨vx, vz, (cmpR_add HVa.out HVb.out HVc.out vx vz exx ezz).trans HU.out⟩
        clear vx exx vz ezz
        have x0 : ∀ p : BelowOf w9, p.to.cell? ⟨w7.heap.size, 0, none⟩ = some (.int .i64 x1) := bq_cell (H9.out.1.lt (p := x1) (q := x2) (by simp)) (H9.out.1.at_ (p := x1) (q := x2) (by simp)).1.1
        have x1' : ∀ p : BelowOf w9, p.to.cell? ⟨w7.heap.size, 1, none⟩ = some (.int .i64 x2) := bq_cell (H9.out.1.lt (p := x1) (q := x2) (by simp)) (H9.out.1.at_ (p := x1) (q := x2) (by simp)).1.2
        have y0 : ∀ p : BelowOf w9, p.to.cell? ⟨w8.heap.size, 0, none⟩ = some (.int .i64 z1) := bq_cell (H9.out.1.lt (p := z1) (q := z2) (by simp)) (H9.out.1.at_ (p := z1) (q := z2) (by simp)).1.1
        have y1' : ∀ p : BelowOf w9, p.to.cell? ⟨w8.heap.size, 1, none⟩ = some (.int .i64 z2) := bq_cell (H9.out.1.lt (p := z1) (q := z2) (by simp)) (H9.out.1.at_ (p := z1) (q := z2) (by simp)).1.2
        have m0 : ∀ p : BelowOf w9, p.to.cell? ⟨w4.heap.size, 0, none⟩ = some (.int .i64 a1) := bq_cell (H9.out.1.lt (p := a1) (q := a2) (by simp)) (H9.out.1.at_ (p := a1) (q := a2) (by simp)).1.1
        have m1 : ∀ p : BelowOf w9, p.to.cell? ⟨w4.heap.size, 1, none⟩ = some (.int .i64 a2) := bq_cell (H9.out.1.lt (p := a1) (q := a2) (by simp)) (H9.out.1.at_ (p := a1) (q := a2) (by simp)).1.2
        have k0 : ∀ p : BelowOf w9, p.to.cell? ⟨w4.heap.size + 1, 0, none⟩ = some (.int .i64 b1) := bq_cell (H9.out.1.lt (p := b1) (q := b2) (by simp)) (H9.out.1.at_ (p := b1) (q := b2) (by simp)).1.1
        have k1 : ∀ p : BelowOf w9, p.to.cell? ⟨w4.heap.size + 1, 1, none⟩ = some (.int .i64 b2) := bq_cell (H9.out.1.lt (p := b1) (q := b2) (by simp)) (H9.out.1.at_ (p := b1) (q := b2) (by simp)).1.2
        refine wp_region_below mixed (by kernel_rfl) ?_
        repeat (go_big_quiet_step ((first | (go_at_call 29; exact bq_call (compare_is (by assumption) _)) | (go_at_call 18; exact bq_call (awake_any _)))))
        refine wpQuiet_nil ?_
        intro w10 hw'
        have HR := Lib.hid (show Below w9.heap.size w9 w10 by obtain ⟨p, h⟩ := hw'; exact h ▸ p.h)
        clear hw' x0 x1' y0 y1' m0 m1 k0 k1
        go_wp2
        go_ret
        exact ⟨rfl, H4.out.trans ((bTr H9.out.2 HR.out).mono H4.out.size)⟩
      · have tf : (ez != 0) = true := by rw [bne_iff_ne]; exact hf
        subst he
        have x0 : ∀ p : BelowOf w9, p.to.cell? ⟨w7.heap.size, 0, none⟩ = some (.int .i64 x1) := bq_cell (H9.out.1.lt (p := x1) (q := x2) (by simp)) (H9.out.1.at_ (p := x1) (q := x2) (by simp)).1.1
        have x1' : ∀ p : BelowOf w9, p.to.cell? ⟨w7.heap.size, 1, none⟩ = some (.int .i64 x2) := bq_cell (H9.out.1.lt (p := x1) (q := x2) (by simp)) (H9.out.1.at_ (p := x1) (q := x2) (by simp)).1.2
        have y0 : ∀ p : BelowOf w9, p.to.cell? ⟨w8.heap.size, 0, none⟩ = some (.int .i64 z1) := bq_cell (H9.out.1.lt (p := z1) (q := z2) (by simp)) (H9.out.1.at_ (p := z1) (q := z2) (by simp)).1.1
        have y1' : ∀ p : BelowOf w9, p.to.cell? ⟨w8.heap.size, 1, none⟩ = some (.int .i64 z2) := bq_cell (H9.out.1.lt (p := z1) (q := z2) (by simp)) (H9.out.1.at_ (p := z1) (q := z2) (by simp)).1.2
        have m0 : ∀ p : BelowOf w9, p.to.cell? ⟨w4.heap.size, 0, none⟩ = some (.int .i64 a1) := bq_cell (H9.out.1.lt (p := a1) (q := a2) (by simp)) (H9.out.1.at_ (p := a1) (q := a2) (by simp)).1.1
        have m1 : ∀ p : BelowOf w9, p.to.cell? ⟨w4.heap.size, 1, none⟩ = some (.int .i64 a2) := bq_cell (H9.out.1.lt (p := a1) (q := a2) (by simp)) (H9.out.1.at_ (p := a1) (q := a2) (by simp)).1.2
        have k0 : ∀ p : BelowOf w9, p.to.cell? ⟨w4.heap.size + 1, 0, none⟩ = some (.int .i64 b1) := bq_cell (H9.out.1.lt (p := b1) (q := b2) (by simp)) (H9.out.1.at_ (p := b1) (q := b2) (by simp)).1.1
        have k1 : ∀ p : BelowOf w9, p.to.cell? ⟨w4.heap.size + 1, 1, none⟩ = some (.int .i64 b2) := bq_cell (H9.out.1.lt (p := b1) (q := b2) (by simp)) (H9.out.1.at_ (p := b1) (q := b2) (by simp)).1.2
        refine wp_region_below mixed (by kernel_rfl) ?_
        repeat (go_big_quiet_step ((first | (go_at_call 29; exact bq_call (compare_is (by assumption) _)) | (go_at_call 18; exact bq_call (awake_any _)))))
        refine wpQuiet_nil ?_
        intro w10 hw'
        have HR := Lib.hid (show Below w9.heap.size w9 w10 by obtain ⟨p, h⟩ := hw'; exact h ▸ p.h)
        clear hw' x0 x1' y0 y1' m0 m1 k0 k1
        go_wp2
        go_ret
        exact ⟨rfl, H4.out.trans ((bTr H9.out.2 HR.out).mono H4.out.size)⟩
    · have te : (ex != 0) = true := by rw [bne_iff_ne]; exact he
      have x0 : ∀ p : BelowOf w9, p.to.cell? ⟨w7.heap.size, 0, none⟩ = some (.int .i64 x1) := bq_cell (H9.out.1.lt (p := x1) (q := x2) (by simp)) (H9.out.1.at_ (p := x1) (q := x2) (by simp)).1.1
      have x1' : ∀ p : BelowOf w9, p.to.cell? ⟨w7.heap.size, 1, none⟩ = some (.int .i64 x2) := bq_cell (H9.out.1.lt (p := x1) (q := x2) (by simp)) (H9.out.1.at_ (p := x1) (q := x2) (by simp)).1.2
      have y0 : ∀ p : BelowOf w9, p.to.cell? ⟨w8.heap.size, 0, none⟩ = some (.int .i64 z1) := bq_cell (H9.out.1.lt (p := z1) (q := z2) (by simp)) (H9.out.1.at_ (p := z1) (q := z2) (by simp)).1.1
      have y1' : ∀ p : BelowOf w9, p.to.cell? ⟨w8.heap.size, 1, none⟩ = some (.int .i64 z2) := bq_cell (H9.out.1.lt (p := z1) (q := z2) (by simp)) (H9.out.1.at_ (p := z1) (q := z2) (by simp)).1.2
      have m0 : ∀ p : BelowOf w9, p.to.cell? ⟨w4.heap.size, 0, none⟩ = some (.int .i64 a1) := bq_cell (H9.out.1.lt (p := a1) (q := a2) (by simp)) (H9.out.1.at_ (p := a1) (q := a2) (by simp)).1.1
      have m1 : ∀ p : BelowOf w9, p.to.cell? ⟨w4.heap.size, 1, none⟩ = some (.int .i64 a2) := bq_cell (H9.out.1.lt (p := a1) (q := a2) (by simp)) (H9.out.1.at_ (p := a1) (q := a2) (by simp)).1.2
      have k0 : ∀ p : BelowOf w9, p.to.cell? ⟨w4.heap.size + 1, 0, none⟩ = some (.int .i64 b1) := bq_cell (H9.out.1.lt (p := b1) (q := b2) (by simp)) (H9.out.1.at_ (p := b1) (q := b2) (by simp)).1.1
      have k1 : ∀ p : BelowOf w9, p.to.cell? ⟨w4.heap.size + 1, 1, none⟩ = some (.int .i64 b2) := bq_cell (H9.out.1.lt (p := b1) (q := b2) (by simp)) (H9.out.1.at_ (p := b1) (q := b2) (by simp)).1.2
      refine wp_region_below mixed (by kernel_rfl) ?_
      repeat (go_big_quiet_step ((first | (go_at_call 29; exact bq_call (compare_is (by assumption) _)) | (go_at_call 18; exact bq_call (awake_any _)))))
      refine wpQuiet_nil ?_
      intro w10 hw'
      have HR := Lib.hid (show Below w9.heap.size w9 w10 by obtain ⟨p, h⟩ := hw'; exact h ▸ p.h)
      clear hw' x0 x1' y0 y1' m0 m1 k0 k1
      go_wp2
      go_ret
      exact ⟨rfl, H4.out.trans ((bTr H9.out.2 HR.out).mono H4.out.size)⟩
end Go.Proofs.Ytlmakfeeecbhoaa
