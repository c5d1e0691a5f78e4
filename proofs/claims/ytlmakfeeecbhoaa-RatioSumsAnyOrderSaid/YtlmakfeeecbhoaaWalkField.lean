/-
  The walk of the statement on the laws of a field.
-/
import Derived.Test.YtlmakfeeecbhoaaHeld
import Derived.Test.YtlmakfeeecbhoaaAwaken
namespace Go.Proofs.Ytlmakfeeecbhoaa
open Go.RowKit
set_option linter.unusedSimpArgs false
set_option linter.unusedVariables false

theorem Held.addAt {w : World} {l : List (Nat × Int × Int)} (h : Held w l) (p q : Int) {n : Nat} (e : n = w.heap.size) : Held (w.alloc (.cells #[.int .i64 p, .int .i64 q] 26)) ((n, p, q) :: l) := by subst e; exact h.add p q
theorem Held.lt {w : World} {l : List (Nat × Int × Int)} (h : Held w l) {g : Nat} {p q : Int} (hm : (g, p, q) ∈ l) : g < w.heap.size := (h _ hm).lt
theorem gBelow {a b : World} {g B : Nat} (h : a.grownBy b (some g)) (hB : B ≤ g) (hs : B ≤ a.heap.size) : Below B a b := bGr h hB hs
theorem neqR (a b c d : Int) (w : World) : (binOp .neq 26 (.agg #[.int .i64 a, .int .i64 b]) (.agg #[.int .i64 c, .int .i64 d])).run Try.prog w = .ok (.bool (!decide ((a, b) = (c, d)))) w := by
  have h := eqlR a b c d w
  rw [run_eql_struct] at h
  rw [run_neq_struct]
  cases hr : ((Op.equalIn 10000 26 (.agg #[.int .i64 a, .int .i64 b]) (.agg #[.int .i64 c, .int .i64 d])).run Try.prog w) with
  | ok r w1 =>
    rw [hr] at h
    simp only [Result.andThen_ok, Result.ok.injEq, Value.bool.injEq] at h ⊢
    obtain ⟨h1, h2⟩ := h
    exact ⟨by rw [h1], h2⟩
  | halt s w1 => rw [hr] at h; simp at h
set_option maxRecDepth 100000 in
set_option maxHeartbeats 8000000 in
theorem walkRatioField (o : Option Addr) (n c : Nat) (zs : List Int) (w : World) (h : IsRow .i64 w o n c zs) :
    Calls Try.prog 11 #[.slice o n c] w fun e w' => e = .returned (.bool true) ∧ Below w.heap.size w w' := by
  obtain ⟨hr, h1, h2, h3⟩ := row_of h
  clear h
  go_enter Try.func11, Try.ntmps11
  go_wp2_with fail
  refine (tape_new hr h1 h2 h3).mono ?_
  rintro e w1 ⟨g, n', rfl, ht, hb1, hg⟩
  clear hr h1 h2 h3
  have HG := Lib.hid hg
  have HB1 := Lib.hid hb1
  clear hg hb1
  go_wp2_with fail
  refine (tape_small ht).mono ?_
  rintro e w2 ⟨a1, a2, hpa, rfl, ht2, hg2⟩
  have HQa := Lib.hid (small_q hpa)
  have HB2 := Lib.hid (HB1.out.trans (bGr hg2 HG.out HB1.out.size))
  clear ht hpa hg2 HB1
  have ht := ht2
  clear ht2
  go_wp2_with fail
  refine (tape_small ht).mono ?_
  rintro e w3 ⟨b1, b2, hpb, rfl, ht3, hg3⟩
  have HQb := Lib.hid (small_q hpb)
  have HB3 := Lib.hid (HB2.out.trans (bGr hg3 HG.out HB2.out.size))
  clear ht hpb hg3 HB2
  have ht := ht3
  clear ht3
  go_wp2_with fail
  refine (tape_small ht).mono ?_
  rintro e w4 ⟨c1, c2, hpc, rfl, ht4, hg4⟩
  have HQc := Lib.hid (small_q hpc)
  have HB4 := Lib.hid (HB3.out.trans (bGr hg4 HG.out HB3.out.size))
  clear ht hpc hg4 HB3
  have ht := ht4
  clear ht4
  clear ht HG
  obtain ⟨hb0, hbb⟩ : (b1 = 0 ∨ 0 < b1 ∨ b1 < 0) ∧ True := ⟨by omega, trivial⟩
  clear hbb
  go_wp2_with fail
  refine (add_q HQa.out HQb.out (by decide) (by decide) _).mono ?_
  rintro e w5 ⟨ab1, ab2, hq, rfl, hb⟩
  have HQab := Lib.hid hq
  have H5 := Lib.hid (((((Held.nil w4).addAt a1 a2 (n := w4.heap.size) rfl).addAt b1 b2 (n := w4.heap.size + 1) (by simp)).addAt c1 c2 (n := w4.heap.size + 1 + 1) (by simp)).later hb)
  have HB5 := Lib.hid ((bTr (bAl (bAl (bAl (Below.refl w4.heap.size w4) _) _) _) hb))
  clear hb hq
  obtain ⟨⟨ub1, ub2⟩, -, ub3⟩ := H5.out.at_ (g := w4.heap.size + 1) (p := b1) (q := b2) (by simp)
  obtain ⟨⟨ua1, ua2⟩, -, ua3⟩ := H5.out.at_ (g := w4.heap.size) (p := a1) (q := a2) (by simp)
  go_wp2_with fail
  refine (add_q HQb.out HQa.out (by decide) (by decide) _).mono ?_
  rintro e w6 ⟨ba1, ba2, hq, rfl, hb⟩
  have HQba := Lib.hid hq
  have H6 := Lib.hid ((H5.out.add ab1 ab2).later hb)
  have HB6 := Lib.hid (bTr (bAl HB5.out _) hb)
  clear hb hq H5 HB5
  clear ub1 ub2 ub3
  clear ua1 ua2 ua3
  obtain ⟨e1, e2⟩ := HQab.out.same HQba.out (by grind)
  subst e1
  subst e2
  clear HQba
  obtain ⟨⟨ub1, ub2⟩, -, ub3⟩ := H6.out.at_ (g := w4.heap.size + 1) (p := b1) (q := b2) (by simp)
  obtain ⟨⟨uc1, uc2⟩, -, uc3⟩ := H6.out.at_ (g := w4.heap.size + 1 + 1) (p := c1) (q := c2) (by simp)
  go_wp2_with fail
  refine (add_q HQb.out HQc.out (by decide) (by decide) _).mono ?_
  rintro e w7 ⟨bc1, bc2, hq, rfl, hb⟩
  have HQbc := Lib.hid hq
  have H7 := Lib.hid ((H6.out.add ab1 ab2).later hb)
  have HB7 := Lib.hid (bTr (bAl HB6.out _) hb)
  clear hb hq H6 HB6
  clear ub1 ub2 ub3
  clear uc1 uc2 uc3
  obtain ⟨⟨uab1, uab2⟩, -, uab3⟩ := H7.out.at_ (g := w5.heap.size) (p := ab1) (q := ab2) (by simp)
  obtain ⟨⟨uc1, uc2⟩, -, uc3⟩ := H7.out.at_ (g := w4.heap.size + 1 + 1) (p := c1) (q := c2) (by simp)
  go_wp2_with fail
  refine (add_q HQab.out HQc.out (by decide) (by decide) _).mono ?_
  rintro e w8 ⟨x1, x2, hq, rfl, hb⟩
  have HQx := Lib.hid hq
  have H8 := Lib.hid ((H7.out.add bc1 bc2).later hb)
  have HB8 := Lib.hid (bTr (bAl HB7.out _) hb)
  clear hb hq H7 HB7
  clear uab1 uab2 uab3
  clear uc1 uc2 uc3
  obtain ⟨⟨ua1, ua2⟩, -, ua3⟩ := H8.out.at_ (g := w4.heap.size) (p := a1) (q := a2) (by simp)
  obtain ⟨⟨ubc1, ubc2⟩, -, ubc3⟩ := H8.out.at_ (g := w7.heap.size) (p := bc1) (q := bc2) (by simp)
  go_wp2_with fail
  refine (add_q HQa.out HQbc.out (by decide) (by decide) _).mono ?_
  rintro e w9 ⟨y1, y2, hq, rfl, hb⟩
  have HQy := Lib.hid hq
  have H9 := Lib.hid ((H8.out.add x1 x2).later hb)
  have HB9 := Lib.hid (bTr (bAl HB8.out _) hb)
  clear hb hq H8 HB8
  clear ua1 ua2 ua3
  clear ubc1 ubc2 ubc3
  obtain ⟨e1, e2⟩ := HQx.out.same HQy.out (by grind)
  subst e1
  subst e2
  clear HQy
  obtain ⟨⟨ua1, ua2⟩, -, ua3⟩ := H9.out.at_ (g := w4.heap.size) (p := a1) (q := a2) (by simp)
  obtain ⟨⟨ub1, ub2⟩, -, ub3⟩ := H9.out.at_ (g := w4.heap.size + 1) (p := b1) (q := b2) (by simp)
  go_wp2_with fail
  refine (mul_q HQa.out HQb.out (by decide) (by decide) _).mono ?_
  rintro e w10 ⟨p1, p2, hq, rfl, hb⟩
  have HQp := Lib.hid hq
  have H10 := Lib.hid ((H9.out.add x1 x2).later hb)
  have HB10 := Lib.hid (bTr (bAl HB9.out _) hb)
  clear hb hq H9 HB9
  clear ua1 ua2 ua3
  clear ub1 ub2 ub3
  obtain ⟨⟨ub1, ub2⟩, -, ub3⟩ := H10.out.at_ (g := w4.heap.size + 1) (p := b1) (q := b2) (by simp)
  obtain ⟨⟨ua1, ua2⟩, -, ua3⟩ := H10.out.at_ (g := w4.heap.size) (p := a1) (q := a2) (by simp)
  go_wp2_with fail
  refine (mul_q HQb.out HQa.out (by decide) (by decide) _).mono ?_
  rintro e w11 ⟨q1, q2, hq, rfl, hb⟩
  have HQq := Lib.hid hq
  have H11 := Lib.hid ((H10.out.add p1 p2).later hb)
  have HB11 := Lib.hid (bTr (bAl HB10.out _) hb)
  clear hb hq H10 HB10
  clear ub1 ub2 ub3
  clear ua1 ua2 ua3
  obtain ⟨e1, e2⟩ := HQp.out.same HQq.out (by grind)
  subst e1
  subst e2
  clear HQq
  obtain ⟨⟨ua1, ua2⟩, -, ua3⟩ := H11.out.at_ (g := w4.heap.size) (p := a1) (q := a2) (by simp)
  obtain ⟨⟨uc1, uc2⟩, -, uc3⟩ := H11.out.at_ (g := w4.heap.size + 1 + 1) (p := c1) (q := c2) (by simp)
  go_wp2_with fail
  refine (mul_q HQa.out HQc.out (by decide) (by decide) _).mono ?_
  rintro e w12 ⟨ac1, ac2, hq, rfl, hb⟩
  have HQac := Lib.hid hq
  have H12 := Lib.hid ((H11.out.add p1 p2).later hb)
  have HB12 := Lib.hid (bTr (bAl HB11.out _) hb)
  clear hb hq H11 HB11
  clear ua1 ua2 ua3
  clear uc1 uc2 uc3
  obtain ⟨⟨ua1, ua2⟩, -, ua3⟩ := H12.out.at_ (g := w4.heap.size) (p := a1) (q := a2) (by simp)
  obtain ⟨⟨ubc1, ubc2⟩, -, ubc3⟩ := H12.out.at_ (g := w7.heap.size) (p := bc1) (q := bc2) (by simp)
  go_wp2_with fail
  refine (mul_q HQa.out HQbc.out (by decide) (by decide) _).mono ?_
  rintro e w13 ⟨l1, l2, hq, rfl, hb⟩
  have HQl := Lib.hid hq
  have H13 := Lib.hid ((H12.out.add ac1 ac2).later hb)
  have HB13 := Lib.hid (bTr (bAl HB12.out _) hb)
  clear hb hq H12 HB12
  clear ua1 ua2 ua3
  clear ubc1 ubc2 ubc3
  obtain ⟨⟨up1, up2⟩, -, up3⟩ := H13.out.at_ (g := w10.heap.size) (p := p1) (q := p2) (by simp)
  obtain ⟨⟨uac1, uac2⟩, -, uac3⟩ := H13.out.at_ (g := w12.heap.size) (p := ac1) (q := ac2) (by simp)
  go_wp2_with fail
  refine (add_q HQp.out HQac.out (by decide) (by decide) _).mono ?_
  rintro e w14 ⟨r1, r2, hq, rfl, hb⟩
  have HQr := Lib.hid hq
  have H14 := Lib.hid ((H13.out.add l1 l2).later hb)
  have HB14 := Lib.hid (bTr (bAl HB13.out _) hb)
  clear hb hq H13 HB13
  clear up1 up2 up3
  clear uac1 uac2 uac3
  obtain ⟨e1, e2⟩ := HQl.out.same HQr.out (by grind)
  subst e1
  subst e2
  clear HQr
  obtain ⟨⟨uab1, uab2⟩, -, uab3⟩ := H14.out.at_ (g := w5.heap.size) (p := ab1) (q := ab2) (by simp)
  obtain ⟨⟨ub1, ub2⟩, -, ub3⟩ := H14.out.at_ (g := w4.heap.size + 1) (p := b1) (q := b2) (by simp)
  go_wp2_with fail
  refine (sub_q HQab.out HQb.out (by decide) (by decide) _).mono ?_
  rintro e w15 ⟨back1, back2, hq, rfl, hb⟩
  have HQback := Lib.hid hq
  have H15 := Lib.hid ((H14.out.add l1 l2).later hb)
  have HB15 := Lib.hid (bTr (bAl HB14.out _) hb)
  clear hb hq H14 HB14
  clear uab1 uab2 uab3
  clear ub1 ub2 ub3
  obtain ⟨e1, e2⟩ := HQa.out.same HQback.out (by grind)
  subst e1
  subst e2
  clear HQback
  have heq : ∀ p q W, (binOp .eql 26 (.agg #[.int .i64 p, .int .i64 q]) (.agg #[.int .i64 p, .int .i64 q])).run Try.prog W = .ok (.bool true) W := fun p q W => by rw [eqlR, decide_eq_true rfl]
  have hneq : ∀ p q W, (binOp .neq 26 (.agg #[.int .i64 p, .int .i64 q]) (.agg #[.int .i64 p, .int .i64 q])).run Try.prog W = .ok (.bool false) W := fun p q W => by rw [neqR, decide_eq_true rfl]; rfl
  obtain ⟨⟨up1, up2⟩, -, up3⟩ := H15.out.at_ (g := w10.heap.size) (p := p1) (q := p2) (by simp)
  obtain ⟨⟨ub1, ub2⟩, -, ub3⟩ := H15.out.at_ (g := w4.heap.size + 1) (p := b1) (q := b2) (by simp)
  have HBB := Lib.hid (HB4.out.trans (HB15.out.mono HB4.out.size))
  clear HB4 HB15
  have HP := HQp.out
  rcases hb0 with rfl | hbp | hbn
  · go_wp2_with fail
    refine (div_zero p1 p2 0 b2 HP.v HQb.out.v rfl _).mono ?_
    rintro e w16 ⟨rfl, hb⟩
    have HE := Lib.hid ((H15.out.add a1 a2).later hb)
    have HBE := Lib.hid (HBB.out.trans ((bTr (bAl (Below.refl w15.heap.size w15) _) hb).mono HBB.out.size))
    clear hb
    obtain ⟨⟨vab1, vab2⟩, -, vab3⟩ := HE.out.at_ (g := w5.heap.size) (p := ab1) (q := ab2) (by simp)
    obtain ⟨⟨vba1, vba2⟩, -, vba3⟩ := HE.out.at_ (g := w6.heap.size) (p := ab1) (q := ab2) (by simp)
    obtain ⟨⟨vx1, vx2⟩, -, vx3⟩ := HE.out.at_ (g := w8.heap.size) (p := x1) (q := x2) (by simp)
    obtain ⟨⟨vy1, vy2⟩, -, vy3⟩ := HE.out.at_ (g := w9.heap.size) (p := x1) (q := x2) (by simp)
    obtain ⟨⟨vp1, vp2⟩, -, vp3⟩ := HE.out.at_ (g := w10.heap.size) (p := p1) (q := p2) (by simp)
    obtain ⟨⟨vq1, vq2⟩, -, vq3⟩ := HE.out.at_ (g := w11.heap.size) (p := p1) (q := p2) (by simp)
    obtain ⟨⟨vl1, vl2⟩, -, vl3⟩ := HE.out.at_ (g := w13.heap.size) (p := l1) (q := l2) (by simp)
    obtain ⟨⟨vr1, vr2⟩, -, vr3⟩ := HE.out.at_ (g := w14.heap.size) (p := l1) (q := l2) (by simp)
    obtain ⟨⟨vback1, vback2⟩, -, vback3⟩ := HE.out.at_ (g := w15.heap.size) (p := a1) (q := a2) (by simp)
    obtain ⟨⟨va1, va2⟩, -, va3⟩ := HE.out.at_ (g := w4.heap.size) (p := a1) (q := a2) (by simp)
    obtain ⟨⟨vb1, vb2⟩, -, vb3⟩ := HE.out.at_ (g := w4.heap.size + 1) (p := 0) (q := b2) (by simp)
    go_wp2_with fail
    refine (awake_any _).mono ?_
    rintro e w17 ⟨rfl, hb⟩
    have HBF := Lib.hid (HBE.out.trans ((bTr (bAl (Below.refl w16.heap.size w16) _) hb).mono HBE.out.size))
    go_wp2
    go_ret
    exact ⟨rfl, HBF.out⟩
  · obtain ⟨e1, e2, e3⟩ := HP.divPos (a := a1) (b := a2) (c := b1) (d := b2) HQa.out.v rfl rfl hbp HQb.out.d
    have E1 := Lib.hid e1
    have E2 := Lib.hid e2
    have E3 := Lib.hid e3
    clear e1 e2 e3
    have hbz : (b1 == 0) = false := by rw [beq_eq_false_iff_ne]; omega
    go_wp2_with fail
    refine (div_pos p1 p2 b1 b2 HP.v HQb.out.v hbp _).mono ?_
    rintro e w16 ⟨rfl, hb⟩
    rw [E1.out, E2.out, E3.out]
    have HE := Lib.hid ((H15.out.add a1 a2).later hb)
    have HBE := Lib.hid (HBB.out.trans ((bTr (bAl (Below.refl w15.heap.size w15) _) hb).mono HBB.out.size))
    clear hb
    obtain ⟨⟨vab1, vab2⟩, -, vab3⟩ := HE.out.at_ (g := w5.heap.size) (p := ab1) (q := ab2) (by simp)
    obtain ⟨⟨vba1, vba2⟩, -, vba3⟩ := HE.out.at_ (g := w6.heap.size) (p := ab1) (q := ab2) (by simp)
    obtain ⟨⟨vx1, vx2⟩, -, vx3⟩ := HE.out.at_ (g := w8.heap.size) (p := x1) (q := x2) (by simp)
    obtain ⟨⟨vy1, vy2⟩, -, vy3⟩ := HE.out.at_ (g := w9.heap.size) (p := x1) (q := x2) (by simp)
    obtain ⟨⟨vp1, vp2⟩, -, vp3⟩ := HE.out.at_ (g := w10.heap.size) (p := p1) (q := p2) (by simp)
    obtain ⟨⟨vq1, vq2⟩, -, vq3⟩ := HE.out.at_ (g := w11.heap.size) (p := p1) (q := p2) (by simp)
    obtain ⟨⟨vl1, vl2⟩, -, vl3⟩ := HE.out.at_ (g := w13.heap.size) (p := l1) (q := l2) (by simp)
    obtain ⟨⟨vr1, vr2⟩, -, vr3⟩ := HE.out.at_ (g := w14.heap.size) (p := l1) (q := l2) (by simp)
    obtain ⟨⟨vback1, vback2⟩, -, vback3⟩ := HE.out.at_ (g := w15.heap.size) (p := a1) (q := a2) (by simp)
    obtain ⟨⟨va1, va2⟩, -, va3⟩ := HE.out.at_ (g := w4.heap.size) (p := a1) (q := a2) (by simp)
    obtain ⟨⟨vb1, vb2⟩, -, vb3⟩ := HE.out.at_ (g := w4.heap.size + 1) (p := b1) (q := b2) (by simp)
    go_wp2_with fail
    refine (awake_any _).mono ?_
    rintro e w17 ⟨rfl, hb⟩
    have HBF := Lib.hid (HBE.out.trans ((bTr (bAl (Below.refl w16.heap.size w16) _) hb).mono HBE.out.size))
    go_wp2
    go_ret
    exact ⟨rfl, HBF.out⟩
  · obtain ⟨e1, e2, e3⟩ := HP.divNeg (a := a1) (b := a2) (c := b1) (d := b2) HQa.out.v rfl rfl hbn HQb.out.d
    have E1 := Lib.hid e1
    have E2 := Lib.hid e2
    have E3 := Lib.hid e3
    clear e1 e2 e3
    have hbz : (b1 == 0) = false := by rw [beq_eq_false_iff_ne]; omega
    go_wp2_with fail
    refine (div_neg p1 p2 b1 b2 HP.v HQb.out.v hbn _).mono ?_
    rintro e w16 ⟨rfl, hb⟩
    rw [E1.out, E2.out, E3.out]
    have HE := Lib.hid ((H15.out.add a1 a2).later hb)
    have HBE := Lib.hid (HBB.out.trans ((bTr (bAl (Below.refl w15.heap.size w15) _) hb).mono HBB.out.size))
    clear hb
    obtain ⟨⟨vab1, vab2⟩, -, vab3⟩ := HE.out.at_ (g := w5.heap.size) (p := ab1) (q := ab2) (by simp)
    obtain ⟨⟨vba1, vba2⟩, -, vba3⟩ := HE.out.at_ (g := w6.heap.size) (p := ab1) (q := ab2) (by simp)
    obtain ⟨⟨vx1, vx2⟩, -, vx3⟩ := HE.out.at_ (g := w8.heap.size) (p := x1) (q := x2) (by simp)
    obtain ⟨⟨vy1, vy2⟩, -, vy3⟩ := HE.out.at_ (g := w9.heap.size) (p := x1) (q := x2) (by simp)
    obtain ⟨⟨vp1, vp2⟩, -, vp3⟩ := HE.out.at_ (g := w10.heap.size) (p := p1) (q := p2) (by simp)
    obtain ⟨⟨vq1, vq2⟩, -, vq3⟩ := HE.out.at_ (g := w11.heap.size) (p := p1) (q := p2) (by simp)
    obtain ⟨⟨vl1, vl2⟩, -, vl3⟩ := HE.out.at_ (g := w13.heap.size) (p := l1) (q := l2) (by simp)
    obtain ⟨⟨vr1, vr2⟩, -, vr3⟩ := HE.out.at_ (g := w14.heap.size) (p := l1) (q := l2) (by simp)
    obtain ⟨⟨vback1, vback2⟩, -, vback3⟩ := HE.out.at_ (g := w15.heap.size) (p := a1) (q := a2) (by simp)
    obtain ⟨⟨va1, va2⟩, -, va3⟩ := HE.out.at_ (g := w4.heap.size) (p := a1) (q := a2) (by simp)
    obtain ⟨⟨vb1, vb2⟩, -, vb3⟩ := HE.out.at_ (g := w4.heap.size + 1) (p := b1) (q := b2) (by simp)
    go_wp2_with fail
    refine (awake_any _).mono ?_
    rintro e w17 ⟨rfl, hb⟩
    have HBF := Lib.hid (HBE.out.trans ((bTr (bAl (Below.refl w16.heap.size w16) _) hb).mono HBE.out.size))
    go_wp2
    go_ret
    exact ⟨rfl, HBF.out⟩
end Go.Proofs.Ytlmakfeeecbhoaa
