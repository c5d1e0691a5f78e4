/-
  The reference's Add, Sub, Mul and Div at any numbers.
-/
import Derived.Test.YtlocgjhblcgpbaaTotal
import Derived.Test.YtlocgjhblcgpbaaReduceW
import Derived.Test.YtlocgjhblcgpbaaCompare
set_option linter.unusedVariables false
set_option linter.unusedSimpArgs false
namespace Go.Proofs.Ytlocgjhblcgpbaa
open Go.RowKit
set_option linter.unusedSimpArgs false
set_option linter.unusedVariables false

theorem reduce_z (ng : Bool) (P Q z : Int) (P0 : 0 ≤ P) (P1 : P < 340282366920938463463374607431768211456) (Q0 : 0 < Q) (Q1 : Q < 340282366920938463463374607431768211456) (hz : Rep.sgn ng P = z) (w : World) :
    Calls Try.prog 53 #[.bool ng, .agg #[.int .u64 (Rep.hi P), .int .u64 (Rep.lo P)], .agg #[.int .u64 (Rep.hi Q), .int .u64 (Rep.lo Q)]] w fun e w' => e = .returned (.tuple #[.agg #[.int .i64 (qn z Q), .int .i64 (qd z Q)], .int .i64 (qe z Q)]) ∧ Below w.heap.size w w' := by
  have h := reduce_w ng (W2.of P P.toNat (by omega)) (W2.of Q Q.toNat (by omega)) (by omega) w
  have e1 : (Rep.sgn ng (P.toNat : Int)) = z := by rw [← hz]; congr 1; omega
  have e2 : z.natAbs = P.toNat := by rw [← e1]; exact sgn_abs _ _
  have e3 : Q.natAbs = Q.toNat := by omega
  have e4 := sgn_rnum ng P.toNat Q.toNat
  rw [e1] at e4
  unfold qn qd qe
  rw [e2, e3, e4]
  exact h
theorem abs_pos {b : Int} (h : 0 < b) : (b.natAbs : Int) = b := by omega
theorem mul_abs_bd (a b : Int) (ha : a.natAbs ≤ 1152921504606846976) (hb : b.natAbs ≤ 1152921504606846976) : 0 ≤ (a.natAbs : Int) * (b.natAbs : Int) ∧ (a.natAbs : Int) * (b.natAbs : Int) ≤ 1329227995784915872903807060280344576 := by
  have h := Nat.mul_le_mul ha hb
  rw [← Int.natCast_mul]
  omega
set_option maxRecDepth 100000 in
set_option maxHeartbeats 4000000 in
theorem r_mul (a b c d : Int) (ha : I64 a) (hb : I64 b) (hc : I64 c) (hd : I64 d) (w : World) :
    Calls Try.prog 19 #[.agg #[.int .i64 a, .int .i64 b], .agg #[.int .i64 c, .int .i64 d]] w fun e w' => e = .returned (.tuple #[.agg #[.int .i64 (resN (both2 a b c d) (qn (a * c) (b * d))), .int .i64 (resN (both2 a b c d) (qd (a * c) (b * d)))], .int .i64 (resE (both2 a b c d) (qe (a * c) (b * d)))]) ∧ Below w.heap.size w w' := by
  obtain ⟨a0, a1⟩ := ha
  obtain ⟨b0, b1⟩ := hb
  obtain ⟨c0, c1⟩ := hc
  obtain ⟨d0, d1⟩ := hd
  cases hv : Frac.valid a b
  · have HY := Lib.hid (res_no (both2_no1 (c := c) (d := d) hv) (qn (a * c) (b * d)) (qd (a * c) (b * d)) (qe (a * c) (b * d)))
    go_enter Try.func19, Try.ntmps19
    go_wp2_with fail
    refine (r_valid _ _ a0 a1 b0 b1 _).mono ?_
    rintro e w1 ⟨rfl, hb⟩
    rw [hv]
    have PR := ((Blk.newAt (w := (w.alloc (.cells #[.int .i64 a, .int .i64 b] 26)).alloc (.cells #[.int .i64 c, .int .i64 d] 26)) (n := w.heap.size + 1 + 1) (t := 26) (cs := #[.int .i64 0, .int .i64 0]) (by simp)).later hb)
    obtain ⟨⟨r0, r1⟩, ⟨q0, q1⟩, hzr⟩ := PR.two
    have HBX := Lib.hid (bTr (bAl (bAl (bAl (Below.refl _ _) _) _) _) hb)
    clear PR hb
    go_wp2
    refine bodyPost_ret (v := .tuple #[.agg #[.int .i64 0, .int .i64 0], .int .i64 1]) (by simp [results, Try.results19, go_sem, r0, r1, hzr]) rfl ⟨ret3 HY.out, ?_⟩
    exact bSt (bSt HBX.out (by simp; omega) _) (by simp; omega) _
  cases hv2 : Frac.valid c d
  · have HY := Lib.hid (res_no (both2_no2 (a := a) (b := b) hv2) (qn (a * c) (b * d)) (qd (a * c) (b * d)) (qe (a * c) (b * d)))
    go_enter Try.func19, Try.ntmps19
    go_wp2_with fail
    refine (r_valid _ _ a0 a1 b0 b1 _).mono ?_
    rintro e w1 ⟨rfl, hb⟩
    rw [hv]
    obtain ⟨hc, hf⟩ := bcell hb
    have hz : w.heap.size + 1 + 1 < w1.heap.size := by have := hb.size; simp at this; omega
    go_wp2_with fail
    refine (r_valid _ _ c0 c1 d0 d1 _).mono ?_
    rintro e w2 ⟨rfl, hb2⟩
    rw [hv2]
    have hb3 := bTr hb hb2
    clear hc hf hz hb hb2
    have PR := ((Blk.newAt (w := (w.alloc (.cells #[.int .i64 a, .int .i64 b] 26)).alloc (.cells #[.int .i64 c, .int .i64 d] 26)) (n := w.heap.size + 1 + 1) (t := 26) (cs := #[.int .i64 0, .int .i64 0]) (by simp)).later hb3)
    obtain ⟨⟨r0, r1⟩, ⟨q0, q1⟩, hzr⟩ := PR.two
    have HBX := Lib.hid (bTr (bAl (bAl (bAl (Below.refl _ _) _) _) _) hb3)
    clear PR hb3
    go_wp2
    refine bodyPost_ret (v := .tuple #[.agg #[.int .i64 0, .int .i64 0], .int .i64 1]) (by simp [results, Try.results19, go_sem, r0, r1, hzr]) rfl ⟨ret3 HY.out, ?_⟩
    exact bSt (bSt HBX.out (by simp; omega) _) (by simp; omega) _
  obtain ⟨e0, e1, e2, e3, -⟩ := (valid_iff a b).1 hv
  obtain ⟨e4, e5, e6, e7, -⟩ := (valid_iff c d).1 hv2
  have hA := mul_abs_bd a c (by omega) (by omega)
  have hB := mul_abs_bd b d (by omega) (by omega)
  have hbd : 0 < (b.natAbs : Int) * (d.natAbs : Int) := Int.mul_pos (by omega) (by omega)
  have hsg := Rep.sgn_prod a c
  have HY := Lib.hid (show qn (a * c) ((b.natAbs : Int) * (d.natAbs : Int)) = resN (both2 a b c d) (qn (a * c) (b * d)) ∧ qd (a * c) ((b.natAbs : Int) * (d.natAbs : Int)) = resN (both2 a b c d) (qd (a * c) (b * d)) ∧ qe (a * c) ((b.natAbs : Int) * (d.natAbs : Int)) = resE (both2 a b c d) (qe (a * c) (b * d)) by
    rw [abs_pos (show 0 < b by omega), abs_pos (show 0 < d by omega)]
    exact res_yes (both2_yes hv hv2) _ _ _)
  have HSG := Lib.hid hsg
  clear hsg e0 e1 e2 e3 e4 e5 e6 e7
  go_enter Try.func19, Try.ntmps19
  go_wp2_with fail
  refine (r_valid _ _ (by assumption) (by assumption) (by assumption) (by assumption) _).mono ?_
  rintro e w1 ⟨rfl, hb⟩
  rw [hv]
  obtain ⟨hc, hf⟩ := bcell hb
  have hz : w.heap.size + 1 + 1 < w1.heap.size := by have := hb.size; simp at this; omega
  go_wp2_with fail
  refine (r_valid _ _ (by assumption) (by assumption) (by assumption) (by assumption) _).mono ?_
  rintro e w2 ⟨rfl, hb2⟩
  rw [hv2]
  have hb3 := bTr hb hb2
  have P2 := Lib.hid (And.intro ((((Blk.newAt (w := w) (t := 26) (cs := #[.int .i64 a, .int .i64 b]) rfl).alloc _).alloc _).later hb3) (And.intro (((Blk.newAt (w := w.alloc (.cells #[.int .i64 a, .int .i64 b] 26)) (n := w.heap.size + 1) (t := 26) (cs := #[.int .i64 c, .int .i64 d]) (by simp)).alloc _).later hb3) (And.intro ((Blk.newAt (w := (w.alloc (.cells #[.int .i64 a, .int .i64 b] 26)).alloc (.cells #[.int .i64 c, .int .i64 d] 26)) (n := w.heap.size + 1 + 1) (t := 26) (cs := #[.int .i64 0, .int .i64 0]) (by simp)).later hb3) (bTr (bAl (bAl (bAl (Below.refl _ _) _) _) _) hb3))))
  clear hb hb2 hb3 hc hf hz
  obtain ⟨⟨e1, e2⟩, -, hz⟩ := P2.out.1.two
  obtain ⟨⟨e3, e4⟩, -, hz2⟩ := P2.out.2.1.two
  have P3 := P2
  clear e1 e2 e3 e4 hz hz2 P2
  have KEEP := Lib.hid (show ∀ W, Below w2.heap.size w2 W → _ from fun W hW => show (W.cell? ⟨w.heap.size, 0, none⟩ = some (.int .i64 a) ∧ W.cell? ⟨w.heap.size, 1, none⟩ = some (.int .i64 b) ∧ W.cell? ⟨w.heap.size + 1, 0, none⟩ = some (.int .i64 c) ∧ W.cell? ⟨w.heap.size + 1, 1, none⟩ = some (.int .i64 d)) from ⟨((P3.out.1.later hW).two).1.1, ((P3.out.1.later hW).two).1.2, ((P3.out.2.1.later hW).two).1.1, ((P3.out.2.1.later hW).two).1.2⟩)
  obtain ⟨⟨e1, e2⟩, -, hz⟩ := P3.out.1.two
  obtain ⟨⟨e3, e4⟩, -, hz2⟩ := P3.out.2.1.two
  have HX := Lib.hid (Below.refl w2.heap.size w2)
  obtain ⟨⟨r0, r1⟩, ⟨q0, q1⟩, hzr⟩ := P3.out.2.2.1.two
  go_wp2_with fail
  go_region_held3 (fun w' => w'.cell? ⟨w.heap.size, 0, none⟩ = some (.int .i64 a) ∧ w'.cell? ⟨w.heap.size, 1, none⟩ = some (.int .i64 b) ∧ w'.cell? ⟨w.heap.size + 1, 0, none⟩ = some (.int .i64 c) ∧ w'.cell? ⟨w.heap.size + 1, 1, none⟩ = some (.int .i64 d)) (first | exact KEEP.out _ HX.out | exact KEEP.out _ (bD1 HX.out) | (go_split_ands; refine ⟨?_, ?_, ?_, ?_⟩ <;> (rw [World.cell?_setCell_other _ _ _ _ (by first | (simp; done) | (simp; omega)), World.cell?_setCell_other _ _ _ _ (by first | (simp; done) | (simp; omega))]; assumption)) | go_keep)
    (first | (go_at_call 52; refine (size_any _ (by assumption) (by assumption) _).mono ?_; rintro e w' ⟨rfl, rfl⟩) | (go_at_call 51; refine (r_product _ _ (by omega) (by omega) (by omega) (by omega) _).mono ?_; rintro e w' ⟨rfl, hb⟩; (first | (have PN := Lib.hid (And.intro (Blk.later (Blk.newD _ _ _) hb) HX.out.size)) | (have PN := Lib.hid (And.intro (Blk.later (Blk.new _ _ _) hb) HX.out.size)) | (have PN := Lib.hid (And.intro (Blk.later PN.out.1 hb) PN.out.2)) | skip); (first | (obtain ⟨⟨n0, n1⟩, ⟨m0, m1⟩, nk⟩ := PN.out.1.two) | skip); have HX := Lib.hid (bTr (by first | exact HX.out | exact bD1 HX.out | exact bAl HX.out _ | exact bD1 (bAl HX.out _) | exact bAl (bD1 HX.out) _) hb)) | (go_at_call 53; refine (reduce_z _ ((a.natAbs : Int) * (c.natAbs : Int)) ((b.natAbs : Int) * (d.natAbs : Int)) (a * c) hA.1 (by omega) hbd (by omega) HSG.out _).mono ?_; rintro e w' ⟨rfl, hb⟩; (first | (have PN := Lib.hid (And.intro (Blk.later (Blk.newD _ _ _) hb) HX.out.size)) | (have PN := Lib.hid (And.intro (Blk.later (Blk.new _ _ _) hb) HX.out.size)) | (have PN := Lib.hid (And.intro (Blk.later PN.out.1 hb) PN.out.2)) | skip); (first | (obtain ⟨⟨n0, n1⟩, ⟨m0, m1⟩, nk⟩ := PN.out.1.two) | skip); have HX := Lib.hid (bTr (by first | exact HX.out | exact bD1 HX.out | exact bAl HX.out _ | exact bD1 (bAl HX.out _) | exact bAl (bD1 HX.out) _) hb); have PR := P3.out.2.2.1.later HX.out; obtain ⟨⟨r0, r1⟩, ⟨q0, q1⟩, hzr⟩ := PR.two; clear PR))
  all_goals (go_wp2; refine bodyPost_ret (v := .tuple #[.agg #[.int .i64 (qn (a * c) ((b.natAbs : Int) * (d.natAbs : Int))), .int .i64 (qd (a * c) ((b.natAbs : Int) * (d.natAbs : Int)))], .int .i64 (qe (a * c) ((b.natAbs : Int) * (d.natAbs : Int)))]) (by simp [results, Try.results19, go_sem, r0, r1, hzr]) rfl ⟨ret3 HY.out, ?_⟩; exact bSt (bSt (bTr P3.out.2.2.2 HX.out) (by simp; omega) _) (by simp; omega) _)
theorem div_sgn_pos (a c d : Int) (hd : 0 < d) (hc : 0 < c) : Rep.sgn (!decide (a < 0) == decide (c < 0)) ((a.natAbs : Int) * (d.natAbs : Int)) = a * d := by
  have := Rep.sgn_prod a d
  rw [decide_eq_false (show ¬ d < 0 by omega)] at this
  rw [decide_eq_false (show ¬ c < 0 by omega)]; exact this
theorem div_sgn_neg (a c d : Int) (hd : 0 < d) (hc : c < 0) : Rep.sgn (!decide (a < 0) == decide (c < 0)) ((a.natAbs : Int) * (d.natAbs : Int)) = a * -d := by
  have := Rep.sgn_prod a (-d)
  rw [decide_eq_true (show -d < 0 by omega), Int.natAbs_neg] at this
  rw [decide_eq_true hc]; exact this
set_option maxRecDepth 100000 in
set_option maxHeartbeats 4000000 in
theorem r_div (a b c d : Int) (ha : I64 a) (hb : I64 b) (hc : I64 c) (hd : I64 d) (w : World) :
    Calls Try.prog 21 #[.agg #[.int .i64 a, .int .i64 b], .agg #[.int .i64 c, .int .i64 d]] w fun e w' => e = .returned (.tuple #[.agg #[.int .i64 (resN (both2 a b c d) (dvN a b c d)), .int .i64 (resN (both2 a b c d) (dvD a b c d))], .int .i64 (resE (both2 a b c d) (dvE a b c d))]) ∧ Below w.heap.size w w' := by
  obtain ⟨a0, a1⟩ := ha
  obtain ⟨b0, b1⟩ := hb
  obtain ⟨c0, c1⟩ := hc
  obtain ⟨d0, d1⟩ := hd
  cases hv : Frac.valid a b
  · have HY := Lib.hid (res_no (both2_no1 (c := c) (d := d) hv) (dvN a b c d) (dvD a b c d) (dvE a b c d))
    go_enter Try.func21, Try.ntmps21
    go_wp2_with fail
    refine (r_valid _ _ a0 a1 b0 b1 _).mono ?_
    rintro e w1 ⟨rfl, hb⟩
    rw [hv]
    have PR := ((Blk.newAt (w := (w.alloc (.cells #[.int .i64 a, .int .i64 b] 26)).alloc (.cells #[.int .i64 c, .int .i64 d] 26)) (n := w.heap.size + 1 + 1) (t := 26) (cs := #[.int .i64 0, .int .i64 0]) (by simp)).later hb)
    obtain ⟨⟨r0, r1⟩, ⟨q0, q1⟩, hzr⟩ := PR.two
    have HBX := Lib.hid (bTr (bAl (bAl (bAl (Below.refl _ _) _) _) _) hb)
    clear PR hb
    go_wp2
    refine bodyPost_ret (v := .tuple #[.agg #[.int .i64 0, .int .i64 0], .int .i64 1]) (by simp [results, Try.results21, go_sem, r0, r1, hzr]) rfl ⟨ret3 HY.out, ?_⟩
    exact bSt (bSt HBX.out (by simp; omega) _) (by simp; omega) _
  cases hv2 : Frac.valid c d
  · have HY := Lib.hid (res_no (both2_no2 (a := a) (b := b) hv2) (dvN a b c d) (dvD a b c d) (dvE a b c d))
    go_enter Try.func21, Try.ntmps21
    go_wp2_with fail
    refine (r_valid _ _ a0 a1 b0 b1 _).mono ?_
    rintro e w1 ⟨rfl, hb⟩
    rw [hv]
    obtain ⟨hc, hf⟩ := bcell hb
    have hz : w.heap.size + 1 + 1 < w1.heap.size := by have := hb.size; simp at this; omega
    go_wp2_with fail
    refine (r_valid _ _ c0 c1 d0 d1 _).mono ?_
    rintro e w2 ⟨rfl, hb2⟩
    rw [hv2]
    have hb3 := bTr hb hb2
    clear hc hf hz hb hb2
    have PR := ((Blk.newAt (w := (w.alloc (.cells #[.int .i64 a, .int .i64 b] 26)).alloc (.cells #[.int .i64 c, .int .i64 d] 26)) (n := w.heap.size + 1 + 1) (t := 26) (cs := #[.int .i64 0, .int .i64 0]) (by simp)).later hb3)
    obtain ⟨⟨r0, r1⟩, ⟨q0, q1⟩, hzr⟩ := PR.two
    have HBX := Lib.hid (bTr (bAl (bAl (bAl (Below.refl _ _) _) _) _) hb3)
    clear PR hb3
    go_wp2
    refine bodyPost_ret (v := .tuple #[.agg #[.int .i64 0, .int .i64 0], .int .i64 1]) (by simp [results, Try.results21, go_sem, r0, r1, hzr]) rfl ⟨ret3 HY.out, ?_⟩
    exact bSt (bSt HBX.out (by simp; omega) _) (by simp; omega) _
  obtain ⟨e0, e1, e2, e3, -⟩ := (valid_iff a b).1 hv
  obtain ⟨e4, e5, e6, e7, -⟩ := (valid_iff c d).1 hv2
  by_cases hc0 : c = 0
  · subst hc0
    have HY := Lib.hid (show 0 = resN (both2 a b 0 d) (dvN a b 0 d) ∧ 0 = resN (both2 a b 0 d) (dvD a b 0 d) ∧ 2 = resE (both2 a b 0 d) (dvE a b 0 d) by
      obtain ⟨k1, k2, k3⟩ := dv_zero a b d
      rw [k1, k2, k3]
      exact res_yes (both2_yes hv hv2) _ _ _)
    clear e0 e1 e2 e3 e4 e5 e6 e7
    go_enter Try.func21, Try.ntmps21
    go_wp2_with fail
    refine (r_valid _ _ (by assumption) (by assumption) (by assumption) (by assumption) _).mono ?_
    rintro e w1 ⟨rfl, hb⟩
    rw [hv]
    obtain ⟨hc, hf⟩ := bcell hb
    have hz : w.heap.size + 1 + 1 < w1.heap.size := by have := hb.size; simp at this; omega
    go_wp2_with fail
    refine (r_valid _ _ (by assumption) (by assumption) (by assumption) (by assumption) _).mono ?_
    rintro e w2 ⟨rfl, hb2⟩
    rw [hv2]
    have hb3 := bTr hb hb2
    have P2 := Lib.hid (And.intro ((((Blk.newAt (w := w) (t := 26) (cs := #[.int .i64 a, .int .i64 b]) rfl).alloc _).alloc _).later hb3) (And.intro (((Blk.newAt (w := w.alloc (.cells #[.int .i64 a, .int .i64 b] 26)) (n := w.heap.size + 1) (t := 26) (cs := #[.int .i64 0, .int .i64 d]) (by simp)).alloc _).later hb3) (And.intro ((Blk.newAt (w := (w.alloc (.cells #[.int .i64 a, .int .i64 b] 26)).alloc (.cells #[.int .i64 0, .int .i64 d] 26)) (n := w.heap.size + 1 + 1) (t := 26) (cs := #[.int .i64 0, .int .i64 0]) (by simp)).later hb3) (bTr (bAl (bAl (bAl (Below.refl _ _) _) _) _) hb3))))
    clear hb hb2 hb3 hc hf hz
    obtain ⟨⟨e1, e2⟩, -, hz⟩ := P2.out.1.two
    obtain ⟨⟨e3, e4⟩, -, hz2⟩ := P2.out.2.1.two
    obtain ⟨⟨r0, r1⟩, ⟨q0, q1⟩, hzr⟩ := P2.out.2.2.1.two
    go_wp2
    refine bodyPost_ret (v := .tuple #[.agg #[.int .i64 0, .int .i64 0], .int .i64 2]) (by simp [results, Try.results21, go_sem, r0, r1, hzr]) rfl ⟨ret3 HY.out, ?_⟩
    exact bSt (bSt P2.out.2.2.2 (by simp; omega) _) (by simp; omega) _
  obtain ⟨zz, hsg, hnn⟩ : ∃ zz : Int, Rep.sgn (!decide (a < 0) == decide (c < 0)) ((a.natAbs : Int) * (d.natAbs : Int)) = zz ∧ (qn zz ((b.natAbs : Int) * (c.natAbs : Int)) = dvN a b c d ∧ qd zz ((b.natAbs : Int) * (c.natAbs : Int)) = dvD a b c d ∧ qe zz ((b.natAbs : Int) * (c.natAbs : Int)) = dvE a b c d) := by
    rcases Int.lt_trichotomy c 0 with h | h | h
    · refine ⟨_, div_sgn_neg a c d (by omega) h, ?_⟩
      obtain ⟨k1, k2, k3⟩ := dv_neg (a := a) (b := b) (d := d) h
      rw [k1, k2, k3, abs_pos (show 0 < b by omega), show (c.natAbs : Int) = -c by omega]
      exact ⟨rfl, rfl, rfl⟩
    · exact absurd h hc0
    · refine ⟨_, div_sgn_pos a c d (by omega) h, ?_⟩
      obtain ⟨k1, k2, k3⟩ := dv_pos (a := a) (b := b) (d := d) h
      rw [k1, k2, k3, abs_pos (show 0 < b by omega), abs_pos h]
      exact ⟨rfl, rfl, rfl⟩
  have hA := mul_abs_bd a d (by omega) (by omega)
  have hB := mul_abs_bd b c (by omega) (by omega)
  have hbc : 0 < (b.natAbs : Int) * (c.natAbs : Int) := Int.mul_pos (by omega) (by omega)
  have hcz : (c == 0) = false := by rw [beq_eq_false_iff_ne]; exact hc0
  have HY := Lib.hid (show qn zz ((b.natAbs : Int) * (c.natAbs : Int)) = resN (both2 a b c d) (dvN a b c d) ∧ qd zz ((b.natAbs : Int) * (c.natAbs : Int)) = resN (both2 a b c d) (dvD a b c d) ∧ qe zz ((b.natAbs : Int) * (c.natAbs : Int)) = resE (both2 a b c d) (dvE a b c d) by
    rw [hnn.1, hnn.2.1, hnn.2.2]
    exact res_yes (both2_yes hv hv2) _ _ _)
  have HSG := Lib.hid hsg
  clear hsg hnn e0 e1 e2 e3 e4 e5 e6 e7
  go_enter Try.func21, Try.ntmps21
  go_wp2_with fail
  refine (r_valid _ _ (by assumption) (by assumption) (by assumption) (by assumption) _).mono ?_
  rintro e w1 ⟨rfl, hb⟩
  rw [hv]
  obtain ⟨hc, hf⟩ := bcell hb
  have hz : w.heap.size + 1 + 1 < w1.heap.size := by have := hb.size; simp at this; omega
  go_wp2_with fail
  refine (r_valid _ _ (by assumption) (by assumption) (by assumption) (by assumption) _).mono ?_
  rintro e w2 ⟨rfl, hb2⟩
  rw [hv2]
  have hb3 := bTr hb hb2
  have P2 := Lib.hid (And.intro ((((Blk.newAt (w := w) (t := 26) (cs := #[.int .i64 a, .int .i64 b]) rfl).alloc _).alloc _).later hb3) (And.intro (((Blk.newAt (w := w.alloc (.cells #[.int .i64 a, .int .i64 b] 26)) (n := w.heap.size + 1) (t := 26) (cs := #[.int .i64 c, .int .i64 d]) (by simp)).alloc _).later hb3) (And.intro ((Blk.newAt (w := (w.alloc (.cells #[.int .i64 a, .int .i64 b] 26)).alloc (.cells #[.int .i64 c, .int .i64 d] 26)) (n := w.heap.size + 1 + 1) (t := 26) (cs := #[.int .i64 0, .int .i64 0]) (by simp)).later hb3) (bTr (bAl (bAl (bAl (Below.refl _ _) _) _) _) hb3))))
  clear hb hb2 hb3 hc hf hz
  obtain ⟨⟨e1, e2⟩, -, hz⟩ := P2.out.1.two
  obtain ⟨⟨e3, e4⟩, -, hz2⟩ := P2.out.2.1.two
  have P3 := P2
  clear e1 e2 e3 e4 hz hz2 P2
  have KEEP := Lib.hid (show ∀ W, Below w2.heap.size w2 W → _ from fun W hW => show (W.cell? ⟨w.heap.size, 0, none⟩ = some (.int .i64 a) ∧ W.cell? ⟨w.heap.size, 1, none⟩ = some (.int .i64 b) ∧ W.cell? ⟨w.heap.size + 1, 0, none⟩ = some (.int .i64 c) ∧ W.cell? ⟨w.heap.size + 1, 1, none⟩ = some (.int .i64 d)) from ⟨((P3.out.1.later hW).two).1.1, ((P3.out.1.later hW).two).1.2, ((P3.out.2.1.later hW).two).1.1, ((P3.out.2.1.later hW).two).1.2⟩)
  obtain ⟨⟨e1, e2⟩, -, hz⟩ := P3.out.1.two
  obtain ⟨⟨e3, e4⟩, -, hz2⟩ := P3.out.2.1.two
  have HX := Lib.hid (Below.refl w2.heap.size w2)
  obtain ⟨⟨r0, r1⟩, ⟨q0, q1⟩, hzr⟩ := P3.out.2.2.1.two
  go_wp2_with fail
  go_region_held3 (fun w' => w'.cell? ⟨w.heap.size, 0, none⟩ = some (.int .i64 a) ∧ w'.cell? ⟨w.heap.size, 1, none⟩ = some (.int .i64 b) ∧ w'.cell? ⟨w.heap.size + 1, 0, none⟩ = some (.int .i64 c) ∧ w'.cell? ⟨w.heap.size + 1, 1, none⟩ = some (.int .i64 d)) (first | exact KEEP.out _ HX.out | exact KEEP.out _ (bD1 HX.out) | (go_split_ands; refine ⟨?_, ?_, ?_, ?_⟩ <;> (rw [World.cell?_setCell_other _ _ _ _ (by first | (simp; done) | (simp; omega)), World.cell?_setCell_other _ _ _ _ (by first | (simp; done) | (simp; omega))]; assumption)) | go_keep)
    (first | (go_at_call 52; refine (size_any _ (by assumption) (by assumption) _).mono ?_; rintro e w' ⟨rfl, rfl⟩) | (go_at_call 51; refine (r_product _ _ (by omega) (by omega) (by omega) (by omega) _).mono ?_; rintro e w' ⟨rfl, hb⟩; (first | (have PN := Lib.hid (And.intro (Blk.later (Blk.newD _ _ _) hb) HX.out.size)) | (have PN := Lib.hid (And.intro (Blk.later (Blk.new _ _ _) hb) HX.out.size)) | (have PN := Lib.hid (And.intro (Blk.later PN.out.1 hb) PN.out.2)) | skip); (first | (obtain ⟨⟨n0, n1⟩, ⟨m0, m1⟩, nk⟩ := PN.out.1.two) | skip); have HX := Lib.hid (bTr (by first | exact HX.out | exact bD1 HX.out | exact bAl HX.out _ | exact bD1 (bAl HX.out _) | exact bAl (bD1 HX.out) _) hb)) | (go_at_call 53; refine (reduce_z _ ((a.natAbs : Int) * (d.natAbs : Int)) ((b.natAbs : Int) * (c.natAbs : Int)) zz hA.1 (by omega) hbc (by omega) HSG.out _).mono ?_; rintro e w' ⟨rfl, hb⟩; (first | (have PN := Lib.hid (And.intro (Blk.later (Blk.newD _ _ _) hb) HX.out.size)) | (have PN := Lib.hid (And.intro (Blk.later (Blk.new _ _ _) hb) HX.out.size)) | (have PN := Lib.hid (And.intro (Blk.later PN.out.1 hb) PN.out.2)) | skip); (first | (obtain ⟨⟨n0, n1⟩, ⟨m0, m1⟩, nk⟩ := PN.out.1.two) | skip); have HX := Lib.hid (bTr (by first | exact HX.out | exact bD1 HX.out | exact bAl HX.out _ | exact bD1 (bAl HX.out _) | exact bAl (bD1 HX.out) _) hb); have PR := P3.out.2.2.1.later HX.out; obtain ⟨⟨r0, r1⟩, ⟨q0, q1⟩, hzr⟩ := PR.two; clear PR))
  all_goals (go_wp2; refine bodyPost_ret (v := .tuple #[.agg #[.int .i64 (qn (zz) ((b.natAbs : Int) * (c.natAbs : Int))), .int .i64 (qd (zz) ((b.natAbs : Int) * (c.natAbs : Int)))], .int .i64 (qe (zz) ((b.natAbs : Int) * (c.natAbs : Int)))]) (by simp [results, Try.results21, go_sem, r0, r1, hzr]) rfl ⟨ret3 HY.out, ?_⟩; exact bSt (bSt (bTr P3.out.2.2.2 HX.out) (by simp; omega) _) (by simp; omega) _)
end Go.Proofs.Ytlocgjhblcgpbaa
