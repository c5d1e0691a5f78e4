/-
  Contracts of Sub and Div of package ratio.
-/
import Derived.Test.YtlocgjhblcgpbaaMul
namespace Go.Proofs.Ytlocgjhblcgpbaa
open Go.RowKit
set_option linter.unusedSimpArgs false
set_option linter.unusedVariables false

set_option maxHeartbeats 2000000 in
theorem sub_yes (a b c d : Int) (hv : Frac.valid a b = true) (hv2 : Frac.valid c d = true) (w : World) :
    Calls Try.prog 15 #[.agg #[.int .i64 a, .int .i64 b], .agg #[.int .i64 c, .int .i64 d]] w fun e w' => e = .returned (.tuple #[.agg #[.int .i64 (qn (a * d + -c * b) (b * d)), .int .i64 (qd (a * d + -c * b) (b * d))], .int .i64 (qe (a * d + -c * b) (b * d))]) ∧ Below w.heap.size w w' := by
  obtain ⟨b0, b1, a0, a1, hab⟩ := (valid_iff a b).1 hv
  obtain ⟨d0, d1, c0, c1, hcd⟩ := (valid_iff c d).1 hv2
  clear hab hcd
  go_enter Try.func15, Try.ntmps15
  go_wp2_with fail
  refine (valid_any _ _ (by omega) (by omega) (by omega) (by omega) _).mono ?_
  rintro e w1 ⟨rfl, hb⟩
  rw [hv2]
  have P1 := Lib.hid (And.intro ((((Blk.newAt (w := w) (t := 26) (cs := #[.int .i64 a, .int .i64 b]) rfl).alloc _).alloc _).later hb) (And.intro (((Blk.newAt (w := w.alloc (.cells #[.int .i64 a, .int .i64 b] 26)) (n := w.heap.size + 1) (t := 26) (cs := #[.int .i64 c, .int .i64 d]) (by simp)).alloc _).later hb) (And.intro ((Blk.newAt (w := (w.alloc (.cells #[.int .i64 a, .int .i64 b] 26)).alloc (.cells #[.int .i64 c, .int .i64 d] 26)) (n := w.heap.size + 1 + 1) (t := 26) (cs := #[.int .i64 0, .int .i64 0]) (by simp)).later hb) (bTr (bAl (bAl (bAl (Below.refl _ _) _) _) _) hb))))
  clear hb
  obtain ⟨⟨e1, e2⟩, -, hz⟩ := P1.out.1.two
  obtain ⟨⟨e3, e4⟩, -, hz2⟩ := P1.out.2.1.two
  obtain ⟨⟨r0, r1⟩, ⟨q0, q1⟩, hzr⟩ := P1.out.2.2.1.two
  go_wp2_with fail
  refine (add_yes a b (-c) d hv (valid_neg hv2) _).mono ?_
  rintro e w2 ⟨rfl, hb2⟩
  have PR := P1.out.2.2.1.later hb2
  clear r0 r1 q0 q1 hzr
  obtain ⟨⟨r0, r1⟩, ⟨q0, q1⟩, hzr⟩ := PR.two
  have HB2 := Lib.hid (bTr P1.out.2.2.2 hb2)
  clear PR hb2
  go_wp2
  refine bodyPost_ret (v := .tuple #[.agg #[.int .i64 (qn (a * d + -c * b) (b * d)), .int .i64 (qd (a * d + -c * b) (b * d))], .int .i64 (qe (a * d + -c * b) (b * d))]) (by simp [results, Try.results15, go_sem, r0, r1, hzr]) rfl ⟨rfl, ?_⟩
  exact bSt (bSt HB2.out (by simp; omega) _) (by simp; omega) _
set_option maxHeartbeats 2000000 in
theorem div_zero (a b c d : Int) (hv : Frac.valid a b = true) (hv2 : Frac.valid c d = true) (hc0 : c = 0) (w : World) :
    Calls Try.prog 20 #[.agg #[.int .i64 a, .int .i64 b], .agg #[.int .i64 c, .int .i64 d]] w fun e w' => e = .returned (.tuple #[.agg #[.int .i64 (0), .int .i64 (0)], .int .i64 (2)]) ∧ Below w.heap.size w w' := by
  obtain ⟨b0, b1, a0, a1, hab⟩ := (valid_iff a b).1 hv
  obtain ⟨d0, d1, c0, c1, hcd⟩ := (valid_iff c d).1 hv2
  clear hab hcd
  subst hc0
  go_enter Try.func20, Try.ntmps20
  go_wp2_with fail
  refine (valid_any _ _ (by omega) (by omega) (by omega) (by omega) _).mono ?_
  rintro e w1 ⟨rfl, hb⟩
  rw [hv]
  obtain ⟨hc, hf⟩ := bcell hb
  have hz : w.heap.size + 1 + 1 < w1.heap.size := by have := hb.size; simp at this; omega
  go_wp2_with fail
  refine (valid_any _ _ (by omega) (by omega) (by omega) (by omega) _).mono ?_
  rintro e w2 ⟨rfl, hb2⟩
  rw [hv2]
  have hb3 := bTr hb hb2
  clear hc hf hz
  have P1 := Lib.hid (And.intro ((((Blk.newAt (w := w) (t := 26) (cs := #[.int .i64 a, .int .i64 b]) rfl).alloc _).alloc _).later hb3) (And.intro (((Blk.newAt (w := w.alloc (.cells #[.int .i64 a, .int .i64 b] 26)) (n := w.heap.size + 1) (t := 26) (cs := #[.int .i64 0, .int .i64 d]) (by simp)).alloc _).later hb3) (And.intro ((Blk.newAt (w := (w.alloc (.cells #[.int .i64 a, .int .i64 b] 26)).alloc (.cells #[.int .i64 0, .int .i64 d] 26)) (n := w.heap.size + 1 + 1) (t := 26) (cs := #[.int .i64 0, .int .i64 0]) (by simp)).later hb3) (bTr (bAl (bAl (bAl (Below.refl _ _) _) _) _) hb3))))
  clear hb hb2 hb3
  obtain ⟨⟨e1, e2⟩, -, hz⟩ := P1.out.1.two
  obtain ⟨⟨e3, e4⟩, -, hz2⟩ := P1.out.2.1.two
  obtain ⟨⟨r0, r1⟩, ⟨q0, q1⟩, hzr⟩ := P1.out.2.2.1.two
  go_wp2
  refine bodyPost_ret (v := .tuple #[.agg #[.int .i64 0, .int .i64 0], .int .i64 2]) (by simp [results, Try.results20, go_sem, r0, r1, hzr]) rfl ⟨rfl, ?_⟩
  exact bSt (bSt P1.out.2.2.2 (by simp; omega) _) (by simp; omega) _
set_option maxHeartbeats 2000000 in
theorem div_pos (a b c d : Int) (hv : Frac.valid a b = true) (hv2 : Frac.valid c d = true) (hc0 : 0 < c) (w : World) :
    Calls Try.prog 20 #[.agg #[.int .i64 a, .int .i64 b], .agg #[.int .i64 c, .int .i64 d]] w fun e w' => e = .returned (.tuple #[.agg #[.int .i64 (qn (a * d) (b * c)), .int .i64 (qd (a * d) (b * c))], .int .i64 (qe (a * d) (b * c))]) ∧ Below w.heap.size w w' := by
  obtain ⟨b0, b1, a0, a1, hab⟩ := (valid_iff a b).1 hv
  obtain ⟨d0, d1, c0, c1, hcd⟩ := (valid_iff c d).1 hv2
  clear hab hcd
  have hcz : (c == 0) = false := by rw [beq_eq_false_iff_ne]; omega
  go_enter Try.func20, Try.ntmps20
  go_wp2_with fail
  refine (valid_any _ _ (by omega) (by omega) (by omega) (by omega) _).mono ?_
  rintro e w1 ⟨rfl, hb⟩
  rw [hv]
  obtain ⟨hc, hf⟩ := bcell hb
  have hz : w.heap.size + 1 + 1 < w1.heap.size := by have := hb.size; simp at this; omega
  go_wp2_with fail
  refine (valid_any _ _ (by omega) (by omega) (by omega) (by omega) _).mono ?_
  rintro e w2 ⟨rfl, hb2⟩
  rw [hv2]
  have hb3 := bTr hb hb2
  clear hc hf hz
  have P1 := Lib.hid (And.intro ((((Blk.newAt (w := w) (t := 26) (cs := #[.int .i64 a, .int .i64 b]) rfl).alloc _).alloc _).later hb3) (And.intro (((Blk.newAt (w := w.alloc (.cells #[.int .i64 a, .int .i64 b] 26)) (n := w.heap.size + 1) (t := 26) (cs := #[.int .i64 c, .int .i64 d]) (by simp)).alloc _).later hb3) (And.intro ((Blk.newAt (w := (w.alloc (.cells #[.int .i64 a, .int .i64 b] 26)).alloc (.cells #[.int .i64 c, .int .i64 d] 26)) (n := w.heap.size + 1 + 1) (t := 26) (cs := #[.int .i64 0, .int .i64 0]) (by simp)).later hb3) (bTr (bAl (bAl (bAl (Below.refl _ _) _) _) _) hb3))))
  clear hb hb2 hb3
  obtain ⟨⟨e1, e2⟩, -, hz⟩ := P1.out.1.two
  obtain ⟨⟨e3, e4⟩, -, hz2⟩ := P1.out.2.1.two
  obtain ⟨⟨r0, r1⟩, ⟨q0, q1⟩, hzr⟩ := P1.out.2.2.1.two
  go_wp2_with fail
  refine (mul_yes a b d c hv (valid_inv hv2 hc0) _).mono ?_
  rintro e w3 ⟨rfl, hb2⟩
  have PR := P1.out.2.2.1.later hb2
  clear r0 r1 q0 q1 hzr
  obtain ⟨⟨r0, r1⟩, ⟨q0, q1⟩, hzr⟩ := PR.two
  have HB2 := Lib.hid (bTr P1.out.2.2.2 hb2)
  clear PR hb2
  go_wp2
  refine bodyPost_ret (v := .tuple #[.agg #[.int .i64 (qn (a * d) (b * c)), .int .i64 (qd (a * d) (b * c))], .int .i64 (qe (a * d) (b * c))]) (by simp [results, Try.results20, go_sem, r0, r1, hzr]) rfl ⟨rfl, ?_⟩
  exact bSt (bSt HB2.out (by simp; omega) _) (by simp; omega) _
set_option maxHeartbeats 2000000 in
theorem div_neg (a b c d : Int) (hv : Frac.valid a b = true) (hv2 : Frac.valid c d = true) (hc0 : c < 0) (w : World) :
    Calls Try.prog 20 #[.agg #[.int .i64 a, .int .i64 b], .agg #[.int .i64 c, .int .i64 d]] w fun e w' => e = .returned (.tuple #[.agg #[.int .i64 (qn (a * -d) (b * -c)), .int .i64 (qd (a * -d) (b * -c))], .int .i64 (qe (a * -d) (b * -c))]) ∧ Below w.heap.size w w' := by
  obtain ⟨b0, b1, a0, a1, hab⟩ := (valid_iff a b).1 hv
  obtain ⟨d0, d1, c0, c1, hcd⟩ := (valid_iff c d).1 hv2
  clear hab hcd
  have hcz : (c == 0) = false := by rw [beq_eq_false_iff_ne]; omega
  go_enter Try.func20, Try.ntmps20
  go_wp2_with fail
  refine (valid_any _ _ (by omega) (by omega) (by omega) (by omega) _).mono ?_
  rintro e w1 ⟨rfl, hb⟩
  rw [hv]
  obtain ⟨hc, hf⟩ := bcell hb
  have hz : w.heap.size + 1 + 1 < w1.heap.size := by have := hb.size; simp at this; omega
  go_wp2_with fail
  refine (valid_any _ _ (by omega) (by omega) (by omega) (by omega) _).mono ?_
  rintro e w2 ⟨rfl, hb2⟩
  rw [hv2]
  have hb3 := bTr hb hb2
  clear hc hf hz
  have P1 := Lib.hid (And.intro ((((Blk.newAt (w := w) (t := 26) (cs := #[.int .i64 a, .int .i64 b]) rfl).alloc _).alloc _).later hb3) (And.intro (((Blk.newAt (w := w.alloc (.cells #[.int .i64 a, .int .i64 b] 26)) (n := w.heap.size + 1) (t := 26) (cs := #[.int .i64 c, .int .i64 d]) (by simp)).alloc _).later hb3) (And.intro ((Blk.newAt (w := (w.alloc (.cells #[.int .i64 a, .int .i64 b] 26)).alloc (.cells #[.int .i64 c, .int .i64 d] 26)) (n := w.heap.size + 1 + 1) (t := 26) (cs := #[.int .i64 0, .int .i64 0]) (by simp)).later hb3) (bTr (bAl (bAl (bAl (Below.refl _ _) _) _) _) hb3))))
  clear hb hb2 hb3
  obtain ⟨⟨e1, e2⟩, -, hz⟩ := P1.out.1.two
  obtain ⟨⟨e3, e4⟩, -, hz2⟩ := P1.out.2.1.two
  obtain ⟨⟨r0, r1⟩, ⟨q0, q1⟩, hzr⟩ := P1.out.2.2.1.two
  go_wp2_with fail
  refine (mul_yes a b (-d) (-c) hv (valid_invNeg hv2 hc0) _).mono ?_
  rintro e w3 ⟨rfl, hb2⟩
  have PR := P1.out.2.2.1.later hb2
  clear r0 r1 q0 q1 hzr
  obtain ⟨⟨r0, r1⟩, ⟨q0, q1⟩, hzr⟩ := PR.two
  have HB2 := Lib.hid (bTr P1.out.2.2.2 hb2)
  clear PR hb2
  go_wp2
  refine bodyPost_ret (v := .tuple #[.agg #[.int .i64 (qn (a * -d) (b * -c)), .int .i64 (qd (a * -d) (b * -c))], .int .i64 (qe (a * -d) (b * -c))]) (by simp [results, Try.results20, go_sem, r0, r1, hzr]) rfl ⟨rfl, ?_⟩
  exact bSt (bSt HB2.out (by simp; omega) _) (by simp; omega) _
end Go.Proofs.Ytlocgjhblcgpbaa
