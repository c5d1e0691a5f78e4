/-
  Add, Sub, Mul and Div of package ratio at any numbers.
-/
import Derived.Test.YtlocgjhblcgpbaaSubDiv
import Derived.Test.YtlocgjhblcgpbaaDraw
namespace Go.Proofs.Ytlocgjhblcgpbaa
open Go.RowKit
set_option linter.unusedSimpArgs false
set_option linter.unusedVariables false

def both2 (a b c d : Int) : Bool := Frac.valid a b && Frac.valid c d
def resN (v : Bool) (x : Int) : Int := if v then x else 0
def resE (v : Bool) (x : Int) : Int := if v then x else 1
theorem both2_yes {a b c d : Int} (h : Frac.valid a b = true) (k : Frac.valid c d = true) : both2 a b c d = true := by unfold both2; rw [h, k]; rfl
theorem both2_no1 {a b c d : Int} (h : Frac.valid a b = false) : both2 a b c d = false := by unfold both2; rw [h]; rfl
theorem both2_no2 {a b c d : Int} (k : Frac.valid c d = false) : both2 a b c d = false := by unfold both2; rw [k, Bool.and_false]
theorem res_yes {v : Bool} (h : v = true) (x y z : Int) : x = resN v x ∧ y = resN v y ∧ z = resE v z := by subst h; exact ⟨rfl, rfl, rfl⟩
theorem res_no {v : Bool} (h : v = false) (x y z : Int) : 0 = resN v x ∧ 0 = resN v y ∧ 1 = resE v z := by subst h; exact ⟨rfl, rfl, rfl⟩
theorem ret3 {a b c a' b' c' : Int} (h : a = a' ∧ b = b' ∧ c = c') : Ending.returned (.tuple #[.agg #[.int .i64 a, .int .i64 b], .int .i64 c]) = .returned (.tuple #[.agg #[.int .i64 a', .int .i64 b'], .int .i64 c']) := by rw [h.1, h.2.1, h.2.2]
/-- the quotient's numerator, denominator, code -/
def dvN (a b c d : Int) : Int := if c = 0 then 0 else if 0 < c then qn (a * d) (b * c) else qn (a * -d) (b * -c)
def dvD (a b c d : Int) : Int := if c = 0 then 0 else if 0 < c then qd (a * d) (b * c) else qd (a * -d) (b * -c)
def dvE (a b c d : Int) : Int := if c = 0 then 2 else if 0 < c then qe (a * d) (b * c) else qe (a * -d) (b * -c)
theorem dv_zero (a b d : Int) : dvN a b 0 d = 0 ∧ dvD a b 0 d = 0 ∧ dvE a b 0 d = 2 := by unfold dvN dvD dvE; simp
theorem dv_pos {a b c d : Int} (h : 0 < c) : dvN a b c d = qn (a * d) (b * c) ∧ dvD a b c d = qd (a * d) (b * c) ∧ dvE a b c d = qe (a * d) (b * c) := by
  have h1 : ¬ c = 0 := by omega
  unfold dvN dvD dvE
  simp only [if_neg h1, if_pos h]
  exact ⟨trivial, trivial, trivial⟩
theorem dv_neg {a b c d : Int} (h : c < 0) : dvN a b c d = qn (a * -d) (b * -c) ∧ dvD a b c d = qd (a * -d) (b * -c) ∧ dvE a b c d = qe (a * -d) (b * -c) := by
  have h1 : ¬ c = 0 := by omega
  have h2 : ¬ 0 < c := by omega
  unfold dvN dvD dvE
  simp only [if_neg h1, if_neg h2]
  exact ⟨trivial, trivial, trivial⟩
set_option maxHeartbeats 2000000 in
theorem ratio_add (a b c d : Int) (ha : I64 a) (hb : I64 b) (hc : I64 c) (hd : I64 d) (w : World) :
    Calls Try.prog 13 #[.agg #[.int .i64 a, .int .i64 b], .agg #[.int .i64 c, .int .i64 d]] w fun e w' => e = .returned (.tuple #[.agg #[.int .i64 (resN (both2 a b c d) (qn (a * d + c * b) (b * d))), .int .i64 (resN (both2 a b c d) (qd (a * d + c * b) (b * d)))], .int .i64 (resE (both2 a b c d) (qe (a * d + c * b) (b * d)))]) ∧ Below w.heap.size w w' := by
  obtain ⟨a0, a1⟩ := ha
  obtain ⟨b0, b1⟩ := hb
  obtain ⟨c0, c1⟩ := hc
  obtain ⟨d0, d1⟩ := hd
  cases hv : Frac.valid a b
  · have HY := Lib.hid (res_no (both2_no1 (c := c) (d := d) hv) (qn (a * d + c * b) (b * d)) (qd (a * d + c * b) (b * d)) (qe (a * d + c * b) (b * d)))
    go_enter Try.func13, Try.ntmps13
    go_wp2_with fail
    refine (valid_any _ _ a0 a1 b0 b1 _).mono ?_
    rintro e w1 ⟨rfl, hb⟩
    rw [hv]
    have PR := ((Blk.newAt (w := (w.alloc (.cells #[.int .i64 a, .int .i64 b] 26)).alloc (.cells #[.int .i64 c, .int .i64 d] 26)) (n := w.heap.size + 1 + 1) (t := 26) (cs := #[.int .i64 0, .int .i64 0]) (by simp)).later hb)
    obtain ⟨⟨r0, r1⟩, ⟨q0, q1⟩, hzr⟩ := PR.two
    have HBX := Lib.hid (bTr (bAl (bAl (bAl (Below.refl _ _) _) _) _) hb)
    clear PR hb
    go_wp2
    refine bodyPost_ret (v := .tuple #[.agg #[.int .i64 0, .int .i64 0], .int .i64 1]) (by simp [results, Try.results13, go_sem, r0, r1, hzr]) rfl ⟨ret3 HY.out, ?_⟩
    exact bSt (bSt HBX.out (by simp; omega) _) (by simp; omega) _
  cases hv2 : Frac.valid c d
  · have HY := Lib.hid (res_no (both2_no2 (a := a) (b := b) hv2) (qn (a * d + c * b) (b * d)) (qd (a * d + c * b) (b * d)) (qe (a * d + c * b) (b * d)))
    go_enter Try.func13, Try.ntmps13
    go_wp2_with fail
    refine (valid_any _ _ a0 a1 b0 b1 _).mono ?_
    rintro e w1 ⟨rfl, hb⟩
    rw [hv]
    obtain ⟨hc, hf⟩ := bcell hb
    have hz : w.heap.size + 1 + 1 < w1.heap.size := by have := hb.size; simp at this; omega
    go_wp2_with fail
    refine (valid_any _ _ c0 c1 d0 d1 _).mono ?_
    rintro e w2 ⟨rfl, hb2⟩
    rw [hv2]
    have hb3 := bTr hb hb2
    clear hc hf hz hb hb2
    have PR := ((Blk.newAt (w := (w.alloc (.cells #[.int .i64 a, .int .i64 b] 26)).alloc (.cells #[.int .i64 c, .int .i64 d] 26)) (n := w.heap.size + 1 + 1) (t := 26) (cs := #[.int .i64 0, .int .i64 0]) (by simp)).later hb3)
    obtain ⟨⟨r0, r1⟩, ⟨q0, q1⟩, hzr⟩ := PR.two
    have HBX := Lib.hid (bTr (bAl (bAl (bAl (Below.refl _ _) _) _) _) hb3)
    clear PR hb3
    go_wp2
    refine bodyPost_ret (v := .tuple #[.agg #[.int .i64 0, .int .i64 0], .int .i64 1]) (by simp [results, Try.results13, go_sem, r0, r1, hzr]) rfl ⟨ret3 HY.out, ?_⟩
    exact bSt (bSt HBX.out (by simp; omega) _) (by simp; omega) _
  refine (add_yes a b c d hv hv2 w).mono ?_
  rintro e w' ⟨rfl, hb⟩
  exact ⟨ret3 (res_yes (both2_yes hv hv2) _ _ _), hb⟩
set_option maxHeartbeats 2000000 in
theorem ratio_mul (a b c d : Int) (ha : I64 a) (hb : I64 b) (hc : I64 c) (hd : I64 d) (w : World) :
    Calls Try.prog 18 #[.agg #[.int .i64 a, .int .i64 b], .agg #[.int .i64 c, .int .i64 d]] w fun e w' => e = .returned (.tuple #[.agg #[.int .i64 (resN (both2 a b c d) (qn (a * c) (b * d))), .int .i64 (resN (both2 a b c d) (qd (a * c) (b * d)))], .int .i64 (resE (both2 a b c d) (qe (a * c) (b * d)))]) ∧ Below w.heap.size w w' := by
  obtain ⟨a0, a1⟩ := ha
  obtain ⟨b0, b1⟩ := hb
  obtain ⟨c0, c1⟩ := hc
  obtain ⟨d0, d1⟩ := hd
  cases hv : Frac.valid a b
  · have HY := Lib.hid (res_no (both2_no1 (c := c) (d := d) hv) (qn (a * c) (b * d)) (qd (a * c) (b * d)) (qe (a * c) (b * d)))
    go_enter Try.func18, Try.ntmps18
    go_wp2_with fail
    refine (valid_any _ _ a0 a1 b0 b1 _).mono ?_
    rintro e w1 ⟨rfl, hb⟩
    rw [hv]
    have PR := ((Blk.newAt (w := (w.alloc (.cells #[.int .i64 a, .int .i64 b] 26)).alloc (.cells #[.int .i64 c, .int .i64 d] 26)) (n := w.heap.size + 1 + 1) (t := 26) (cs := #[.int .i64 0, .int .i64 0]) (by simp)).later hb)
    obtain ⟨⟨r0, r1⟩, ⟨q0, q1⟩, hzr⟩ := PR.two
    have HBX := Lib.hid (bTr (bAl (bAl (bAl (Below.refl _ _) _) _) _) hb)
    clear PR hb
    go_wp2
    refine bodyPost_ret (v := .tuple #[.agg #[.int .i64 0, .int .i64 0], .int .i64 1]) (by simp [results, Try.results18, go_sem, r0, r1, hzr]) rfl ⟨ret3 HY.out, ?_⟩
    exact bSt (bSt HBX.out (by simp; omega) _) (by simp; omega) _
  cases hv2 : Frac.valid c d
  · have HY := Lib.hid (res_no (both2_no2 (a := a) (b := b) hv2) (qn (a * c) (b * d)) (qd (a * c) (b * d)) (qe (a * c) (b * d)))
    go_enter Try.func18, Try.ntmps18
    go_wp2_with fail
    refine (valid_any _ _ a0 a1 b0 b1 _).mono ?_
    rintro e w1 ⟨rfl, hb⟩
    rw [hv]
    obtain ⟨hc, hf⟩ := bcell hb
    have hz : w.heap.size + 1 + 1 < w1.heap.size := by have := hb.size; simp at this; omega
    go_wp2_with fail
    refine (valid_any _ _ c0 c1 d0 d1 _).mono ?_
    rintro e w2 ⟨rfl, hb2⟩
    rw [hv2]
    have hb3 := bTr hb hb2
    clear hc hf hz hb hb2
    have PR := ((Blk.newAt (w := (w.alloc (.cells #[.int .i64 a, .int .i64 b] 26)).alloc (.cells #[.int .i64 c, .int .i64 d] 26)) (n := w.heap.size + 1 + 1) (t := 26) (cs := #[.int .i64 0, .int .i64 0]) (by simp)).later hb3)
    obtain ⟨⟨r0, r1⟩, ⟨q0, q1⟩, hzr⟩ := PR.two
    have HBX := Lib.hid (bTr (bAl (bAl (bAl (Below.refl _ _) _) _) _) hb3)
    clear PR hb3
    go_wp2
    refine bodyPost_ret (v := .tuple #[.agg #[.int .i64 0, .int .i64 0], .int .i64 1]) (by simp [results, Try.results18, go_sem, r0, r1, hzr]) rfl ⟨ret3 HY.out, ?_⟩
    exact bSt (bSt HBX.out (by simp; omega) _) (by simp; omega) _
  refine (mul_yes a b c d hv hv2 w).mono ?_
  rintro e w' ⟨rfl, hb⟩
  exact ⟨ret3 (res_yes (both2_yes hv hv2) _ _ _), hb⟩
set_option maxHeartbeats 2000000 in
theorem ratio_sub (a b c d : Int) (ha : I64 a) (hb : I64 b) (hc : I64 c) (hd : I64 d) (w : World) :
    Calls Try.prog 15 #[.agg #[.int .i64 a, .int .i64 b], .agg #[.int .i64 c, .int .i64 d]] w fun e w' => e = .returned (.tuple #[.agg #[.int .i64 (resN (both2 a b c d) (qn (a * d + -c * b) (b * d))), .int .i64 (resN (both2 a b c d) (qd (a * d + -c * b) (b * d)))], .int .i64 (resE (both2 a b c d) (qe (a * d + -c * b) (b * d)))]) ∧ Below w.heap.size w w' := by
  obtain ⟨a0, a1⟩ := ha
  obtain ⟨b0, b1⟩ := hb
  obtain ⟨c0, c1⟩ := hc
  obtain ⟨d0, d1⟩ := hd
  cases hv2 : Frac.valid c d
  · have HY := Lib.hid (res_no (both2_no2 (a := a) (b := b) hv2) (qn (a * d + -c * b) (b * d)) (qd (a * d + -c * b) (b * d)) (qe (a * d + -c * b) (b * d)))
    go_enter Try.func15, Try.ntmps15
    go_wp2_with fail
    refine (valid_any _ _ c0 c1 d0 d1 _).mono ?_
    rintro e w1 ⟨rfl, hb⟩
    rw [hv2]
    have PR := ((Blk.newAt (w := (w.alloc (.cells #[.int .i64 a, .int .i64 b] 26)).alloc (.cells #[.int .i64 c, .int .i64 d] 26)) (n := w.heap.size + 1 + 1) (t := 26) (cs := #[.int .i64 0, .int .i64 0]) (by simp)).later hb)
    obtain ⟨⟨r0, r1⟩, ⟨q0, q1⟩, hzr⟩ := PR.two
    have HBX := Lib.hid (bTr (bAl (bAl (bAl (Below.refl _ _) _) _) _) hb)
    clear PR hb
    go_wp2
    refine bodyPost_ret (v := .tuple #[.agg #[.int .i64 0, .int .i64 0], .int .i64 1]) (by simp [results, Try.results15, go_sem, r0, r1, hzr]) rfl ⟨ret3 HY.out, ?_⟩
    exact bSt (bSt HBX.out (by simp; omega) _) (by simp; omega) _
  cases hv : Frac.valid a b
  · have HY := Lib.hid (res_no (both2_no1 (c := c) (d := d) hv) (qn (a * d + -c * b) (b * d)) (qd (a * d + -c * b) (b * d)) (qe (a * d + -c * b) (b * d)))
    obtain ⟨e0, e1, e2, e3, -⟩ := (valid_iff c d).1 hv2
    have HA := Lib.hid (fun w => ratio_add a b (-c) d ⟨a0, a1⟩ ⟨b0, b1⟩ ⟨by omega, by omega⟩ ⟨d0, d1⟩ w)
    have HN := Lib.hid (res_no (both2_no1 (c := -c) (d := d) hv) (qn (a * d + -c * b) (b * d)) (qd (a * d + -c * b) (b * d)) (qe (a * d + -c * b) (b * d)))
    go_enter Try.func15, Try.ntmps15
    go_wp2_with fail
    refine (valid_any _ _ c0 c1 d0 d1 _).mono ?_
    rintro e w1 ⟨rfl, hb⟩
    rw [hv2]
    have P1 := Lib.hid (And.intro ((((Blk.newAt (w := w) (t := 26) (cs := #[.int .i64 a, .int .i64 b]) rfl).alloc _).alloc _).later hb) (And.intro (((Blk.newAt (w := w.alloc (.cells #[.int .i64 a, .int .i64 b] 26)) (n := w.heap.size + 1) (t := 26) (cs := #[.int .i64 c, .int .i64 d]) (by simp)).alloc _).later hb) (And.intro ((Blk.newAt (w := (w.alloc (.cells #[.int .i64 a, .int .i64 b] 26)).alloc (.cells #[.int .i64 c, .int .i64 d] 26)) (n := w.heap.size + 1 + 1) (t := 26) (cs := #[.int .i64 0, .int .i64 0]) (by simp)).later hb) (bTr (bAl (bAl (bAl (Below.refl _ _) _) _) _) hb))))
    clear hb
    obtain ⟨⟨g1, g2⟩, -, hz⟩ := P1.out.1.two
    obtain ⟨⟨g3, g4⟩, -, hz2⟩ := P1.out.2.1.two
    go_wp2_with fail
    refine (HA.out _).mono ?_
    rintro e w2 ⟨rfl, hb2⟩
    rw [← HN.out.1, ← HN.out.2.1, ← HN.out.2.2]
    have PR := P1.out.2.2.1.later hb2
    obtain ⟨⟨r0, r1⟩, ⟨q0, q1⟩, hzr⟩ := PR.two
    have HBX := Lib.hid (bTr P1.out.2.2.2 hb2)
    clear PR hb2
    go_wp2
    refine bodyPost_ret (v := .tuple #[.agg #[.int .i64 0, .int .i64 0], .int .i64 1]) (by simp [results, Try.results15, go_sem, r0, r1, hzr]) rfl ⟨ret3 HY.out, ?_⟩
    exact bSt (bSt HBX.out (by simp; omega) _) (by simp; omega) _
  refine (sub_yes a b c d hv hv2 w).mono ?_
  rintro e w' ⟨rfl, hb⟩
  exact ⟨ret3 (res_yes (both2_yes hv hv2) _ _ _), hb⟩
set_option maxHeartbeats 2000000 in
theorem ratio_div (a b c d : Int) (ha : I64 a) (hb : I64 b) (hc : I64 c) (hd : I64 d) (w : World) :
    Calls Try.prog 20 #[.agg #[.int .i64 a, .int .i64 b], .agg #[.int .i64 c, .int .i64 d]] w fun e w' => e = .returned (.tuple #[.agg #[.int .i64 (resN (both2 a b c d) (dvN a b c d)), .int .i64 (resN (both2 a b c d) (dvD a b c d))], .int .i64 (resE (both2 a b c d) (dvE a b c d))]) ∧ Below w.heap.size w w' := by
  obtain ⟨a0, a1⟩ := ha
  obtain ⟨b0, b1⟩ := hb
  obtain ⟨c0, c1⟩ := hc
  obtain ⟨d0, d1⟩ := hd
  cases hv : Frac.valid a b
  · have HY := Lib.hid (res_no (both2_no1 (c := c) (d := d) hv) (dvN a b c d) (dvD a b c d) (dvE a b c d))
    go_enter Try.func20, Try.ntmps20
    go_wp2_with fail
    refine (valid_any _ _ a0 a1 b0 b1 _).mono ?_
    rintro e w1 ⟨rfl, hb⟩
    rw [hv]
    have PR := ((Blk.newAt (w := (w.alloc (.cells #[.int .i64 a, .int .i64 b] 26)).alloc (.cells #[.int .i64 c, .int .i64 d] 26)) (n := w.heap.size + 1 + 1) (t := 26) (cs := #[.int .i64 0, .int .i64 0]) (by simp)).later hb)
    obtain ⟨⟨r0, r1⟩, ⟨q0, q1⟩, hzr⟩ := PR.two
    have HBX := Lib.hid (bTr (bAl (bAl (bAl (Below.refl _ _) _) _) _) hb)
    clear PR hb
    go_wp2
    refine bodyPost_ret (v := .tuple #[.agg #[.int .i64 0, .int .i64 0], .int .i64 1]) (by simp [results, Try.results20, go_sem, r0, r1, hzr]) rfl ⟨ret3 HY.out, ?_⟩
    exact bSt (bSt HBX.out (by simp; omega) _) (by simp; omega) _
  cases hv2 : Frac.valid c d
  · have HY := Lib.hid (res_no (both2_no2 (a := a) (b := b) hv2) (dvN a b c d) (dvD a b c d) (dvE a b c d))
    go_enter Try.func20, Try.ntmps20
    go_wp2_with fail
    refine (valid_any _ _ a0 a1 b0 b1 _).mono ?_
    rintro e w1 ⟨rfl, hb⟩
    rw [hv]
    obtain ⟨hc, hf⟩ := bcell hb
    have hz : w.heap.size + 1 + 1 < w1.heap.size := by have := hb.size; simp at this; omega
    go_wp2_with fail
    refine (valid_any _ _ c0 c1 d0 d1 _).mono ?_
    rintro e w2 ⟨rfl, hb2⟩
    rw [hv2]
    have hb3 := bTr hb hb2
    clear hc hf hz hb hb2
    have PR := ((Blk.newAt (w := (w.alloc (.cells #[.int .i64 a, .int .i64 b] 26)).alloc (.cells #[.int .i64 c, .int .i64 d] 26)) (n := w.heap.size + 1 + 1) (t := 26) (cs := #[.int .i64 0, .int .i64 0]) (by simp)).later hb3)
    obtain ⟨⟨r0, r1⟩, ⟨q0, q1⟩, hzr⟩ := PR.two
    have HBX := Lib.hid (bTr (bAl (bAl (bAl (Below.refl _ _) _) _) _) hb3)
    clear PR hb3
    go_wp2
    refine bodyPost_ret (v := .tuple #[.agg #[.int .i64 0, .int .i64 0], .int .i64 1]) (by simp [results, Try.results20, go_sem, r0, r1, hzr]) rfl ⟨ret3 HY.out, ?_⟩
    exact bSt (bSt HBX.out (by simp; omega) _) (by simp; omega) _
  rcases Int.lt_trichotomy c 0 with h | h | h
  · refine (div_neg a b c d hv hv2 h w).mono ?_
    rintro e w' ⟨rfl, hb⟩
    rw [← (dv_neg h).1, ← (dv_neg h).2.1, ← (dv_neg h).2.2]
    exact ⟨ret3 (res_yes (both2_yes hv hv2) _ _ _), hb⟩
  · refine (div_zero a b c d hv hv2 h w).mono ?_
    rintro e w' ⟨rfl, hb⟩
    subst h
    obtain ⟨k1, k2, k3⟩ := dv_zero a b d
    rw [k1, k2, k3]
    exact ⟨ret3 (res_yes (both2_yes hv hv2) _ _ _), hb⟩
  · refine (div_pos a b c d hv hv2 h w).mono ?_
    rintro e w' ⟨rfl, hb⟩
    rw [← (dv_pos h).1, ← (dv_pos h).2.1, ← (dv_pos h).2.2]
    exact ⟨ret3 (res_yes (both2_yes hv hv2) _ _ _), hb⟩
end Go.Proofs.Ytlocgjhblcgpbaa
