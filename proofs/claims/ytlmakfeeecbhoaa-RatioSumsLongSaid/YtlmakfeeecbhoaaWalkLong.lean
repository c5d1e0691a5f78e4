/-
  The walk of the statement on sums of equal fractions.
-/
import Derived.Test.YtlmakfeeecbhoaaRowR
namespace Go.Proofs.Ytlmakfeeecbhoaa
open Go.RowKit
set_option linter.unusedSimpArgs false
set_option linter.unusedVariables false

theorem frF_rep (N : Nat) (a : Fr) (i : Nat) (h : i < N) : frF (List.replicate N a) i = a := by
  unfold frF
  rw [List.getD_eq_getElem?_getD, List.getElem?_replicate, if_pos h]; rfl
/-- the sum of N equal fractions is the product -/
theorem sum_rep (N : Nat) (a b : Int) (hv : Frac.valid a b = true) :
    lcmF (frF (List.replicate N (a, b))) N ≤ 1152921504606846976 ∧ sumN (frF (List.replicate N (a, b))) N = qn (a * (N : Int)) (b * 1) ∧ sumD (frF (List.replicate N (a, b))) N = qd (a * (N : Int)) (b * 1) ∧ sumE (frF (List.replicate N (a, b))) N = qe (a * (N : Int)) (b * 1) := by
  obtain ⟨h1, h2, -, -, -⟩ := (valid_iff a b).1 hv
  have hs := fun D : Int => sumF_const (frF (List.replicate N (a, b))) a b D N (fun i hi => frF_rep N (a, b) i hi)
  unfold sumN sumD sumE
  cases N with
  | zero =>
    have hl : lcmF (frF (List.replicate 0 (a, b))) 0 = 1 := rfl
    rw [hl, hs]
    refine ⟨by omega, ?_⟩
    exact q_congr (by omega) (by omega) (by simp)
  | succ k =>
    have hl : lcmF (frF (List.replicate (k + 1) (a, b))) (k + 1) = b.natAbs := lcmF_const _ a b k (fun i hi => frF_rep (k + 1) (a, b) i hi)
    rw [hl, hs, show ((b.natAbs : Nat) : Int) = b by omega, Int.ediv_self (by omega)]
    refine ⟨by omega, ?_⟩
    rw [Int.mul_one, Int.mul_one, Int.mul_comm]
    exact ⟨rfl, rfl, rfl⟩
set_option maxRecDepth 100000 in
set_option maxHeartbeats 8000000 in
theorem walkRatioSumsLong (n num den : Int) (n0 : -9223372036854775808 ≤ n) (n1 : n < 9223372036854775808) (m0 : -9223372036854775808 ≤ num) (m1 : num < 9223372036854775808)
    (d0 : -9223372036854775808 ≤ den) (d1 : den < 9223372036854775808) (w : World) :
    Calls Try.prog 6 #[.int .i64 n, .int .i64 num, .int .i64 den] w fun e w' => e = .returned (.bool true) ∧ Below w.heap.size w w' := by
  obtain ⟨j0, hj0, hy0, hy1, hy2⟩ := info_parts fr_info
  have a1 := cut_range n 110 (by omega)
  have a2 := cut_range num 1000 (by omega)
  have a3 := cut_range den 1000 (by omega)
  obtain ⟨N, hN⟩ := Int.eq_ofNat_of_zero_le a1.1
  obtain ⟨X, hX⟩ : ∃ X, num % 1000 = X := ⟨_, rfl⟩
  obtain ⟨Y, hY⟩ : ∃ Y, den % 1000 = Y := ⟨_, rfl⟩
  have C1 := Lib.hid (fun w => cut_any n 110 (by omega) (by omega) ⟨n0, n1⟩ w)
  have C2 := Lib.hid (fun w => cut_any num 1000 (by omega) (by omega) ⟨m0, m1⟩ w)
  have C3 := Lib.hid (fun w => cut_any den 1000 (by omega) (by omega) ⟨d0, d1⟩ w)
  rw [hN] at C1 a1
  rw [hX] at C2 a2
  rw [hY] at C3 a3
  clear hN hX hY n0 n1 m0 m1 d0 d1
  have hNb : N < 110 := by omega
  obtain ⟨x0, x1⟩ := a2
  obtain ⟨y0, y1⟩ := a3
  clear a1
  -- the fraction
  have he := q_fits (X - 500) (1 + Y) (by omega) (by omega) (by omega) (by omega)
  obtain ⟨hv, -⟩ := q_ok (X - 500) (1 + Y) (by omega) he
  obtain ⟨hq1, hq2⟩ := q_le (show 0 < 1 + Y by omega) he
  have e1 : newNum (X - 500) (1 + Y) = qn (X - 500) (1 + Y) := by
    unfold newNum qn sgnOf
    rw [if_neg (by omega), decide_eq_false (show ¬ 1 + Y < 0 by omega), Bool.bne_false]
  have e2 : newDen (X - 500) (1 + Y) = qd (X - 500) (1 + Y) := by unfold newDen qd; rw [if_neg (by omega)]
  have e3 : newErr (X - 500) (1 + Y) = 0 := by unfold newErr; rw [if_neg (by omega)]; exact he
  have NA := Lib.hid (fun w => ratio_new (X - 500) (1 + Y) (by omega) (by omega) (by omega) (by omega) w)
  rw [e1, e2, e3] at NA
  clear e1 e2 e3 he
  generalize qn (X - 500) (1 + Y) = p at hv hq1 NA
  generalize qd (X - 500) (1 + Y) = q at hv hq2 NA
  obtain ⟨v1, v2, v3, v4, -⟩ := (valid_iff p q).1 hv
  have hp : p.natAbs ≤ 500 := by omega
  have hq : q ≤ 1000 := by omega
  clear hq1 hq2 v2 v3 v4
  have NB := Lib.hid (fun w => ratio_new (N : Int) 1 (by omega) (by omega) (by omega) (by omega) w)
  have hv1 := valid_one (N : Int) (by omega) (by omega)
  obtain ⟨k1, k2, k3⟩ := new_one hv1
  rw [k1, k2, k3] at NB
  have MU := Lib.hid (fun w => mul_yes p q (N : Int) 1 hv hv1 w)
  have hb := abs_mul_le (x := p) (y := (N : Int)) (A := 500) (B := 110) hp (by omega)
  have hf := q_fits (p * (N : Int)) (q * 1) (by omega) (by omega) (by omega) (by omega)
  obtain ⟨s0, s1, s2, s3⟩ := sum_rep N p q hv
  rw [hf] at MU s3
  have S0 := Lib.hid s0
  have S1 := Lib.hid s1
  have S2 := Lib.hid s2
  have S3 := Lib.hid s3
  have HV := Lib.hid hv
  clear k1 k2 k3 hb hf s0 s1 s2 s3 hv hv1
  generalize qn (p * (N : Int)) (q * 1) = r at MU S1
  generalize qd (p * (N : Int)) (q * 1) = s at MU S2
  have SUB : IntKind.i64.wrap (X - 500) = X - 500 := IntWalk.i64_in _ (by omega)
  have ADD : IntKind.i64.wrap (1 + Y) = 1 + Y := IntWalk.i64_in _ (by omega)
  go_enter Try.func6, Try.ntmps6
  go_wp2_with fail
  refine (C1.out _).mono ?_
  rintro e w1 ⟨rfl, rfl⟩
  go_wp2_with fail
  refine (C2.out _).mono ?_
  rintro e w1 ⟨rfl, rfl⟩
  go_wp2_with fail
  refine (C3.out _).mono ?_
  rintro e w1 ⟨rfl, rfl⟩
  go_wp2_with fail
  refine (NA.out _).mono ?_
  rintro e w1 ⟨rfl, hb1⟩
  have HB1 := Lib.hid hb1
  clear hb1 C1 C2 C3 NA SUB ADD
  go_wp2_with fail
  refine (NB.out _).mono ?_
  rintro e w2 ⟨rfl, hb2⟩
  have H2 := Lib.hid (show HB w1 [(w1.heap.size, p, q)] w2 from ⟨((Held.nil w1).add p q).later hb2, bTr (bAl (Below.refl w1.heap.size w1) _) hb2⟩)
  clear hb2 NB
  obtain ⟨⟨u0, u1⟩, -, u2⟩ := H2.out.1.at_ (g := w1.heap.size) (p := p) (q := q) (by simp)
  go_wp2_with fail
  refine (MU.out _).mono ?_
  rintro e w3 ⟨rfl, hb3⟩
  have H3 := Lib.hid ((H2.out.add (N : Int) 1).go hb3)
  clear hb3 MU H2 u0 u1 u2
  go_wp2_with fail
  have H4 := Lib.hid (H3.out.add r s)
  clear H3
  generalize w3.alloc (.cells #[.int .i64 r, .int .i64 s] 26) = w4 at H4 ⊢
  obtain ⟨hpl, hrl⟩ : w1.heap.size < w4.heap.size ∧ w3.heap.size < w4.heap.size := ⟨H4.out.1.lt (p := p) (q := q) (by simp), H4.out.1.lt (p := r) (q := s) (by simp)⟩
  go_loopw [13, 14] (fun v i wr => ∃ k : Nat, i = .int .i64 k ∧ k ≤ N ∧ Hid (wr.ownsRow w4.heap.size 26 2 v k (frCells (List.replicate k (p, q))) ∧ Below w4.heap.size w4 wr)) (fun _ i _ => N - (intOf i).toNat)
  case atStart => exact ⟨0, rfl, Nat.zero_le _, World.ownsRow_nil _ _ _ _, Below.refl _ _⟩
  case round =>
    obtain ⟨k, rfl, hk, HO⟩ := hrel
    by_cases hkn : k < N
    · have hkn' : (k : Int) < (N : Int) := by omega
      have HW := Lib.hid HO.out.2.size
      obtain ⟨⟨u0, u1⟩, -, u2⟩ := (H4.out.1.later HO.out.2).at_ (g := w1.heap.size) (p := p) (q := q) (by simp)
      go_wp2_with ((at_builtin; refine wpList_append_own_at _ rfl (.tmp 45) (.tmp 47) 33 rfl w4.heap.size 26 j0 (.agg #[.int .i64 0, .int .i64 0]) 2 16 Try.underlying33 hj0 hy0 hy1 hy2 rfl (by decide) _ _ _ rfl (HO.out.1.alloc _) ⟨wr.heap.size, 0, none⟩ 1 1 [.int .i64 p, .int .i64 q] rfl rfl ?c1 ?c2 ?c3 ?c4 ?c5 ?_; (case c1 => exact cell_two_new _ _ _ _); (case c2 => exact two_one); (case c3 => unfold maxLen; omega); (case c4 => omega); (case c5 => have := HW.out; simp; omega); intro v' w5 hown5 hgrow5 hnil5 hat5; have H5 := Lib.hid (And.intro hown5 hgrow5); clear hown5 hgrow5 hnil5 hat5))
      go_roundw
      case rel => exact ⟨k + 1, by go_num, by omega, (by have := H5.out.1; rw [List.replicate_succ', frCells_snoc]; exact this), (HO.out.2.alloc HO.out.2.size _).grown H5.out.2 (by have := HO.out.2.size; simp; omega) (fun j hj => (HO.out.1.lt j hj).1)⟩
      case measure => simp [intOf]; omega
    · obtain rfl : N = k := by omega
      obtain ⟨po, cap, hvv⟩ := own_any HO.out.1
      have hlen : (List.replicate N (p, q)).length = N := List.length_replicate
      obtain ⟨ls, hls⟩ : ∃ ls, List.replicate N (p, q) = ls := ⟨_, rfl⟩
      have hrow := HO.out.1
      rw [hls] at hrow hlen
      rw [hvv, ← hlen] at hrow
      obtain ⟨hr, -, -⟩ := rowR_own hrow
      rw [hlen, ← hls] at hr
      clear hls
      have HRR := Lib.hid hr
      subst hvv
      clear hrow hr hlen
      have H6 := Lib.hid (show HB w1 [(w3.heap.size, r, s), (w2.heap.size, (N : Int), 1), (w1.heap.size, p, q)] wr from H4.out.go HO.out.2)
      clear HO H4
      by_cases hbig : 100 < N
      · have tb : (100 : Int) < (N : Int) := by omega
        go_wp2_with fail
        refine (sum_limit po N cap _ hbig (by omega)).mono ?_
        rintro e w7 ⟨rfl, hb7⟩
        have HE := Lib.hid (bTr HB1.out (bTr H6.out.2 hb7))
        clear hb7
        have heq : ∀ W, (binOp .eql 26 (.agg #[.int .i64 0, .int .i64 0]) (.agg #[.int .i64 0, .int .i64 0])).run Try.prog W = .ok (.bool true) W := fun W => by rw [eqlR, decide_eq_true rfl]
        go_wp2_with fail
        refine (awake_any _).mono ?_
        rintro e w8 ⟨rfl, hb8⟩
        have HF := Lib.hid (bTr (bAl HE.out _) hb8)
        clear hb8
        go_wp2
        go_ret
        exact ⟨rfl, HF.out⟩
      · have tb : ¬ (100 : Int) < (N : Int) := by omega
        go_wp2_with fail
        refine (sum_yes po N cap _ _ HRR.out (by omega) (fun i hi => by rw [frF_rep N (p, q) i hi]; exact HV.out)).mono ?_
        rintro e w7 ⟨rfl, hb7⟩
        rw [(sR_yes S0.out).1, (sR_yes S0.out).2.1, (sR_yes S0.out).2.2, S1.out, S2.out, S3.out]
        have H7 := Lib.hid (H6.out.go hb7)
        clear hb7 H6
        have heq : ∀ p q W, (binOp .eql 26 (.agg #[.int .i64 p, .int .i64 q]) (.agg #[.int .i64 p, .int .i64 q])).run Try.prog W = .ok (.bool true) W := fun p q W => by rw [eqlR, decide_eq_true rfl]
        obtain ⟨⟨u0, u1⟩, -, u2⟩ := H7.out.1.at_ (g := w3.heap.size) (p := r) (q := s) (by simp)
        go_wp2_with fail
        refine (awake_any _).mono ?_
        rintro e w8 ⟨rfl, hb8⟩
        have HF := Lib.hid (bTr HB1.out (bTr (bAl H7.out.2 _) hb8))
        clear hb8
        go_wp2
        go_ret
        exact ⟨rfl, HF.out⟩
end Go.Proofs.Ytlmakfeeecbhoaa
