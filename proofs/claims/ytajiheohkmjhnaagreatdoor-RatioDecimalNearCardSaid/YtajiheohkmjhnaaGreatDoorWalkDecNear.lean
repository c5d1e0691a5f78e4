/-
  The walk of the statement on how near decimals are.
-/
import Derived.Test.YtajiheohkmjhnaaGreatDoorNkX
import Derived.Test.YtajiheohkmjhnaaGreatDoorNkP
namespace Go.Proofs.YtajiheohkmjhnaaGreatDoor
open Go.RowKit Go.Lib
set_option linter.unusedSimpArgs false
set_option linter.unusedVariables false

theorem held_at {w : World} {l : List (Nat × Int × Int)} (h : Held w l) {g : Nat} {p q : Int} (hm : (g, p, q) ∈ l) :
    (w.cell? ⟨g, 0, none⟩ = some (.int .i64 p) ∧ w.cell? ⟨g, 1, none⟩ = some (.int .i64 q)) ∧ (w.frozen? ⟨g, 0, none⟩ = false ∧ w.frozen? ⟨g, 1, none⟩ = false) ∧ g < w.heap.size := (h _ hm).two
theorem dec_parse {N D : Int} (hq : Q N D N D 30 12) {K : Nat} (h1 : 1 ≤ K) (h6 : K ≤ 6) : ∃ (s : ByteArray) (p q : Int),
    (∀ w, Tab w → Calls Tryz.prog 8 #[.agg #[.int .i64 N, .int .i64 D], .int .i64 (K : Int)] w fun e w' => e = .returned (.string s) ∧ Below w.heap.size w w') ∧
    (∀ w, Calls Tryz.prog 7 #[.string s] w fun e w' => e = .returned (.tuple #[.agg #[.int .i64 p, .int .i64 q], .int .i64 0]) ∧ Below w.heap.size w w') ∧
    Q p q (rnd N D K) (10 ^ K) 30000001 1000000 := by
  obtain ⟨b1, b2, a1, a2, -⟩ := (valid_iff N D).1 hq.v
  have hN : I64 N := ⟨by omega, by omega⟩
  have hD : I64 D := ⟨by omega, by omega⟩
  obtain ⟨e1, e2, e3, e4⟩ := par_dec (N := N) (D := D) (k := K) hq.v h1 (by omega)
  have e10 : (10 : Int) ^ K = ((10 ^ K : Nat) : Int) := by rw [Int.natCast_pow]; rfl
  have hp : 10 ^ K ≤ 1000000 := by
    have h2 : (10 : Nat) ^ K ≤ 10 ^ 6 := Nat.pow_le_pow_right (by omega) h6
    have h3 : (10 : Nat) ^ 6 = 1000000 := by decide
    omega
  have hp1 : 1 ≤ 10 ^ K := Nat.one_le_pow _ _ (by omega)
  obtain ⟨hQ, hE⟩ := Q.of (N := rnd N D K) (D := 10 ^ K) (A := 30000001) (B := 1000000) (by rw [e10]; omega) (rnd_bd (by omega) hq.n h6) (by rw [e10]; omega) (by omega) (by omega)
  refine ⟨⟨(decL N D K).toArray⟩, _, _, fun w hw => decimal_yes N D K hN hD hq.v (by omega) hw, fun w => ?_, hQ⟩
  have h := parse_any ⟨(decL N D K).toArray⟩ e4 w
  rw [e1, e2, e3, hE] at h
  exact h
theorem near_up {dp dq R D N T : Int} {A B : Nat} (h : Q dp dq (R * D - N * T) (T * D) A B) (hD : 0 < D) (h1 : 2 * (R * D - N * T) ≤ D) : ¬ 1 * dq < dp * (2 * T) := by
  intro hn
  have hd := h.den
  have he := h.e
  have k1 : (1 * dq) * D < (dp * (2 * T)) * D := Int.mul_lt_mul_of_pos_right hn hD
  have k2 : 2 * (R * D - N * T) * dq ≤ D * dq := Int.mul_le_mul_of_nonneg_right h1 (by omega)
  grind
theorem near_low {dp dq R D N T : Int} {A B : Nat} (h : Q dp dq (R * D - N * T) (T * D) A B) (hD : 0 < D) (h1 : -D ≤ 2 * (R * D - N * T)) : ¬ dp * (2 * T) < -1 * dq := by
  intro hn
  have hd := h.den
  have he := h.e
  have k1 : (dp * (2 * T)) * D < (-1 * dq) * D := Int.mul_lt_mul_of_pos_right hn hD
  have k2 : -D * dq ≤ 2 * (R * D - N * T) * dq := Int.mul_le_mul_of_nonneg_right h1 (by omega)
  grind
theorem keep_order {p1 q1 p2 q2 R R' T : Int} {A B A' B' : Nat} (h : Q p1 q1 R T A B) (k : Q p2 q2 R' T A' B') (hT : 0 < T) (hR : R ≤ R') : ¬ p2 * q1 < p1 * q2 := by
  intro hn
  have h1 := h.e
  have h2 := k.e
  have d1 := h.den
  have d2 := k.den
  have k1 : (p2 * q1) * T < (p1 * q2) * T := Int.mul_lt_mul_of_pos_right hn hT
  have k2 : R * (q1 * q2) ≤ R' * (q1 * q2) := Int.mul_le_mul_of_nonneg_right hR (Int.mul_nonneg (by omega) (by omega))
  have e1 : p2 * q1 * T = R' * (q1 * q2) := by rw [Int.mul_right_comm, h2, Int.mul_assoc, Int.mul_comm q2 q1]
  have e2 : p1 * q2 * T = R * (q1 * q2) := by rw [Int.mul_right_comm, h1, Int.mul_assoc]
  omega

set_option maxRecDepth 100000 in
set_option maxHeartbeats 8000000 in
theorem walkRatioDecimalNear (o : Option Addr) (n c : Nat) (zs : List Int) (a1 : Int) (w : World) (h : IsRow .i64 w o n c zs) (l1 : -9223372036854775808 ≤ a1) (u1 : a1 < 9223372036854775808) (HT : Tab w) :
    Calls Tryz.prog 3 #[.slice o n c, .int .i64 a1] w fun e w' => e = .returned (.bool true) ∧ Below w.heap.size w w' := by
  obtain ⟨hr, h1, h2, h3⟩ := row_of h
  clear h
  go_enter Tryz.func3, Tryz.ntmps3
  go_wp2_with fail
  refine (tape_new hr h1 h2 h3).mono ?_
  rintro e w1 ⟨g, n', rfl, ht, hb1, hg⟩
  clear hr h1 h2 h3
  go_wp2_with fail
  refine (tape_small ht).mono ?_
  rintro e w2 ⟨N, D, hs1, rfl, ht2, hg2⟩
  go_wp2_with fail
  refine (tape_small ht2).mono ?_
  rintro e w3 ⟨N', D', hs2, rfl, ht3, hg3⟩
  have HB3 := Lib.hid (hb1.trans (bGr (gTr hg2 hg3) hg hb1.size))
  have HT0 := Lib.hid HT
  have Q1 := small_q hs1
  have Q2 := small_q hs2
  clear ht ht2 ht3 hg2 hg3 hb1 hg HT hs1 hs2
  have hc := cut_range a1 6 (by omega)
  have HC := Lib.hid (fun w => cut_any a1 6 (by omega) (by omega) ⟨l1, u1⟩ w)
  generalize a1 % 6 = r at *
  obtain ⟨m, rfl⟩ := Int.eq_ofNat_of_zero_le hc.1
  have hwK : IntKind.i64.wrap (1 + (m : Int)) = ((m + 1 : Nat) : Int) := by rw [IntKind.wrap_i64]; omega
  have hK : 1 ≤ m + 1 ∧ m + 1 ≤ 6 := by omega
  obtain ⟨s, p1, q1, D1, S1, X1⟩ := dec_parse Q1 hK.1 hK.2
  obtain ⟨s', p2, q2, D2, S2, X2⟩ := dec_parse Q2 hK.1 hK.2
  have hd1 := Q1.den
  have hd2 := Q2.den
  have n1 := rnd_near (N := N) hd1 (m + 1)
  have hmono := fun h => rnd_mono (N := N) (D := D) (N' := N') (D' := D') (k := m + 1) hd1 hd2 h
  have HSUB := Lib.hid (fun w => sub_q X1 Q1 (by omega) (by omega) w)
  have e10 : (10 : Int) ^ (m + 1) = ((10 ^ (m + 1) : Nat) : Int) := by rw [Int.natCast_pow]; rfl
  have hT0 : (0 : Int) < 10 ^ (m + 1) := by rw [e10]; have := Nat.one_le_pow (m + 1) 10 (by omega); omega
  have hT6 : (10 : Int) ^ (m + 1) ≤ 1000000 := by
    rw [e10]
    have h2 : (10 : Nat) ^ (m + 1) ≤ 10 ^ 6 := Nat.pow_le_pow_right (by omega) hK.2
    have h3 : (10 : Nat) ^ 6 = 1000000 := by decide
    omega
  have hpw : ∀ j, j ≤ m + 1 → 0 ≤ (10 : Int) ^ j ∧ (10 : Int) ^ j ≤ 1000000 := fun j hj => by
    have e : (10 : Int) ^ j = ((10 ^ j : Nat) : Int) := by rw [Int.natCast_pow]; rfl
    rw [e]
    have h2 : (10 : Nat) ^ j ≤ 10 ^ 6 := Nat.pow_le_pow_right (by omega) (by omega)
    have h3 : (10 : Nat) ^ 6 = 1000000 := by decide
    rw [h3] at h2
    generalize (10 : Nat) ^ j = tt at h2 ⊢
    omega
  have HPW := Lib.hid hpw
  have HL4 := Lib.hid (show N * D' < N' * D → LsIs p2 q2 p1 q1 false from fun hab => ls_mk X2.v X1.v (decide_eq_false (keep_order X1 X2 hT0 (hmono hab))))
  have HL4' := Lib.hid (show LsIs p2 q2 p1 q1 (decide (p2 * q1 < p1 * q2)) from ls_mk X2.v X1.v rfl)
  have HL3 := Lib.hid (show LsIs N D N' D' (decide (N * D' < N' * D)) from ls_mk Q1.v Q2.v rfl)
  have hv1 : Frac.valid 1 (2 * 10 ^ (m + 1)) = true := (valid_iff _ _).2 ⟨by omega, by omega, by omega, by omega, Nat.gcd_one_left _⟩
  have hv2 : Frac.valid (-1) (2 * 10 ^ (m + 1)) = true := (valid_iff _ _).2 ⟨by omega, by omega, by omega, by omega, Nat.gcd_one_left _⟩
  have HNE := Lib.hid (show ∀ dp dq A B, Q dp dq (rnd N D (m + 1) * D - N * 10 ^ (m + 1)) (10 ^ (m + 1) * D) A B → LsIs 1 (2 * 10 ^ (m + 1)) dp dq false ∧ LsIs dp dq (-1) (2 * 10 ^ (m + 1)) false from fun dp dq A B hQ =>
    ⟨ls_mk hv1 hQ.v (decide_eq_false (near_up hQ hd1 n1.2)), ls_mk hQ.v hv2 (decide_eq_false (near_low hQ hd1 n1.1))⟩)
  have HD1 := Lib.hid D1
  have HD2 := Lib.hid D2
  have HS1 := Lib.hid S1
  have HS2 := Lib.hid S2
  clear D1 D2 S1 S2 X1 X2 Q1 Q2 hd1 hd2 n1 hmono e10 hpw hv1 hv2 hT0 hT6 l1 u1 hc
  have H4 := Lib.hid (((Held.nil w3).add N D).add N' D')
  have B4 := Lib.hid (bAl (bAl (Below.refl w3.heap.size w3) (.cells #[.int .i64 N, .int .i64 D] 26)) (.cells #[.int .i64 N', .int .i64 D'] 26))
  simp only [World.size_alloc] at H4
  go_wp2_with fail
  refine (HC.out _).mono ?_
  rintro e wz ⟨rfl, hw⟩
  obtain rfl := hw
  generalize hw4 : (w3.alloc (.cells #[.int .i64 N, .int .i64 D] 26)).alloc (.cells #[.int .i64 N', .int .i64 D'] 26) = w4 at H4 B4 ⊢
  clear hw4 HC
  have HT4 := Lib.hid (tab_later HT0.out (HB3.out.trans (B4.out.mono HB3.out.size)) (Nat.le_refl _))
  generalize hK1 : ((m + 1 : Nat) : Int) = kk at hwK HD1 HD2 ⊢
  have HKK := Lib.hid hK1
  clear hK1
  obtain ⟨⟨a0, a1'⟩, -, al⟩ := held_at H4.out (g := w3.heap.size) (p := N) (q := D) (by simp)
  go_wp2_with fail
  refine (HD1.out _ HT4.out).mono ?_
  rintro e w5 ⟨rfl, hb⟩
  have H5 := Lib.hid (H4.out.later hb)
  have B5 := Lib.hid (bTr B4.out hb)
  clear hb H4 B4 HT4 a0 a1' al HD1
  go_wp2_with fail
  refine (HS1.out _).mono ?_
  rintro e w6 ⟨rfl, hb⟩
  have H6 := Lib.hid ((H5.out.later hb).add p1 q1)
  have B6 := Lib.hid (bAl (bTr B5.out hb) (.cells #[.int .i64 p1, .int .i64 q1] 26))
  have HT6 := Lib.hid (tab_later HT0.out (HB3.out.trans (B6.out.mono HB3.out.size)) (Nat.le_refl _))
  clear hb H5 B5 HS1
  obtain ⟨⟨a0, a1'⟩, -, al⟩ := held_at H6.out (g := w3.heap.size + 1) (p := N') (q := D') (by simp)
  go_wp2_with fail
  refine (HD2.out _ HT6.out).mono ?_
  rintro e w7 ⟨rfl, hb⟩
  have H7 := Lib.hid (H6.out.later hb)
  have B7 := Lib.hid (bTr B6.out hb)
  clear hb H6 B6 HT6 a0 a1' al HD2
  go_wp2_with fail
  refine (HS2.out _).mono ?_
  rintro e w8 ⟨rfl, hb⟩
  have H8 := Lib.hid ((H7.out.later hb).add p2 q2)
  have B8 := Lib.hid (bAl (bTr B7.out hb) (.cells #[.int .i64 p2, .int .i64 q2] 26))
  clear hb H7 B7 HS2
  obtain ⟨⟨a0, a1'⟩, -, al⟩ := held_at H8.out (g := w3.heap.size) (p := N) (q := D) (by simp)
  obtain ⟨⟨b0, b1⟩, -, bl⟩ := held_at H8.out (g := w6.heap.size) (p := p1) (q := q1) (by simp)
  go_wp2_with fail
  refine (HSUB.out _).mono ?_
  rintro e w9 ⟨dp, dq, XD, rfl, hb⟩
  obtain ⟨L1, L2⟩ := HNE.out dp dq _ _ XD
  have HL1 := Lib.hid L1
  have HL2 := Lib.hid L2
  have H9 := Lib.hid ((H8.out.later hb).add dp dq)
  have B9 := Lib.hid (bAl (bTr B8.out hb) (.cells #[.int .i64 dp, .int .i64 dq] 26))
  clear hb H8 B8 HSUB HNE L1 L2 XD a0 a1' al b0 b1 bl
  go_wp2_with fail
  go_loop [14, 15] (fun u i => ∃ j : Nat, j ≤ m + 1 ∧ i = .int .i64 j ∧ u = .int .i64 (2 * 10 ^ j)) (fun _ i => m + 1 - (RowKit.intOf i).toNat)
  case atStart => exact ⟨0, by omega, rfl, rfl⟩
  case round =>
    obtain ⟨j, hj, rfl, rfl⟩ := hrel
    by_cases hlt : j < m + 1
    · have hlt' : (j : Int) < kk := by have := HKK.out; omega
      have hb := HPW.out j (by omega)
      have HE := Lib.hid (show (2 : Int) * 10 ^ (j + 1) = 2 * 10 ^ j * 10 by rw [Int.pow_succ, Int.mul_assoc])
      generalize (10 : Int) ^ j = t at *
      have hwr : IntKind.i64.wrap (2 * t * 10) = 2 * t * 10 := by rw [IntKind.wrap_i64]; omega
      go_wp2
      go_round
      case rel => exact ⟨j + 1, by omega, by go_num, by rw [HE.out]⟩
      case measure => simp [RowKit.intOf]; omega
    · obtain rfl : j = m + 1 := by omega
      have hlt' : ¬ (((m + 1 : Nat) : Int)) < kk := by have := HKK.out; omega
      clear HPW hj
      have H10 := Lib.hid ((H9.out.add 1 (2 * 10 ^ (m + 1))).add (-1) (2 * 10 ^ (m + 1)))
      simp only [World.size_alloc] at H10
      have B10 := Lib.hid (bAl (bAl B9.out (.cells #[.int .i64 1, .int .i64 (2 * 10 ^ (m + 1))] 26)) (.cells #[.int .i64 (-1), .int .i64 (2 * 10 ^ (m + 1))] 26))
      generalize (2 : Int) * 10 ^ (m + 1) = un at *
      go_upto_region 16 with fail
      generalize hw10 : (_ : World).alloc (.cells #[.int .i64 (-1), .int .i64 un] 26) = w10 at H10 B10 ⊢
      clear hw10 H9 B9
      obtain ⟨⟨c00, c01⟩, -, cl0⟩ := held_at H10.out (g := w9.heap.size + 1) (p := 1) (q := un) (by simp)
      obtain ⟨⟨c10, c11⟩, -, cl1⟩ := held_at H10.out (g := w9.heap.size) (p := dp) (q := dq) (by simp)
      go_wp2_with fail
      refine (less_is HL1.out _).mono ?_
      rintro e w11 ⟨rfl, hb⟩
      have H11 := Lib.hid (H10.out.later hb)
      have B11 := Lib.hid (bTr B10.out hb)
      clear hb H10 B10 c00 c01 cl0 c10 c11 cl1
      obtain ⟨⟨c00, c01⟩, -, cl0⟩ := held_at H11.out (g := w9.heap.size) (p := dp) (q := dq) (by simp)
      obtain ⟨⟨c10, c11⟩, -, cl1⟩ := held_at H11.out (g := w9.heap.size + 1 + 1) (p := -1) (q := un) (by simp)
      go_wp2_with fail
      refine (less_is HL2.out _).mono ?_
      rintro e w12 ⟨rfl, hb⟩
      have H12 := Lib.hid (H11.out.later hb)
      have B12 := Lib.hid (bTr B11.out hb)
      clear hb H11 B11 c00 c01 cl0 c10 c11 cl1
      by_cases hab : N * D' < N' * D
      · have HLA := Lib.hid (show LsIs N D N' D' true by have := HL3.out; rwa [decide_eq_true hab] at this)
        have HLB := Lib.hid (HL4.out hab)
        clear hab
        obtain ⟨⟨c00, c01⟩, -, cl0⟩ := held_at H12.out (g := w3.heap.size) (p := N) (q := D) (by simp)
        obtain ⟨⟨c10, c11⟩, -, cl1⟩ := held_at H12.out (g := w3.heap.size + 1) (p := N') (q := D') (by simp)
        go_wp2_with fail
        refine (less_is HLA.out _).mono ?_
        rintro e w13 ⟨rfl, hb⟩
        have H13 := Lib.hid (H12.out.later hb)
        have B13 := Lib.hid (bTr B12.out hb)
        clear hb H12 B12 c00 c01 cl0 c10 c11 cl1
        obtain ⟨⟨c00, c01⟩, -, cl0⟩ := held_at H13.out (g := w8.heap.size) (p := p2) (q := q2) (by simp)
        obtain ⟨⟨c10, c11⟩, -, cl1⟩ := held_at H13.out (g := w6.heap.size) (p := p1) (q := q1) (by simp)
        go_wp2_with fail
        refine (less_is HLB.out _).mono ?_
        rintro e w14 ⟨rfl, hb⟩
        have H14 := Lib.hid (H13.out.later hb)
        have B14 := Lib.hid (bTr B13.out hb)
        clear hb H13 B13 c00 c01 cl0 c10 c11 cl1
        go_wp2_with fail
        refine (awake_any _).mono ?_
        rintro e wf ⟨rfl, hb⟩
        have BF := Lib.hid (HB3.out.trans ((bTr B14.out hb).mono HB3.out.size))
        clear hb
        go_wp2
        go_ret
        exact ⟨rfl, BF.out⟩
      · have HLA := Lib.hid (show LsIs N D N' D' false by have := HL3.out; rwa [decide_eq_false hab] at this)
        clear hab
        obtain ⟨⟨c00, c01⟩, -, cl0⟩ := held_at H12.out (g := w3.heap.size) (p := N) (q := D) (by simp)
        obtain ⟨⟨c10, c11⟩, -, cl1⟩ := held_at H12.out (g := w3.heap.size + 1) (p := N') (q := D') (by simp)
        go_wp2_with fail
        refine (less_is HLA.out _).mono ?_
        rintro e w13 ⟨rfl, hb⟩
        have H13 := Lib.hid (H12.out.later hb)
        have B13 := Lib.hid (bTr B12.out hb)
        clear hb H12 B12 c00 c01 cl0 c10 c11 cl1
        go_wp2_with fail
        refine (awake_any _).mono ?_
        rintro e wf ⟨rfl, hb⟩
        have BF := Lib.hid (HB3.out.trans ((bTr B13.out hb).mono HB3.out.size))
        clear hb
        go_wp2
        go_ret
        exact ⟨rfl, BF.out⟩
end Go.Proofs.YtajiheohkmjhnaaGreatDoor
