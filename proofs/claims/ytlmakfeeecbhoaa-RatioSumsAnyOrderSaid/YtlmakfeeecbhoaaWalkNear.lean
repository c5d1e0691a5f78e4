/-
  The walk of the statement on rounded numbers.
-/
import Derived.Test.YtlmakfeeecbhoaaWalkOrders
namespace Go.Proofs.Ytlmakfeeecbhoaa
open Go.RowKit
set_option linter.unusedSimpArgs false
set_option linter.unusedVariables false

def RdIs (R : Bool → Int → Int → Bool) (n d v : Int) : Prop := I64 n ∧ I64 d ∧ roundV R n d = v
theorem floor_is {n d v : Int} (h : RdIs ruleDown n d v) (w : World) : Calls Try.prog 35 #[.agg #[.int .i64 n, .int .i64 d]] w fun e w' => e = .returned (.int .i64 v) ∧ Below w.heap.size w w' := by
  obtain ⟨h1, h2, rfl⟩ := h; exact floor_any n d h1 h2 w
theorem ceil_is {n d v : Int} (h : RdIs ruleUp n d v) (w : World) : Calls Try.prog 36 #[.agg #[.int .i64 n, .int .i64 d]] w fun e w' => e = .returned (.int .i64 v) ∧ Below w.heap.size w w' := by
  obtain ⟨h1, h2, rfl⟩ := h; exact ceil_any n d h1 h2 w
theorem round_is {n d v : Int} (h : RdIs ruleHalf n d v) (w : World) : Calls Try.prog 37 #[.agg #[.int .i64 n, .int .i64 d]] w fun e w' => e = .returned (.int .i64 v) ∧ Below w.heap.size w w' := by
  obtain ⟨h1, h2, rfl⟩ := h; exact round_any n d h1 h2 w
theorem even_is {n d v : Int} (h : RdIs ruleEven n d v) (w : World) : Calls Try.prog 38 #[.agg #[.int .i64 n, .int .i64 d]] w fun e w' => e = .returned (.int .i64 v) ∧ Below w.heap.size w w' := by
  obtain ⟨h1, h2, rfl⟩ := h; exact evens_any n d h1 h2 w
def LsIs (a b c d : Int) (v : Bool) : Prop := Frac.valid a b = true ∧ Frac.valid c d = true ∧ decide (cmpR a b c d < 0) = v
theorem less_is {a b c d : Int} {v : Bool} (h : LsIs a b c d v) (w : World) :
    Calls Try.prog 31 #[.agg #[.int .i64 a, .int .i64 b], .agg #[.int .i64 c, .int .i64 d]] w fun e w' => e = .returned (.bool v) ∧ Below w.heap.size w w' := by
  obtain ⟨h1, h2, rfl⟩ := h
  obtain ⟨b0, b1, a0, a1, -⟩ := (valid_iff a b).1 h1
  obtain ⟨d0, d1, c0, c1, -⟩ := (valid_iff c d).1 h2
  exact ratio_less a b c d (by omega) (by omega) (by omega) (by omega) (by omega) (by omega) (by omega) (by omega) w
theorem ls_mk {a b c d : Int} {v : Bool} (h1 : Frac.valid a b = true) (h2 : Frac.valid c d = true) (h : decide (a * d < c * b) = v) : LsIs a b c d v := by
  refine ⟨h1, h2, ?_⟩
  rw [← cmpR_yes a b c d h1 h2, ← h]
  by_cases k : a * d < c * b
  · rw [decide_eq_true k, decide_eq_true ((cmpI_lt _ _).2 k)]
  · rw [decide_eq_false k, decide_eq_false (fun e => k ((cmpI_lt _ _).1 e))]
theorem new_one {F : Int} (h : Frac.valid F 1 = true) : newNum F 1 = F ∧ newDen F 1 = 1 ∧ newErr F 1 = 0 := by
  have e1 : newNum F 1 = qn F 1 := by
    unfold newNum qn sgnOf
    rw [if_neg (by omega), decide_eq_false (show ¬ (1 : Int) < 0 by omega), Bool.bne_false]
  have e2 : newDen F 1 = qd F 1 := by unfold newDen qd; rw [if_neg (by omega)]
  have e3 : newErr F 1 = qe F 1 := by unfold newErr qe; rw [if_neg (by omega)]
  rw [e1, e2, e3]
  exact q_self h
theorem valid_one (F : Int) (h0 : -1152921504606846976 ≤ F) (h1 : F ≤ 1152921504606846976) : Frac.valid F 1 = true := (valid_iff F 1).2 ⟨by omega, by omega, h0, h1, Nat.gcd_one_right _⟩
set_option maxRecDepth 100000 in
set_option maxHeartbeats 8000000 in
theorem walkRatioNear (o : Option Addr) (n c : Nat) (zs : List Int) (w : World) (h : IsRow .i64 w o n c zs) :
    Calls Try.prog 10 #[.slice o n c] w fun e w' => e = .returned (.bool true) ∧ Below w.heap.size w w' := by
  have mixed : Try.prog.follows .mixedOrders = true := by kernel_rfl
  obtain ⟨hr, h1, h2, h3⟩ := row_of h
  clear h
  go_enter Try.func10, Try.ntmps10
  go_wp2_with fail
  refine (tape_new hr h1 h2 h3).mono ?_
  rintro e w1 ⟨g, n', rfl, ht, hb1, hg⟩
  clear hr h1 h2 h3
  go_wp2_with fail
  refine (tape_small ht).mono ?_
  rintro e w2 ⟨p, q, hpq, rfl, ht2, hg2⟩
  have hsq := small_q hpq
  have hN := hsq.n
  have hM := hsq.m
  have HV := Lib.hid hsq.v
  have HB2 := Lib.hid (hb1.trans (bGr hg2 hg hb1.size))
  clear ht ht2 hg2 hpq hb1 hg
  have hq0 := den_pos HV.out
  have hpb : -30 ≤ p ∧ p ≤ 30 ∧ q ≤ 12 := by omega
  obtain ⟨hp0, hp1, hq1⟩ := hpb
  clear hN hM hsq
  obtain ⟨r1, r2, r3, hrv⟩ := rest_q HV.out
  have hcf := ceil_floor HV.out
  have hfl := floor_at HV.out
  have hro := round_at HV.out
  have hev := even_at HV.out
  have heh := even_half HV.out
  have hee := even_half_even HV.out
  have hho := half_only hrv
  have hm0 := Int.emod_nonneg p (show q ≠ 0 by omega)
  have hm1 := Int.emod_lt_of_pos p hq0
  have hFb : -30 ≤ p / q ∧ p / q ≤ 30 := by
    constructor
    · exact Int.le_ediv_of_mul_le hq0 (by omega)
    · exact Int.ediv_le_of_le_mul hq0 (by omega)
  obtain ⟨ce, hce⟩ : ∃ ce, roundV ruleUp p q = ce := ⟨_, rfl⟩
  obtain ⟨fn, hfn⟩ : ∃ fn, roundV ruleDown (-p) q = fn := ⟨_, rfl⟩
  obtain ⟨ev, hevv⟩ : ∃ ev, roundV ruleEven p q = ev := ⟨_, rfl⟩
  obtain ⟨ro, hroo⟩ : ∃ ro, roundV ruleHalf p q = ro := ⟨_, rfl⟩
  have hi : I64 p ∧ I64 q ∧ I64 (-p) := ⟨⟨by omega, by omega⟩, ⟨by omega, by omega⟩, ⟨by omega, by omega⟩⟩
  obtain ⟨i1, i2, i3⟩ := hi
  have Iup : RdIs ruleUp p q ce := ⟨i1, i2, hce⟩
  have Ifn : RdIs ruleDown (-p) q fn := ⟨i3, i2, hfn⟩
  have Iev : RdIs ruleEven p q ev := ⟨i1, i2, hevv⟩
  have Iro : RdIs ruleHalf p q ro := ⟨i1, i2, hroo⟩
  rw [hce, hfn] at hcf
  rw [hroo] at hro
  rw [hevv] at hev heh hee
  have hfnv := floor_at (valid_neg HV.out)
  rw [hfn] at hfnv
  have hfb : -31 ≤ fn ∧ fn ≤ 31 := by
    rw [hfnv]
    constructor
    · exact Int.le_ediv_of_mul_le hq0 (by omega)
    · exact Int.ediv_le_of_le_mul hq0 (by omega)
  clear hce hfn hevv hroo i1 i2 i3 hfnv
  have Ifl : RdIs ruleDown p q (p / q) := ⟨⟨by omega, by omega⟩, ⟨by omega, by omega⟩, hfl⟩
  clear hfl
  generalize p / q = F at *
  generalize p % q = rr at *
  have hv1 := valid_one F (by omega) (by omega)
  obtain ⟨n1, n2, n3⟩ := new_one hv1
  have HV1 := Lib.hid hv1
  have HVr := Lib.hid hrv
  have N1 := Lib.hid n1
  have N2 := Lib.hid n2
  have N3 := Lib.hid n3
  have R1 := Lib.hid r1
  have R2 := Lib.hid r2
  have R3 := Lib.hid r3
  have RO := Lib.hid hro
  have EV := Lib.hid hev
  have EH := Lib.hid heh
  have EE := Lib.hid hee
  have HO := Lib.hid hho
  have L0 : LsIs rr q 0 1 false := ls_mk hrv (by decide +kernel) (decide_eq_false (by omega))
  have L1 : LsIs rr q 1 1 true := ls_mk hrv (by decide +kernel) (decide_eq_true (by omega))
  have NEGP : IntKind.i64.wrap (-p) = -p := IntWalk.i64_in _ (by omega)
  have NEGF : IntKind.i64.wrap (-fn) = ce := by rw [hcf]; exact IntWalk.i64_in _ (by omega)
  have CC : (ce != ce) = false := by simp
  clear hv1 n1 n2 n3 r1 r2 r3 hro hev heh hee hho hcf hrv
  go_wp2_with fail
  refine (floor_is Ifl _).mono ?_
  rintro e w3 ⟨rfl, hb⟩
  have H3 := Lib.hid (show HB w2 [(w2.heap.size, p, q)] w3 from ⟨((Held.nil w2).add p q).later hb, bTr (bAl (Below.refl w2.heap.size w2) _) hb⟩)
  clear hb
  go_wp2_with fail
  refine (ratio_new F 1 (by omega) (by omega) (by omega) (by omega) _).mono ?_
  rintro e w4 ⟨rfl, hb⟩
  rw [N1.out, N2.out, N3.out]
  have H4 := Lib.hid (H3.out.go hb)
  clear hb H3 N1 N2 N3
  obtain ⟨⟨x0, x1⟩, -, x2⟩ := H4.out.1.at_ (g := w2.heap.size) (p := p) (q := q) (by simp)
  go_wp2_with fail
  refine (sub_yes p q F 1 HV.out HV1.out _).mono ?_
  rintro e w5 ⟨rfl, hb⟩
  rw [R1.out, R2.out, R3.out]
  have H5 := Lib.hid ((H4.out.add F 1).go hb)
  clear hb H4 R1 R2 R3 x0 x1 x2
  go_wp2_with fail
  have H6 := Lib.hid (show HB w2 [(w5.heap.size + 1 + 1, 1, 1), (w5.heap.size + 1, 1, 2), (w5.heap.size, rr, q), (w4.heap.size, F, 1), (w2.heap.size, p, q)] (((w5.alloc (.cells #[.int .i64 rr, .int .i64 q] 26)).alloc (.cells #[.int .i64 1, .int .i64 2] 26)).alloc (.cells #[.int .i64 1, .int .i64 1] 26)) from ⟨(((H5.out.1.addAt rr q (n := w5.heap.size) rfl).addAt 1 2 (n := w5.heap.size + 1) (by simp)).addAt 1 1 (n := w5.heap.size + 1 + 1) (by simp)), bAl (bAl (bAl H5.out.2 _) _) _⟩)
  clear H5
  generalize ((w5.alloc (.cells #[.int .i64 rr, .int .i64 q] 26)).alloc (.cells #[.int .i64 1, .int .i64 2] 26)).alloc (.cells #[.int .i64 1, .int .i64 1] 26) = w6 at H6 ⊢
  have x0 : ∀ β : BelowOf w6, β.to.cell? ⟨w5.heap.size, 0, none⟩ = some (.int .i64 rr) := bq_cell (H6.out.1.lt (p := rr) (q := q) (by simp)) (H6.out.1.at_ (p := rr) (q := q) (by simp)).1.1
  have x1 : ∀ β : BelowOf w6, β.to.cell? ⟨w5.heap.size, 1, none⟩ = some (.int .i64 q) := bq_cell (H6.out.1.lt (p := rr) (q := q) (by simp)) (H6.out.1.at_ (p := rr) (q := q) (by simp)).1.2
  have y0 : ∀ β : BelowOf w6, β.to.cell? ⟨w5.heap.size + 1 + 1, 0, none⟩ = some (.int .i64 1) := bq_cell (H6.out.1.lt (p := 1) (q := 1) (by simp)) (H6.out.1.at_ (p := 1) (q := 1) (by simp)).1.1
  have y1 : ∀ β : BelowOf w6, β.to.cell? ⟨w5.heap.size + 1 + 1, 1, none⟩ = some (.int .i64 1) := bq_cell (H6.out.1.lt (p := 1) (q := 1) (by simp)) (H6.out.1.at_ (p := 1) (q := 1) (by simp)).1.2
  have s0 : ∀ β : BelowOf w6, β.to.cell? ⟨w2.heap.size, 0, none⟩ = some (.int .i64 p) := bq_cell (H6.out.1.lt (p := p) (q := q) (by simp)) (H6.out.1.at_ (p := p) (q := q) (by simp)).1.1
  have s1 : ∀ β : BelowOf w6, β.to.cell? ⟨w2.heap.size, 1, none⟩ = some (.int .i64 q) := bq_cell (H6.out.1.lt (p := p) (q := q) (by simp)) (H6.out.1.at_ (p := p) (q := q) (by simp)).1.2
  refine wp_region_below mixed (by kernel_rfl) ?_
  repeat (go_big_quiet_step ((first | (go_at_call 31; exact bq_call (less_is (by assumption) _)) | (go_at_call 36; exact bq_call (ceil_is (by assumption) _)) | (go_at_call 35; exact bq_call (floor_is (by assumption) _)))))
  refine wpQuiet_nil ?_
  intro w7 hw'
  have HR := Lib.hid (show Below w6.heap.size w6 w7 by obtain ⟨p, h⟩ := hw'; exact h ▸ p.h)
  have H7 := Lib.hid (H6.out.go HR.out)
  clear hw' x0 x1 y0 y1 s0 s1 NEGP NEGF CC HR H6 L0 L1 Iup Ifn
  obtain ⟨⟨s0, s1⟩, -, s2⟩ := H7.out.1.at_ (g := w2.heap.size) (p := p) (q := q) (by simp)
  go_wp2_with fail
  refine (floor_is Ifl _).mono ?_
  rintro e w8 ⟨rfl, hb⟩
  have H8 := Lib.hid (H7.out.go hb)
  clear hb H7 s0 s1 s2
  rcases Int.lt_trichotomy (2 * rr) q with hlt | hlt | hlt
  · have LH : LsIs rr q 1 2 true := ls_mk HVr.out (by decide +kernel) (decide_eq_true (by omega))
    have hne : ¬ 2 * rr = q := by omega
    have e1 := RO.out
    have e2 := EV.out hne
    rw [if_pos hlt] at e1 e2
    subst e1
    subst e2
    have EQH : ∀ W, (binOp .eql 26 (.agg #[.int .i64 rr, .int .i64 q]) (.agg #[.int .i64 1, .int .i64 2])).run Try.prog W = .ok (.bool false) W := fun W => by
      rw [eqlR, decide_eq_false (fun e => hne (HO.out.1 (by injection e with e1 e2; exact ⟨e1, e2⟩)))]
    clear RO EV EH EE HO hne
    obtain ⟨⟨x0, x1⟩, -, x2⟩ := H8.out.1.at_ (g := w5.heap.size) (p := rr) (q := q) (by simp)
    obtain ⟨⟨y0, y1⟩, -, y2⟩ := H8.out.1.at_ (g := w5.heap.size + 1) (p := 1) (q := 2) (by simp)
    go_wp2_with fail
    refine (less_is LH _).mono ?_
    rintro e w9 ⟨rfl, hb⟩
    have H9 := Lib.hid (H8.out.go hb)
    clear hb H8 x0 x1 x2 y0 y1 y2
    obtain ⟨⟨s0, s1⟩, -, s2⟩ := H9.out.1.at_ (g := w2.heap.size) (p := p) (q := q) (by simp)
    go_wp2_with fail
    refine (round_is Iro _).mono ?_
    rintro e w10 ⟨rfl, hb⟩
    have H10 := Lib.hid (H9.out.go hb)
    clear hb H9 s0 s1 s2
    obtain ⟨⟨s0, s1⟩, -, s2⟩ := H10.out.1.at_ (g := w2.heap.size) (p := p) (q := q) (by simp)
    obtain ⟨⟨x0, x1⟩, -, x2⟩ := H10.out.1.at_ (g := w5.heap.size) (p := rr) (q := q) (by simp)
    obtain ⟨⟨y0, y1⟩, -, y2⟩ := H10.out.1.at_ (g := w5.heap.size + 1) (p := 1) (q := 2) (by simp)
    go_wp2_with fail
    refine (even_is Iev _).mono ?_
    rintro e w11 ⟨rfl, hb⟩
    have H11 := Lib.hid (H10.out.go hb)
    clear hb H10 s0 s1 s2 x0 x1 x2 y0 y1 y2
    go_wp2_with fail
    refine (awake_any _).mono ?_
    rintro e w12 ⟨rfl, hb⟩
    have HE := Lib.hid (HB2.out.trans ((bTr H11.out.2 hb).mono HB2.out.size))
    go_wp2
    go_ret
    exact ⟨rfl, HE.out⟩
  · have LH : LsIs rr q 1 2 false := ls_mk HVr.out (by decide +kernel) (decide_eq_false (by omega))
    have e1 := RO.out
    rw [if_neg (by omega)] at e1
    subst e1
    have EQH : ∀ W, (binOp .eql 26 (.agg #[.int .i64 rr, .int .i64 q]) (.agg #[.int .i64 1, .int .i64 2])).run Try.prog W = .ok (.bool true) W := fun W => by
      rw [eqlR, decide_eq_true (by obtain ⟨e1, e2⟩ := HO.out.2 hlt; rw [e1, e2])]
    have e2 := EH.out hlt
    have e3 := EE.out hlt
    have HT := Lib.hid e3
    clear RO EV EH EE HO e3
    have ADD : IntKind.i64.wrap (F + 1) = F + 1 := IntWalk.i64_in _ (by omega)
    obtain ⟨⟨x0, x1⟩, -, x2⟩ := H8.out.1.at_ (g := w5.heap.size) (p := rr) (q := q) (by simp)
    obtain ⟨⟨y0, y1⟩, -, y2⟩ := H8.out.1.at_ (g := w5.heap.size + 1) (p := 1) (q := 2) (by simp)
    go_wp2_with fail
    refine (less_is LH _).mono ?_
    rintro e w9 ⟨rfl, hb⟩
    have H9 := Lib.hid (H8.out.go hb)
    clear hb H8 x0 x1 x2 y0 y1 y2
    obtain ⟨⟨s0, s1⟩, -, s2⟩ := H9.out.1.at_ (g := w2.heap.size) (p := p) (q := q) (by simp)
    go_wp2_with fail
    refine (round_is Iro _).mono ?_
    rintro e w10 ⟨rfl, hb⟩
    have H10 := Lib.hid (H9.out.go hb)
    clear hb H9 s0 s1 s2
    by_cases hf2 : F.tmod 2 = 0
    · rw [if_pos hf2] at e2
      have e4 := e2.symm
      subst e4
      obtain ⟨⟨s0, s1⟩, -, s2⟩ := H10.out.1.at_ (g := w2.heap.size) (p := p) (q := q) (by simp)
      obtain ⟨⟨x0, x1⟩, -, x2⟩ := H10.out.1.at_ (g := w5.heap.size) (p := rr) (q := q) (by simp)
      obtain ⟨⟨y0, y1⟩, -, y2⟩ := H10.out.1.at_ (g := w5.heap.size + 1) (p := 1) (q := 2) (by simp)
      have TM : F.tmod 2 = 0 := HT.out
      have SUB : IntKind.i64.wrap (F + 1 - 1) = F := by rw [show F + 1 - 1 = F by omega]; exact IntWalk.i64_in _ (by omega)
      have NE1 : (F == F + 1) = false := by rw [beq_eq_false_iff_ne]; omega
      go_wp2_with fail
      refine (even_is Iev _).mono ?_
      rintro e w11 ⟨rfl, hb⟩
      have H11 := Lib.hid (H10.out.go hb)
      clear hb H10 s0 s1 s2 x0 x1 x2 y0 y1 y2
      obtain ⟨⟨s0, s1⟩, -, s2⟩ := H11.out.1.at_ (g := w2.heap.size) (p := p) (q := q) (by simp)
      go_wp2_with fail
      refine (even_is Iev _).mono ?_
      rintro e w12 ⟨rfl, hb⟩
      have H12 := Lib.hid (H11.out.go hb)
      clear hb H11 s0 s1 s2
      obtain ⟨⟨s0, s1⟩, -, s2⟩ := H12.out.1.at_ (g := w2.heap.size) (p := p) (q := q) (by simp)
      go_wp2_with fail
      refine (even_is Iev _).mono ?_
      rintro e w13 ⟨rfl, hb⟩
      have H13 := Lib.hid (H12.out.go hb)
      clear hb H12 s0 s1 s2
      go_wp2_with fail
      refine (awake_any _).mono ?_
      rintro e w14 ⟨rfl, hb⟩
      have HE := Lib.hid (HB2.out.trans ((bTr H13.out.2 hb).mono HB2.out.size))
      go_wp2
      go_ret
      exact ⟨rfl, HE.out⟩
    · rw [if_neg hf2] at e2
      subst e2
      obtain ⟨⟨s0, s1⟩, -, s2⟩ := H10.out.1.at_ (g := w2.heap.size) (p := p) (q := q) (by simp)
      obtain ⟨⟨x0, x1⟩, -, x2⟩ := H10.out.1.at_ (g := w5.heap.size) (p := rr) (q := q) (by simp)
      obtain ⟨⟨y0, y1⟩, -, y2⟩ := H10.out.1.at_ (g := w5.heap.size + 1) (p := 1) (q := 2) (by simp)
      have TM : (F + 1).tmod 2 = 0 := HT.out
      have SUB : IntKind.i64.wrap (F + 1 - 1) = F := by rw [show F + 1 - 1 = F by omega]; exact IntWalk.i64_in _ (by omega)
      go_wp2_with fail
      refine (even_is Iev _).mono ?_
      rintro e w11 ⟨rfl, hb⟩
      have H11 := Lib.hid (H10.out.go hb)
      clear hb H10 s0 s1 s2 x0 x1 x2 y0 y1 y2
      obtain ⟨⟨s0, s1⟩, -, s2⟩ := H11.out.1.at_ (g := w2.heap.size) (p := p) (q := q) (by simp)
      go_wp2_with fail
      refine (even_is Iev _).mono ?_
      rintro e w12 ⟨rfl, hb⟩
      have H12 := Lib.hid (H11.out.go hb)
      clear hb H11 s0 s1 s2
      go_wp2_with fail
      refine (awake_any _).mono ?_
      rintro e w13 ⟨rfl, hb⟩
      have HE := Lib.hid (HB2.out.trans ((bTr H12.out.2 hb).mono HB2.out.size))
      go_wp2
      go_ret
      exact ⟨rfl, HE.out⟩
  · have LH : LsIs rr q 1 2 false := ls_mk HVr.out (by decide +kernel) (decide_eq_false (by omega))
    have hne : ¬ 2 * rr = q := by omega
    have e1 := RO.out
    have e2 := EV.out hne
    rw [if_neg (by omega)] at e1 e2
    subst e1
    subst e2
    have EQH : ∀ W, (binOp .eql 26 (.agg #[.int .i64 rr, .int .i64 q]) (.agg #[.int .i64 1, .int .i64 2])).run Try.prog W = .ok (.bool false) W := fun W => by
      rw [eqlR, decide_eq_false (fun e => hne (HO.out.1 (by injection e with e1 e2; exact ⟨e1, e2⟩)))]
    clear RO EV EH EE HO hne
    have ADD : IntKind.i64.wrap (F + 1) = F + 1 := IntWalk.i64_in _ (by omega)
    obtain ⟨⟨x0, x1⟩, -, x2⟩ := H8.out.1.at_ (g := w5.heap.size) (p := rr) (q := q) (by simp)
    obtain ⟨⟨y0, y1⟩, -, y2⟩ := H8.out.1.at_ (g := w5.heap.size + 1) (p := 1) (q := 2) (by simp)
    go_wp2_with fail
    refine (less_is LH _).mono ?_
    rintro e w9 ⟨rfl, hb⟩
    have H9 := Lib.hid (H8.out.go hb)
    clear hb H8 x0 x1 x2 y0 y1 y2
    obtain ⟨⟨s0, s1⟩, -, s2⟩ := H9.out.1.at_ (g := w2.heap.size) (p := p) (q := q) (by simp)
    go_wp2_with fail
    refine (round_is Iro _).mono ?_
    rintro e w10 ⟨rfl, hb⟩
    have H10 := Lib.hid (H9.out.go hb)
    clear hb H9 s0 s1 s2
    obtain ⟨⟨s0, s1⟩, -, s2⟩ := H10.out.1.at_ (g := w2.heap.size) (p := p) (q := q) (by simp)
    obtain ⟨⟨x0, x1⟩, -, x2⟩ := H10.out.1.at_ (g := w5.heap.size) (p := rr) (q := q) (by simp)
    obtain ⟨⟨y0, y1⟩, -, y2⟩ := H10.out.1.at_ (g := w5.heap.size + 1) (p := 1) (q := 2) (by simp)
    go_wp2_with fail
    refine (even_is Iev _).mono ?_
    rintro e w11 ⟨rfl, hb⟩
    have H11 := Lib.hid (H10.out.go hb)
    clear hb H10 s0 s1 s2 x0 x1 x2 y0 y1 y2
    go_wp2_with fail
    refine (awake_any _).mono ?_
    rintro e w12 ⟨rfl, hb⟩
    have HE := Lib.hid (HB2.out.trans ((bTr H11.out.2 hb).mono HB2.out.size))
    go_wp2
    go_ret
    exact ⟨rfl, HE.out⟩
end Go.Proofs.Ytlmakfeeecbhoaa
