/-
  The program's Decimal.
-/
import Derived.Test.YtjdldkafghblmaaDoorBkN
import Derived.Test.YtjdldkafghblmaaDoorShelfP
import Derived.Test.YtjdldkafghblmaaDoorHeldTail
import Derived.Deep.RegionHeld3
import Derived.Deep.DeepCutAuto
import Derived.Deep.CutBlock
namespace Go.Proofs.YtjdldkafghblmaaDoor
open Go.RowKit Go.Lib
set_option linter.unusedSimpArgs false
set_option linter.unusedVariables false

theorem repeatL_zero : ∀ c, repeatL [48] c = List.replicate c (48 : UInt8)
  | 0 => rfl
  | c + 1 => by show [48] ++ repeatL [48] c = _; rw [repeatL_zero c, List.replicate_succ]; rfl
theorem repeat_any (c : Nat) (hc : c ≤ 9) (w : World) : Calls Tryd.prog 62 #[.string ⟨#[48]⟩, .int .i64 (c : Int)] w fun e w' => e = .returned (.string ⟨(List.replicate c (48 : UInt8)).toArray⟩) ∧ Below w.heap.size w w' := by
  have h : Calls Tryd.prog 62 _ _ _ := Any.strings_Repeat Tryd.lays105 Tryd.Builder_Extra_105 ⟨#[48]⟩ c w (by omega) (by show 1 * c ≤ _; omega)
  refine h.mono ?_
  rintro e w' ⟨rfl, hb⟩
  exact ⟨ret_str (by show (⟨(repeatL [48] c).toArray⟩ : ByteArray) = _; rw [repeatL_zero]), hb⟩
set_option maxRecDepth 100000 in
set_option maxHeartbeats 2000000 in
theorem padded_any (m k : Nat) (hk : 1 ≤ k) (hk9 : k ≤ 9) (hm : m < 10 ^ k) {w : World} (HT : Tab w) :
    Calls Tryd.prog 37 #[.int .u64 (m : Int), .int .i64 (k : Int)] w fun e w' => e = .returned (.string ⟨(padL k (decDigits m)).toArray⟩) ∧ Below w.heap.size w w' := by
  have hp := pow_le9 hk9
  have H1 := Lib.hid (fmtU_any m (by omega) HT)
  obtain ⟨l0, l1⟩ := decD_len k m hk hm
  have HL := Lib.hid (show padL k (decDigits m) = List.replicate (k - (decDigits m).length) 48 ++ decDigits m from rfl)
  generalize decDigits m = l at *
  obtain ⟨c, hc⟩ : ∃ c, k - l.length = c := ⟨_, rfl⟩
  rw [hc] at HL
  have H2 := Lib.hid (fun w => repeat_any c (by omega) w)
  have hw : IntKind.i64.wrap ((k : Int) - (l.length : Int)) = (c : Int) := by rw [IntKind.wrap_i64]; omega
  have z1 : ¬ 9223372036854775807 < c + l.length := by omega
  clear hm hp
  go_enter Tryd.func37, Tryd.ntmps37
  go_wp2_with fail
  refine H1.out.mono ?_
  rintro e w1 ⟨rfl, hb⟩
  have B1 := Lib.hid hb
  clear hb
  go_wp2_with fail
  refine (H2.out _).mono ?_
  rintro e w2 ⟨rfl, hb⟩
  have B2 := Lib.hid (bTr B1.out hb)
  clear hb
  have HX := Lib.hid (show (⟨(List.replicate c (48 : UInt8)).toArray⟩ : ByteArray) ++ ⟨l.toArray⟩ = ⟨(padL k l).toArray⟩ by rw [text_app, HL.out])
  have z2 : (List.replicate c (48 : UInt8)).length = c := List.length_replicate
  clear HL H1 H2
  generalize List.replicate c (48 : UInt8) = lr at *
  have z3 : ¬ 9223372036854775807 < lr.length + l.length := by omega
  go_wp2
  go_ret
  exact ⟨ret_str HX.out, B2.out⟩

theorem wrapSm {x : Int} (h : -9223372036854775808 ≤ x) (h2 : x ≤ 9223372036854775807) : IntKind.i64.wrap x = x := by rw [IntKind.wrap_i64]; omega
theorem rup_rule (d q r : Nat) : ruleEven (decide (q % 2 = 1)) (r : Int) (d : Int) = decide (rup d q r = 1) := by
  unfold ruleEven rup
  by_cases h1 : d < 2 * r
  · rw [if_pos (.inl h1), decide_eq_true (show (d : Int) - r < r by omega), decide_eq_true (show (1 : Nat) = 1 from rfl)]
    rfl
  · rw [decide_eq_false (show ¬ (d : Int) - r < r by omega), Bool.false_or]
    by_cases h2 : 2 * r = d
    · have e : ((r : Int) == (d : Int) - r) = true := by rw [beq_iff_eq]; omega
      rw [e, Bool.true_and]
      by_cases h3 : q % 2 = 1
      · rw [if_pos (.inr ⟨h2, h3⟩), decide_eq_true h3, decide_eq_true (show (1 : Nat) = 1 from rfl)]
      · rw [if_neg (by rintro (h | ⟨_, h⟩) <;> omega), decide_eq_false h3, decide_eq_false (show ¬ (0 : Nat) = 1 by omega)]
    · have e : ((r : Int) == (d : Int) - r) = false := by rw [beq_eq_false_iff_ne]; omega
      rw [e, Bool.false_and, if_neg (by rintro (h | ⟨h, _⟩) <;> omega), decide_eq_false (show ¬ (0 : Nat) = 1 by omega)]

/-- behind the first division: its box, its rest -/
structure DV (w : World) (N D : Int) (q : Nat) (g6 : Nat) (wr : World) : Prop where
  a : Blk wr w.heap.size 24 #[.int .i64 N, .int .i64 D]
  n : ∃ h l, W2 h l q ∧ Blk wr g6 50 #[.int .u64 h, .int .u64 l]
  be : Below w.heap.size w wr
  gt : w.heap.size < g6

theorem eqlV (a b c d : Int) (w : World) : (binOp .eql 50 (.agg #[.int .u64 a, .int .u64 b]) (.agg #[.int .u64 c, .int .u64 d])).run Tryd.prog w = .ok (.bool (decide ((a, b) = (c, d)))) w := by
  have u3 := Tryd.underlying43
  have a3 := Tryd.isAgg43
  have z3 := Tryd.sizeOf43
  have hS : Tryd.prog.underlying 50 = some (.struct (Tryd.prog.fieldsOf 50)) := by kernel_rfl
  have hp : Tryd.prog.stoodInHeld 50 = false := by kernel_rfl
  rw [run_eql_struct, show (10000 : Nat) = 9999 + 1 from rfl, run_equalIn_agg w 9999 50 _ _ hS hp]
  simp only [Program.fieldsOf, Tryd.underlying50]
  go_simp
  by_cases h1 : a = c <;> by_cases h2 : b = d <;> simp [h1, h2]
theorem neqV (a b c d : Int) (w : World) : (binOp .neq 50 (.agg #[.int .u64 a, .int .u64 b]) (.agg #[.int .u64 c, .int .u64 d])).run Tryd.prog w = .ok (.bool (!decide ((a, b) = (c, d)))) w := by
  have h := eqlV a b c d w
  rw [run_eql_struct] at h
  rw [run_neq_struct]
  cases hr : ((Op.equalIn 10000 50 (.agg #[.int .u64 a, .int .u64 b]) (.agg #[.int .u64 c, .int .u64 d])).run Tryd.prog w) with
  | ok r w1 =>
    rw [hr] at h
    simp only [Result.andThen_ok, Result.ok.injEq, Value.bool.injEq] at h ⊢
    obtain ⟨h1, h2⟩ := h
    exact ⟨by rw [h1], h2⟩
  | halt s w1 => rw [hr] at h; simp at h
theorem w2_low {h l : Int} {x : Nat} (H : W2 h l x) (hx : x < 18446744073709551616) : h = 0 ∧ l = (x : Int) := by
  obtain ⟨a, b, c, d, e⟩ := H
  omega
def BoxA (b : Nat) (N D : Int) (W : World) : Prop := W.cell? ⟨b, 0, none⟩ = some (.int .i64 N) ∧ W.cell? ⟨b, 1, none⟩ = some (.int .i64 D)
set_option maxRecDepth 100000 in
set_option maxHeartbeats 8000000 in
theorem decimal_yes (N D : Int) (k : Nat) (hN : I64 N) (hD : I64 D) (hv : Frac.valid N D = true) (hk : k ≤ 9) {w : World} (HT : Tab w) :
    Calls Tryd.prog 13 #[.agg #[.int .i64 N, .int .i64 D], .int .i64 (k : Int)] w fun e w' => e = .returned (.string ⟨(decL N D k).toArray⟩) ∧ Below w.heap.size w w' := by
  have HV := Lib.hid (fun w => valid_any N D hN.1 hN.2 hD.1 hD.2 w)
  rw [hv] at HV
  have P0 := Lib.hid (Blk.new w 24 #[.int .i64 N, .int .i64 D])
  have B0 := Lib.hid (bAl (Below.refl w.heap.size w) (.cells #[.int .i64 N, .int .i64 D] 24))
  obtain ⟨d0, d1, n1, x1, q1⟩ := dq_bd (k := k) hv hk
  have hp := pow_le9 hk
  have HPW := Lib.hid (fun w => power_any k (by omega) w)
  have e10 : (10 : Int) ^ k = ((10 ^ k : Nat) : Int) := by rw [Int.natCast_pow]; rfl
  simp only [e10] at HPW
  have hDn : (D.natAbs : Int) = D := by have := ((valid_iff N D).1 hv).1; omega
  have HMN := Lib.hid (fun w => magnitude_any N hN.1 hN.2 w)
  have HMD := Lib.hid (fun w => magnitude_any D hD.1 hD.2 w)
  have HDQ := Lib.hid (show dq N D k = N.natAbs * 10 ^ k / D.natAbs + rup D.natAbs (N.natAbs * 10 ^ k / D.natAbs) (N.natAbs * 10 ^ k % D.natAbs) from rfl)
  have HDL := Lib.hid (show decL N D k = (if N < 0 ∧ dq N D k ≠ 0 then [45] else []) ++ (decDigits (dq N D k / 10 ^ k) ++ (if 0 < k then 46 :: padL k (decDigits (dq N D k % 10 ^ k)) else [])) from rfl)
  have HWB := Lib.hid (whole_bd hv hk)
  have HRL := Lib.hid (fun h => rest_len (k := k) h (dq N D k))
  have HPD := Lib.hid (fun (h : 1 ≤ k) {w : World} (hw : Tab w) => padded_any (dq N D k % 10 ^ k) k h hk (Nat.mod_lt _ (by omega)) hw)
  generalize dq N D k = Q at *
  have HHN := Lib.hid (And.intro hN hD)
  clear hv hN hD e10
  generalize decL N D k = LL at *
  generalize hT : 10 ^ k = T at *
  generalize N.natAbs = X at *
  generalize D.natAbs = Y at *
  have HXT := Lib.hid (fun w => times_w X T (by omega) (by omega) w)
  have HDV := Lib.hid (fun (h l : Int) (H : W2 h l (X * T)) w => divided_w H (y := Y) (by omega) (by omega) w)
  have hr : X * T % Y < Y := Nat.mod_lt _ (by omega)
  have HDN := Lib.hid hDn
  clear hDn
  have hk0 : (0 : Int) ≤ (k : Int) := by omega
  have kk1 : ¬ (k : Int) < 0 := by omega
  have kk2 : ¬ (9 : Int) < (k : Int) := by omega
  have kk3 : decide ((k : Int) < 0) = false := decide_eq_false kk1
  have kk4 : decide ((k : Int) > 9) = false := decide_eq_false kk2
  clear x1 n1 hT
  go_enter Tryd.func13, Tryd.ntmps13
  go_wp2_with fail
  refine (HV.out _).mono ?_
  rintro e w1 ⟨rfl, hb⟩
  have P1 := Lib.hid (P0.out.later hb)
  have B1 := Lib.hid (bTr B0.out hb)
  clear hb P0 B0 HV
  go_wp2_with fail
  refine (HPW.out _).mono ?_
  rintro e w2 ⟨rfl, hb⟩
  have P2 := Lib.hid (P1.out.later hb)
  have B2 := Lib.hid (bTr B1.out hb)
  clear hb P1 B1 HPW kk1 kk2 kk3 kk4
  obtain ⟨⟨c0, c1⟩, -, hlt⟩ := P2.out.two
  go_wp2_with fail
  have DD := Lib.hid (show ∀ g wr, w.heap.size < g → Below w.heap.size w wr → Blk wr w.heap.size 24 #[.int .i64 N, .int .i64 D] → ∀ h l, W2 h l (X * T / Y) → Blk wr g 50 #[.int .u64 h, .int .u64 l] → DV w N D (X * T / Y) g wr from fun g wr h1 h2 h3 h l h4 h5 => ⟨h3, ⟨h, l, h4, h5⟩, h2, h1⟩)
  go_cut [6, 7] (fun s6 s7 wx => ∃ g6 : Nat, s6 = .pointer (some ⟨g6, 0, none⟩) ∧ s7 = .int .u64 ((X * T % Y : Nat) : Int) ∧ DV w N D (X * T / Y) g6 wx)
  case first =>
    have P3 := Lib.hid (P2.out.drew)
    have B3 := Lib.hid (bD1 B2.out)
    refine wp_region_held_tail (BoxA w.heap.size N D) 14 (by kernel_rfl) (by kernel_rfl) ?_
    simp only [List.drop_succ_cons, List.drop_zero]
    clear c0 c1 hlt P2 B2
    generalize w2.drew = w3 at P3 B3 ⊢
    have hH : BoxA w.heap.size N D w3 := ⟨P3.out.cell 0, P3.out.cell 1⟩
    refine HeadW.take (i := 0) (oi := ?oi1) (v := ?v1) ?hi1 (by kernel_rfl) ?hQ1 (Or.inl ⟨?hg1, ?hy1⟩) hH ?rest1
    case hi1 => simp only [List.getElem?_toArray, List.getElem?_cons_succ, List.getElem?_cons_zero] <;> rfl
    case hQ1 => exact fun _ _ _ h => h
    case hg1 => rfl
    case hy1 => intro W hSw; obtain ⟨s0, s1⟩ := hSw; go_simp; try with_reducible rfl
    case rest1 =>
    try simp only [Act.put, List.setIfInBounds_toArray, List.set_cons_zero, List.set_cons_succ]
    refine HeadW.take (i := 1) (oi := ?oi2) (v := ?v2) ?hi2 (by kernel_rfl) ?hQ2 (Or.inl ⟨?hg2, ?hy2⟩) hH ?rest2
    case hi2 => simp only [List.getElem?_toArray, List.getElem?_cons_succ, List.getElem?_cons_zero] <;> rfl
    case hQ2 => exact fun _ _ _ h => h
    case hg2 => rfl
    case hy2 => intro W hSw; obtain ⟨s0, s1⟩ := hSw; go_simp; try with_reducible rfl
    case rest2 =>
    try simp only [Act.put, List.setIfInBounds_toArray, List.set_cons_zero, List.set_cons_succ]
    refine HeadW.take (i := 3) (oi := ?oi3) (v := ?v3) ?hi3 (by kernel_rfl) ?hQ3 (Or.inl ⟨?hg3, ?hy3⟩) hH ?rest3
    case hi3 => simp only [List.getElem?_toArray, List.getElem?_cons_succ, List.getElem?_cons_zero] <;> rfl
    case hQ3 => exact fun _ _ _ h => h
    case hg3 => rfl
    case hy3 => intro W hSw; obtain ⟨s0, s1⟩ := hSw; go_simp; try with_reducible rfl
    case rest3 =>
    try simp only [Act.put, List.setIfInBounds_toArray, List.set_cons_zero, List.set_cons_succ]
    refine HeadW.take (i := 5) (oi := ?oi4) (v := ?v4) ?hi4 (by kernel_rfl) ?hQ4 (Or.inl ⟨?hg4, ?hy4⟩) hH ?rest4
    case hi4 => simp only [List.getElem?_toArray, List.getElem?_cons_succ, List.getElem?_cons_zero] <;> rfl
    case hQ4 => exact fun _ _ _ h => h
    case hg4 => rfl
    case hy4 => intro W hSw; obtain ⟨s0, s1⟩ := hSw; go_simp; try with_reducible rfl
    case rest4 =>
    try simp only [Act.put, List.setIfInBounds_toArray, List.set_cons_zero, List.set_cons_succ]
    refine HeadW.take (i := 6) (oi := ?oi5) (v := ?v5) ?hi5 (by kernel_rfl) ?hQ5 (Or.inl ⟨?hg5, ?hy5⟩) hH ?rest5
    case hi5 => simp only [List.getElem?_toArray, List.getElem?_cons_succ, List.getElem?_cons_zero] <;> rfl
    case hQ5 => exact fun _ _ _ h => h
    case hg5 => rfl
    case hy5 => intro W hSw; obtain ⟨s0, s1⟩ := hSw; go_simp; try with_reducible rfl
    case rest5 =>
    try simp only [Act.put, List.setIfInBounds_toArray, List.set_cons_zero, List.set_cons_succ]
    refine HeadW.two (i := 2) (j := 12) (oi := ?oi6) (oj := ?oj6) ?hi6 ?hj6 (by kernel_rfl) ?ha6 ?hb6
    case hi6 => simp only [List.getElem?_toArray, List.getElem?_cons_succ, List.getElem?_cons_zero] <;> rfl
    case hj6 => simp only [List.getElem?_toArray, List.getElem?_cons_succ, List.getElem?_cons_zero] <;> rfl
    case ha6 =>
      intro K hK
      go_simp
      go_at_call 32
      refine (HMN.out _).mono ?_
      rintro e wz ⟨rfl, hw⟩
      obtain rfl := hw
      try dsimp only
      refine hK.out _ _ hH ?_
      clear hK K
      try simp only [Act.put, List.setIfInBounds_toArray, List.set_cons_zero, List.set_cons_succ]
      refine HeadW.two (i := 4) (j := 12) (oi := ?oi8) (oj := ?oj8) ?hi8 ?hj8 (by kernel_rfl) ?ha8 ?hb8
      case hi8 => simp only [List.getElem?_toArray, List.getElem?_cons_succ, List.getElem?_cons_zero] <;> rfl
      case hj8 => simp only [List.getElem?_toArray, List.getElem?_cons_succ, List.getElem?_cons_zero] <;> rfl
      case ha8 =>
        intro K hK
        go_simp
        go_at_call 31
        refine (HXT.out _).mono ?_
        rintro e wn9 ⟨th, tl, HTW, rfl, hb⟩
        have HTW' := Lib.hid HTW
        clear HTW
        have P9 := Lib.hid (P3.out.later hb)
        have B9 := Lib.hid (bTr B3.out hb)
        clear hb hH P3 B3
        have hH : BoxA w.heap.size N D wn9 := ⟨P9.out.cell 0, P9.out.cell 1⟩
        try dsimp only
        refine hK.out _ _ hH ?_
        clear hK K
        try simp only [Act.put, List.setIfInBounds_toArray, List.set_cons_zero, List.set_cons_succ]
        refine HeadW.two (i := 7) (j := 12) (oi := ?oi11) (oj := ?oj11) ?hi11 ?hj11 (by kernel_rfl) ?ha11 ?hb11
        case hi11 => simp only [List.getElem?_toArray, List.getElem?_cons_succ, List.getElem?_cons_zero] <;> rfl
        case hj11 => simp only [List.getElem?_toArray, List.getElem?_cons_succ, List.getElem?_cons_zero] <;> rfl
        case ha11 =>
          intro K hK
          go_simp
          go_at_call 32
          refine (HMD.out _).mono ?_
          rintro e wz ⟨rfl, hw⟩
          obtain rfl := hw
          try dsimp only
          refine hK.out _ _ hH ?_
          clear hK K
          try simp only [Act.put, List.setIfInBounds_toArray, List.set_cons_zero, List.set_cons_succ]
          refine HeadW.two (i := 8) (j := 12) (oi := ?oi13) (oj := ?oj13) ?hi13 ?hj13 (by kernel_rfl) ?ha13 ?hb13
          case hi13 => simp only [List.getElem?_toArray, List.getElem?_cons_succ, List.getElem?_cons_zero] <;> rfl
          case hj13 => simp only [List.getElem?_toArray, List.getElem?_cons_succ, List.getElem?_cons_zero] <;> rfl
          case ha13 =>
            intro K hK
            go_simp
            go_at_call 33
            refine (HDV.out _ _ HTW'.out _).mono ?_
            rintro e wn14 ⟨qh, ql, HQW, rfl, hb⟩
            have HQW' := Lib.hid HQW
            clear HQW
            have P14 := Lib.hid (P9.out.later hb)
            have B14 := Lib.hid (bTr B9.out hb)
            clear hb hH P9 B9
            have hH : BoxA w.heap.size N D wn14 := ⟨P14.out.cell 0, P14.out.cell 1⟩
            try dsimp only
            refine hK.out _ _ hH ?_
            clear hK K
            try simp only [Act.put, List.setIfInBounds_toArray, List.set_cons_zero, List.set_cons_succ]
            refine HeadW.take (i := 9) (oi := ?oi16) (v := ?v16) ?hi16 (by kernel_rfl) ?hQ16 (Or.inl ⟨?hg16, ?hy16⟩) hH ?rest16
            case hi16 => simp only [List.getElem?_toArray, List.getElem?_cons_succ, List.getElem?_cons_zero] <;> rfl
            case hQ16 => exact fun _ _ _ h => h
            case hg16 => rfl
            case hy16 => intro W hSw; obtain ⟨s0, s1⟩ := hSw; go_simp; try with_reducible rfl
            case rest16 =>
            try simp only [Act.put, List.setIfInBounds_toArray, List.set_cons_zero, List.set_cons_succ]
            refine HeadW.take (i := 10) (oi := ?oi17) (v := ?v17) ?hi17 (by kernel_rfl) ?hQ17 (Or.inl ⟨?hg17, ?hy17⟩) hH ?rest17
            case hi17 => simp only [List.getElem?_toArray, List.getElem?_cons_succ, List.getElem?_cons_zero] <;> rfl
            case hQ17 => exact fun _ _ _ h => h
            case hg17 => rfl
            case hy17 => intro W hSw; obtain ⟨s0, s1⟩ := hSw; go_simp; try with_reducible rfl
            case rest17 =>
            try simp only [Act.put, List.setIfInBounds_toArray, List.set_cons_zero, List.set_cons_succ]
            refine HeadW.take (i := 11) (oi := ?oi18) (v := ?v18) ?hi18 (by kernel_rfl) ?hQ18 (Or.inl ⟨?hg18, ?hy18⟩) hH ?rest18
            case hi18 => simp only [List.getElem?_toArray, List.getElem?_cons_succ, List.getElem?_cons_zero] <;> rfl
            case hQ18 => exact fun _ _ _ h => h
            case hg18 => rfl
            case hy18 => intro W hSw; obtain ⟨s0, s1⟩ := hSw; go_simp; try with_reducible rfl
            case rest18 =>
            try simp only [Act.put, List.setIfInBounds_toArray, List.set_cons_zero, List.set_cons_succ]
            refine HeadW.one (i := 12) (o := ?oi20) ?hi20 (by kernel_rfl) ?st20
            case hi20 => simp only [List.getElem?_toArray, List.getElem?_cons_succ, List.getElem?_cons_zero] <;> rfl
            case st20 =>
            intro K hK
            go_simp
            have G19 := Lib.hid (Blk.new wn14 50 #[.int .u64 0, .int .u64 0])
            have P19 := Lib.hid (P14.out.alloc (.cells #[.int .u64 0, .int .u64 0] 50))
            have B19 := Lib.hid (bAl B14.out (.cells #[.int .u64 0, .int .u64 0] 50))
            have hgt : w.heap.size < wn14.heap.size := P14.out.lt
            generalize wn14.alloc (.cells #[.int .u64 0, .int .u64 0] 50) = wn19 at G19 P19 B19 ⊢
            generalize wn14.heap.size = gg at G19 hgt ⊢
            clear hH P14 B14
            have hH : BoxA w.heap.size N D wn19 := ⟨P19.out.cell 0, P19.out.cell 1⟩
            try dsimp only
            refine hK.out _ _ hH ?_
            clear hK K
            try simp only [Act.put, List.setIfInBounds_toArray, List.set_cons_zero, List.set_cons_succ]
            refine HeadW.one (i := 13) (o := ?oi21) ?hi21 (by kernel_rfl) ?st21
            case hi21 => simp only [List.getElem?_toArray, List.getElem?_cons_succ, List.getElem?_cons_zero] <;> rfl
            case st21 =>
            intro K hK
            obtain ⟨⟨d0, d1⟩, ⟨f0, f1⟩, hltg⟩ := G19.out.two
            have PF := Lib.hid ((P19.out.off (b := gg) (o := 0) (by omega) (.int .u64 qh)).off (b := gg) (o := 1) (by omega) (.int .u64 ql))
            have BF := Lib.hid (bSt (bSt B19.out (p := ⟨gg, 0, none⟩) (by show w.heap.size ≤ gg; omega) (.int .u64 qh)) (p := ⟨gg, 1, none⟩) (by show w.heap.size ≤ gg; omega) (.int .u64 ql))
            have GF := Lib.hid ((G19.out.set0 (.int .u64 qh)).set1 (.int .u64 ql))
            have HREL := Lib.hid (DD.out gg _ hgt BF.out PF.out qh ql HQW'.out GF.out)
            clear hH
            have hH : BoxA w.heap.size N D (((wn19).setCell ⟨gg, 0, none⟩ (.int .u64 qh)).setCell ⟨gg, 1, none⟩ (.int .u64 ql)) := ⟨PF.out.cell 0, PF.out.cell 1⟩
            go_simp
            try dsimp only
            refine hK.out _ _ hH ?_
            clear hK K
            try simp only [Act.put, List.setIfInBounds_toArray, List.set_cons_zero, List.set_cons_succ]
            refine HeadW.done (by kernel_rfl) ?_
            go_wp2_with fail
            go_meet
            exact ⟨gg, rfl, rfl, HREL.out⟩
          case hb13 =>
            intro K hK
            go_simp
            have G15 := Lib.hid (Blk.new wn9 50 #[.int .u64 0, .int .u64 0])
            have P15 := Lib.hid (P9.out.alloc (.cells #[.int .u64 0, .int .u64 0] 50))
            have B15 := Lib.hid (bAl B9.out (.cells #[.int .u64 0, .int .u64 0] 50))
            have hgt : w.heap.size < wn9.heap.size := P9.out.lt
            generalize wn9.alloc (.cells #[.int .u64 0, .int .u64 0] 50) = wn15 at G15 P15 B15 ⊢
            generalize wn9.heap.size = gg at G15 hgt ⊢
            clear hH P9 B9
            have hH : BoxA w.heap.size N D wn15 := ⟨P15.out.cell 0, P15.out.cell 1⟩
            try dsimp only
            refine hK.out _ _ hH ?_
            clear hK K
            try simp only [Act.put, List.setIfInBounds_toArray, List.set_cons_zero, List.set_cons_succ]
            refine HeadW.one (i := 8) (o := ?oi23) ?hi23 (by kernel_rfl) ?st23
            case hi23 => simp only [List.getElem?_toArray, List.getElem?_cons_succ, List.getElem?_cons_zero] <;> rfl
            case st23 =>
            intro K hK
            go_simp
            go_at_call 33
            refine (HDV.out _ _ HTW'.out _).mono ?_
            rintro e wn22 ⟨qh, ql, HQW, rfl, hb⟩
            have HQW' := Lib.hid HQW
            clear HQW
            have P22 := Lib.hid (P15.out.later hb)
            have B22 := Lib.hid (bTr B15.out hb)
            have G22 := Lib.hid (G15.out.later hb)
            clear hb hH P15 B15 G15
            have hH : BoxA w.heap.size N D wn22 := ⟨P22.out.cell 0, P22.out.cell 1⟩
            try dsimp only
            refine hK.out _ _ hH ?_
            clear hK K
            try simp only [Act.put, List.setIfInBounds_toArray, List.set_cons_zero, List.set_cons_succ]
            refine HeadW.take (i := 9) (oi := ?oi24) (v := ?v24) ?hi24 (by kernel_rfl) ?hQ24 (Or.inl ⟨?hg24, ?hy24⟩) hH ?rest24
            case hi24 => simp only [List.getElem?_toArray, List.getElem?_cons_succ, List.getElem?_cons_zero] <;> rfl
            case hQ24 => exact fun _ _ _ h => h
            case hg24 => rfl
            case hy24 => intro W hSw; obtain ⟨s0, s1⟩ := hSw; go_simp; try with_reducible rfl
            case rest24 =>
            try simp only [Act.put, List.setIfInBounds_toArray, List.set_cons_zero, List.set_cons_succ]
            refine HeadW.take (i := 10) (oi := ?oi25) (v := ?v25) ?hi25 (by kernel_rfl) ?hQ25 (Or.inl ⟨?hg25, ?hy25⟩) hH ?rest25
            case hi25 => simp only [List.getElem?_toArray, List.getElem?_cons_succ, List.getElem?_cons_zero] <;> rfl
            case hQ25 => exact fun _ _ _ h => h
            case hg25 => rfl
            case hy25 => intro W hSw; obtain ⟨s0, s1⟩ := hSw; go_simp; try with_reducible rfl
            case rest25 =>
            try simp only [Act.put, List.setIfInBounds_toArray, List.set_cons_zero, List.set_cons_succ]
            refine HeadW.take (i := 11) (oi := ?oi26) (v := ?v26) ?hi26 (by kernel_rfl) ?hQ26 (Or.inl ⟨?hg26, ?hy26⟩) hH ?rest26
            case hi26 => simp only [List.getElem?_toArray, List.getElem?_cons_succ, List.getElem?_cons_zero] <;> rfl
            case hQ26 => exact fun _ _ _ h => h
            case hg26 => rfl
            case hy26 => intro W hSw; obtain ⟨s0, s1⟩ := hSw; go_simp; try with_reducible rfl
            case rest26 =>
            try simp only [Act.put, List.setIfInBounds_toArray, List.set_cons_zero, List.set_cons_succ]
            refine HeadW.one (i := 13) (o := ?oi27) ?hi27 (by kernel_rfl) ?st27
            case hi27 => simp only [List.getElem?_toArray, List.getElem?_cons_succ, List.getElem?_cons_zero] <;> rfl
            case st27 =>
            intro K hK
            obtain ⟨⟨d0, d1⟩, ⟨f0, f1⟩, hltg⟩ := G22.out.two
            have PF := Lib.hid ((P22.out.off (b := gg) (o := 0) (by omega) (.int .u64 qh)).off (b := gg) (o := 1) (by omega) (.int .u64 ql))
            have BF := Lib.hid (bSt (bSt B22.out (p := ⟨gg, 0, none⟩) (by show w.heap.size ≤ gg; omega) (.int .u64 qh)) (p := ⟨gg, 1, none⟩) (by show w.heap.size ≤ gg; omega) (.int .u64 ql))
            have GF := Lib.hid ((G22.out.set0 (.int .u64 qh)).set1 (.int .u64 ql))
            have HREL := Lib.hid (DD.out gg _ hgt BF.out PF.out qh ql HQW'.out GF.out)
            clear hH
            have hH : BoxA w.heap.size N D (((wn22).setCell ⟨gg, 0, none⟩ (.int .u64 qh)).setCell ⟨gg, 1, none⟩ (.int .u64 ql)) := ⟨PF.out.cell 0, PF.out.cell 1⟩
            go_simp
            try dsimp only
            refine hK.out _ _ hH ?_
            clear hK K
            try simp only [Act.put, List.setIfInBounds_toArray, List.set_cons_zero, List.set_cons_succ]
            refine HeadW.done (by kernel_rfl) ?_
            go_wp2_with fail
            go_meet
            exact ⟨gg, rfl, rfl, HREL.out⟩
        case hb11 =>
          intro K hK
          go_simp
          have G12 := Lib.hid (Blk.new wn9 50 #[.int .u64 0, .int .u64 0])
          have P12 := Lib.hid (P9.out.alloc (.cells #[.int .u64 0, .int .u64 0] 50))
          have B12 := Lib.hid (bAl B9.out (.cells #[.int .u64 0, .int .u64 0] 50))
          have hgt : w.heap.size < wn9.heap.size := P9.out.lt
          generalize wn9.alloc (.cells #[.int .u64 0, .int .u64 0] 50) = wn12 at G12 P12 B12 ⊢
          generalize wn9.heap.size = gg at G12 hgt ⊢
          clear hH P9 B9
          have hH : BoxA w.heap.size N D wn12 := ⟨P12.out.cell 0, P12.out.cell 1⟩
          try dsimp only
          refine hK.out _ _ hH ?_
          clear hK K
          try simp only [Act.put, List.setIfInBounds_toArray, List.set_cons_zero, List.set_cons_succ]
          refine HeadW.one (i := 7) (o := ?oi28) ?hi28 (by kernel_rfl) ?st28
          case hi28 => simp only [List.getElem?_toArray, List.getElem?_cons_succ, List.getElem?_cons_zero] <;> rfl
          case st28 =>
          intro K hK
          go_simp
          go_at_call 32
          refine (HMD.out _).mono ?_
          rintro e wz ⟨rfl, hw⟩
          obtain rfl := hw
          try dsimp only
          refine hK.out _ _ hH ?_
          clear hK K
          try simp only [Act.put, List.setIfInBounds_toArray, List.set_cons_zero, List.set_cons_succ]
          refine HeadW.one (i := 8) (o := ?oi30) ?hi30 (by kernel_rfl) ?st30
          case hi30 => simp only [List.getElem?_toArray, List.getElem?_cons_succ, List.getElem?_cons_zero] <;> rfl
          case st30 =>
          intro K hK
          go_simp
          go_at_call 33
          refine (HDV.out _ _ HTW'.out _).mono ?_
          rintro e wn29 ⟨qh, ql, HQW, rfl, hb⟩
          have HQW' := Lib.hid HQW
          clear HQW
          have P29 := Lib.hid (P12.out.later hb)
          have B29 := Lib.hid (bTr B12.out hb)
          have G29 := Lib.hid (G12.out.later hb)
          clear hb hH P12 B12 G12
          have hH : BoxA w.heap.size N D wn29 := ⟨P29.out.cell 0, P29.out.cell 1⟩
          try dsimp only
          refine hK.out _ _ hH ?_
          clear hK K
          try simp only [Act.put, List.setIfInBounds_toArray, List.set_cons_zero, List.set_cons_succ]
          refine HeadW.take (i := 9) (oi := ?oi31) (v := ?v31) ?hi31 (by kernel_rfl) ?hQ31 (Or.inl ⟨?hg31, ?hy31⟩) hH ?rest31
          case hi31 => simp only [List.getElem?_toArray, List.getElem?_cons_succ, List.getElem?_cons_zero] <;> rfl
          case hQ31 => exact fun _ _ _ h => h
          case hg31 => rfl
          case hy31 => intro W hSw; obtain ⟨s0, s1⟩ := hSw; go_simp; try with_reducible rfl
          case rest31 =>
          try simp only [Act.put, List.setIfInBounds_toArray, List.set_cons_zero, List.set_cons_succ]
          refine HeadW.take (i := 10) (oi := ?oi32) (v := ?v32) ?hi32 (by kernel_rfl) ?hQ32 (Or.inl ⟨?hg32, ?hy32⟩) hH ?rest32
          case hi32 => simp only [List.getElem?_toArray, List.getElem?_cons_succ, List.getElem?_cons_zero] <;> rfl
          case hQ32 => exact fun _ _ _ h => h
          case hg32 => rfl
          case hy32 => intro W hSw; obtain ⟨s0, s1⟩ := hSw; go_simp; try with_reducible rfl
          case rest32 =>
          try simp only [Act.put, List.setIfInBounds_toArray, List.set_cons_zero, List.set_cons_succ]
          refine HeadW.take (i := 11) (oi := ?oi33) (v := ?v33) ?hi33 (by kernel_rfl) ?hQ33 (Or.inl ⟨?hg33, ?hy33⟩) hH ?rest33
          case hi33 => simp only [List.getElem?_toArray, List.getElem?_cons_succ, List.getElem?_cons_zero] <;> rfl
          case hQ33 => exact fun _ _ _ h => h
          case hg33 => rfl
          case hy33 => intro W hSw; obtain ⟨s0, s1⟩ := hSw; go_simp; try with_reducible rfl
          case rest33 =>
          try simp only [Act.put, List.setIfInBounds_toArray, List.set_cons_zero, List.set_cons_succ]
          refine HeadW.one (i := 13) (o := ?oi34) ?hi34 (by kernel_rfl) ?st34
          case hi34 => simp only [List.getElem?_toArray, List.getElem?_cons_succ, List.getElem?_cons_zero] <;> rfl
          case st34 =>
          intro K hK
          obtain ⟨⟨d0, d1⟩, ⟨f0, f1⟩, hltg⟩ := G29.out.two
          have PF := Lib.hid ((P29.out.off (b := gg) (o := 0) (by omega) (.int .u64 qh)).off (b := gg) (o := 1) (by omega) (.int .u64 ql))
          have BF := Lib.hid (bSt (bSt B29.out (p := ⟨gg, 0, none⟩) (by show w.heap.size ≤ gg; omega) (.int .u64 qh)) (p := ⟨gg, 1, none⟩) (by show w.heap.size ≤ gg; omega) (.int .u64 ql))
          have GF := Lib.hid ((G29.out.set0 (.int .u64 qh)).set1 (.int .u64 ql))
          have HREL := Lib.hid (DD.out gg _ hgt BF.out PF.out qh ql HQW'.out GF.out)
          clear hH
          have hH : BoxA w.heap.size N D (((wn29).setCell ⟨gg, 0, none⟩ (.int .u64 qh)).setCell ⟨gg, 1, none⟩ (.int .u64 ql)) := ⟨PF.out.cell 0, PF.out.cell 1⟩
          go_simp
          try dsimp only
          refine hK.out _ _ hH ?_
          clear hK K
          try simp only [Act.put, List.setIfInBounds_toArray, List.set_cons_zero, List.set_cons_succ]
          refine HeadW.done (by kernel_rfl) ?_
          go_wp2_with fail
          go_meet
          exact ⟨gg, rfl, rfl, HREL.out⟩
      case hb8 =>
        intro K hK
        go_simp
        have G10 := Lib.hid (Blk.new w3 50 #[.int .u64 0, .int .u64 0])
        have P10 := Lib.hid (P3.out.alloc (.cells #[.int .u64 0, .int .u64 0] 50))
        have B10 := Lib.hid (bAl B3.out (.cells #[.int .u64 0, .int .u64 0] 50))
        have hgt : w.heap.size < w3.heap.size := P3.out.lt
        generalize w3.alloc (.cells #[.int .u64 0, .int .u64 0] 50) = wn10 at G10 P10 B10 ⊢
        generalize w3.heap.size = gg at G10 hgt ⊢
        clear hH P3 B3
        have hH : BoxA w.heap.size N D wn10 := ⟨P10.out.cell 0, P10.out.cell 1⟩
        try dsimp only
        refine hK.out _ _ hH ?_
        clear hK K
        try simp only [Act.put, List.setIfInBounds_toArray, List.set_cons_zero, List.set_cons_succ]
        refine HeadW.one (i := 4) (o := ?oi36) ?hi36 (by kernel_rfl) ?st36
        case hi36 => simp only [List.getElem?_toArray, List.getElem?_cons_succ, List.getElem?_cons_zero] <;> rfl
        case st36 =>
        intro K hK
        go_simp
        go_at_call 31
        refine (HXT.out _).mono ?_
        rintro e wn35 ⟨th, tl, HTW, rfl, hb⟩
        have HTW' := Lib.hid HTW
        clear HTW
        have P35 := Lib.hid (P10.out.later hb)
        have B35 := Lib.hid (bTr B10.out hb)
        have G35 := Lib.hid (G10.out.later hb)
        clear hb hH P10 B10 G10
        have hH : BoxA w.heap.size N D wn35 := ⟨P35.out.cell 0, P35.out.cell 1⟩
        try dsimp only
        refine hK.out _ _ hH ?_
        clear hK K
        try simp only [Act.put, List.setIfInBounds_toArray, List.set_cons_zero, List.set_cons_succ]
        refine HeadW.one (i := 7) (o := ?oi37) ?hi37 (by kernel_rfl) ?st37
        case hi37 => simp only [List.getElem?_toArray, List.getElem?_cons_succ, List.getElem?_cons_zero] <;> rfl
        case st37 =>
        intro K hK
        go_simp
        go_at_call 32
        refine (HMD.out _).mono ?_
        rintro e wz ⟨rfl, hw⟩
        obtain rfl := hw
        try dsimp only
        refine hK.out _ _ hH ?_
        clear hK K
        try simp only [Act.put, List.setIfInBounds_toArray, List.set_cons_zero, List.set_cons_succ]
        refine HeadW.one (i := 8) (o := ?oi39) ?hi39 (by kernel_rfl) ?st39
        case hi39 => simp only [List.getElem?_toArray, List.getElem?_cons_succ, List.getElem?_cons_zero] <;> rfl
        case st39 =>
        intro K hK
        go_simp
        go_at_call 33
        refine (HDV.out _ _ HTW'.out _).mono ?_
        rintro e wn38 ⟨qh, ql, HQW, rfl, hb⟩
        have HQW' := Lib.hid HQW
        clear HQW
        have P38 := Lib.hid (P35.out.later hb)
        have B38 := Lib.hid (bTr B35.out hb)
        have G38 := Lib.hid (G35.out.later hb)
        clear hb hH P35 B35 G35
        have hH : BoxA w.heap.size N D wn38 := ⟨P38.out.cell 0, P38.out.cell 1⟩
        try dsimp only
        refine hK.out _ _ hH ?_
        clear hK K
        try simp only [Act.put, List.setIfInBounds_toArray, List.set_cons_zero, List.set_cons_succ]
        refine HeadW.take (i := 9) (oi := ?oi40) (v := ?v40) ?hi40 (by kernel_rfl) ?hQ40 (Or.inl ⟨?hg40, ?hy40⟩) hH ?rest40
        case hi40 => simp only [List.getElem?_toArray, List.getElem?_cons_succ, List.getElem?_cons_zero] <;> rfl
        case hQ40 => exact fun _ _ _ h => h
        case hg40 => rfl
        case hy40 => intro W hSw; obtain ⟨s0, s1⟩ := hSw; go_simp; try with_reducible rfl
        case rest40 =>
        try simp only [Act.put, List.setIfInBounds_toArray, List.set_cons_zero, List.set_cons_succ]
        refine HeadW.take (i := 10) (oi := ?oi41) (v := ?v41) ?hi41 (by kernel_rfl) ?hQ41 (Or.inl ⟨?hg41, ?hy41⟩) hH ?rest41
        case hi41 => simp only [List.getElem?_toArray, List.getElem?_cons_succ, List.getElem?_cons_zero] <;> rfl
        case hQ41 => exact fun _ _ _ h => h
        case hg41 => rfl
        case hy41 => intro W hSw; obtain ⟨s0, s1⟩ := hSw; go_simp; try with_reducible rfl
        case rest41 =>
        try simp only [Act.put, List.setIfInBounds_toArray, List.set_cons_zero, List.set_cons_succ]
        refine HeadW.take (i := 11) (oi := ?oi42) (v := ?v42) ?hi42 (by kernel_rfl) ?hQ42 (Or.inl ⟨?hg42, ?hy42⟩) hH ?rest42
        case hi42 => simp only [List.getElem?_toArray, List.getElem?_cons_succ, List.getElem?_cons_zero] <;> rfl
        case hQ42 => exact fun _ _ _ h => h
        case hg42 => rfl
        case hy42 => intro W hSw; obtain ⟨s0, s1⟩ := hSw; go_simp; try with_reducible rfl
        case rest42 =>
        try simp only [Act.put, List.setIfInBounds_toArray, List.set_cons_zero, List.set_cons_succ]
        refine HeadW.one (i := 13) (o := ?oi43) ?hi43 (by kernel_rfl) ?st43
        case hi43 => simp only [List.getElem?_toArray, List.getElem?_cons_succ, List.getElem?_cons_zero] <;> rfl
        case st43 =>
        intro K hK
        obtain ⟨⟨d0, d1⟩, ⟨f0, f1⟩, hltg⟩ := G38.out.two
        have PF := Lib.hid ((P38.out.off (b := gg) (o := 0) (by omega) (.int .u64 qh)).off (b := gg) (o := 1) (by omega) (.int .u64 ql))
        have BF := Lib.hid (bSt (bSt B38.out (p := ⟨gg, 0, none⟩) (by show w.heap.size ≤ gg; omega) (.int .u64 qh)) (p := ⟨gg, 1, none⟩) (by show w.heap.size ≤ gg; omega) (.int .u64 ql))
        have GF := Lib.hid ((G38.out.set0 (.int .u64 qh)).set1 (.int .u64 ql))
        have HREL := Lib.hid (DD.out gg _ hgt BF.out PF.out qh ql HQW'.out GF.out)
        clear hH
        have hH : BoxA w.heap.size N D (((wn38).setCell ⟨gg, 0, none⟩ (.int .u64 qh)).setCell ⟨gg, 1, none⟩ (.int .u64 ql)) := ⟨PF.out.cell 0, PF.out.cell 1⟩
        go_simp
        try dsimp only
        refine hK.out _ _ hH ?_
        clear hK K
        try simp only [Act.put, List.setIfInBounds_toArray, List.set_cons_zero, List.set_cons_succ]
        refine HeadW.done (by kernel_rfl) ?_
        go_wp2_with fail
        go_meet
        exact ⟨gg, rfl, rfl, HREL.out⟩
    case hb6 =>
      intro K hK
      go_simp
      have G7 := Lib.hid (Blk.new w3 50 #[.int .u64 0, .int .u64 0])
      have P7 := Lib.hid (P3.out.alloc (.cells #[.int .u64 0, .int .u64 0] 50))
      have B7 := Lib.hid (bAl B3.out (.cells #[.int .u64 0, .int .u64 0] 50))
      have hgt : w.heap.size < w3.heap.size := P3.out.lt
      generalize w3.alloc (.cells #[.int .u64 0, .int .u64 0] 50) = wn7 at G7 P7 B7 ⊢
      generalize w3.heap.size = gg at G7 hgt ⊢
      clear hH P3 B3
      have hH : BoxA w.heap.size N D wn7 := ⟨P7.out.cell 0, P7.out.cell 1⟩
      try dsimp only
      refine hK.out _ _ hH ?_
      clear hK K
      try simp only [Act.put, List.setIfInBounds_toArray, List.set_cons_zero, List.set_cons_succ]
      refine HeadW.one (i := 2) (o := ?oi44) ?hi44 (by kernel_rfl) ?st44
      case hi44 => simp only [List.getElem?_toArray, List.getElem?_cons_succ, List.getElem?_cons_zero] <;> rfl
      case st44 =>
      intro K hK
      go_simp
      go_at_call 32
      refine (HMN.out _).mono ?_
      rintro e wz ⟨rfl, hw⟩
      obtain rfl := hw
      try dsimp only
      refine hK.out _ _ hH ?_
      clear hK K
      try simp only [Act.put, List.setIfInBounds_toArray, List.set_cons_zero, List.set_cons_succ]
      refine HeadW.one (i := 4) (o := ?oi46) ?hi46 (by kernel_rfl) ?st46
      case hi46 => simp only [List.getElem?_toArray, List.getElem?_cons_succ, List.getElem?_cons_zero] <;> rfl
      case st46 =>
      intro K hK
      go_simp
      go_at_call 31
      refine (HXT.out _).mono ?_
      rintro e wn45 ⟨th, tl, HTW, rfl, hb⟩
      have HTW' := Lib.hid HTW
      clear HTW
      have P45 := Lib.hid (P7.out.later hb)
      have B45 := Lib.hid (bTr B7.out hb)
      have G45 := Lib.hid (G7.out.later hb)
      clear hb hH P7 B7 G7
      have hH : BoxA w.heap.size N D wn45 := ⟨P45.out.cell 0, P45.out.cell 1⟩
      try dsimp only
      refine hK.out _ _ hH ?_
      clear hK K
      try simp only [Act.put, List.setIfInBounds_toArray, List.set_cons_zero, List.set_cons_succ]
      refine HeadW.one (i := 7) (o := ?oi47) ?hi47 (by kernel_rfl) ?st47
      case hi47 => simp only [List.getElem?_toArray, List.getElem?_cons_succ, List.getElem?_cons_zero] <;> rfl
      case st47 =>
      intro K hK
      go_simp
      go_at_call 32
      refine (HMD.out _).mono ?_
      rintro e wz ⟨rfl, hw⟩
      obtain rfl := hw
      try dsimp only
      refine hK.out _ _ hH ?_
      clear hK K
      try simp only [Act.put, List.setIfInBounds_toArray, List.set_cons_zero, List.set_cons_succ]
      refine HeadW.one (i := 8) (o := ?oi49) ?hi49 (by kernel_rfl) ?st49
      case hi49 => simp only [List.getElem?_toArray, List.getElem?_cons_succ, List.getElem?_cons_zero] <;> rfl
      case st49 =>
      intro K hK
      go_simp
      go_at_call 33
      refine (HDV.out _ _ HTW'.out _).mono ?_
      rintro e wn48 ⟨qh, ql, HQW, rfl, hb⟩
      have HQW' := Lib.hid HQW
      clear HQW
      have P48 := Lib.hid (P45.out.later hb)
      have B48 := Lib.hid (bTr B45.out hb)
      have G48 := Lib.hid (G45.out.later hb)
      clear hb hH P45 B45 G45
      have hH : BoxA w.heap.size N D wn48 := ⟨P48.out.cell 0, P48.out.cell 1⟩
      try dsimp only
      refine hK.out _ _ hH ?_
      clear hK K
      try simp only [Act.put, List.setIfInBounds_toArray, List.set_cons_zero, List.set_cons_succ]
      refine HeadW.take (i := 9) (oi := ?oi50) (v := ?v50) ?hi50 (by kernel_rfl) ?hQ50 (Or.inl ⟨?hg50, ?hy50⟩) hH ?rest50
      case hi50 => simp only [List.getElem?_toArray, List.getElem?_cons_succ, List.getElem?_cons_zero] <;> rfl
      case hQ50 => exact fun _ _ _ h => h
      case hg50 => rfl
      case hy50 => intro W hSw; obtain ⟨s0, s1⟩ := hSw; go_simp; try with_reducible rfl
      case rest50 =>
      try simp only [Act.put, List.setIfInBounds_toArray, List.set_cons_zero, List.set_cons_succ]
      refine HeadW.take (i := 10) (oi := ?oi51) (v := ?v51) ?hi51 (by kernel_rfl) ?hQ51 (Or.inl ⟨?hg51, ?hy51⟩) hH ?rest51
      case hi51 => simp only [List.getElem?_toArray, List.getElem?_cons_succ, List.getElem?_cons_zero] <;> rfl
      case hQ51 => exact fun _ _ _ h => h
      case hg51 => rfl
      case hy51 => intro W hSw; obtain ⟨s0, s1⟩ := hSw; go_simp; try with_reducible rfl
      case rest51 =>
      try simp only [Act.put, List.setIfInBounds_toArray, List.set_cons_zero, List.set_cons_succ]
      refine HeadW.take (i := 11) (oi := ?oi52) (v := ?v52) ?hi52 (by kernel_rfl) ?hQ52 (Or.inl ⟨?hg52, ?hy52⟩) hH ?rest52
      case hi52 => simp only [List.getElem?_toArray, List.getElem?_cons_succ, List.getElem?_cons_zero] <;> rfl
      case hQ52 => exact fun _ _ _ h => h
      case hg52 => rfl
      case hy52 => intro W hSw; obtain ⟨s0, s1⟩ := hSw; go_simp; try with_reducible rfl
      case rest52 =>
      try simp only [Act.put, List.setIfInBounds_toArray, List.set_cons_zero, List.set_cons_succ]
      refine HeadW.one (i := 13) (o := ?oi53) ?hi53 (by kernel_rfl) ?st53
      case hi53 => simp only [List.getElem?_toArray, List.getElem?_cons_succ, List.getElem?_cons_zero] <;> rfl
      case st53 =>
      intro K hK
      obtain ⟨⟨d0, d1⟩, ⟨f0, f1⟩, hltg⟩ := G48.out.two
      have PF := Lib.hid ((P48.out.off (b := gg) (o := 0) (by omega) (.int .u64 qh)).off (b := gg) (o := 1) (by omega) (.int .u64 ql))
      have BF := Lib.hid (bSt (bSt B48.out (p := ⟨gg, 0, none⟩) (by show w.heap.size ≤ gg; omega) (.int .u64 qh)) (p := ⟨gg, 1, none⟩) (by show w.heap.size ≤ gg; omega) (.int .u64 ql))
      have GF := Lib.hid ((G48.out.set0 (.int .u64 qh)).set1 (.int .u64 ql))
      have HREL := Lib.hid (DD.out gg _ hgt BF.out PF.out qh ql HQW'.out GF.out)
      clear hH
      have hH : BoxA w.heap.size N D (((wn48).setCell ⟨gg, 0, none⟩ (.int .u64 qh)).setCell ⟨gg, 1, none⟩ (.int .u64 ql)) := ⟨PF.out.cell 0, PF.out.cell 1⟩
      go_simp
      try dsimp only
      refine hK.out _ _ hH ?_
      clear hK K
      try simp only [Act.put, List.setIfInBounds_toArray, List.set_cons_zero, List.set_cons_succ]
      refine HeadW.done (by kernel_rfl) ?_
      go_wp2_with fail
      go_meet
      exact ⟨gg, rfl, rfl, HREL.out⟩
  case rest =>
    obtain ⟨g6, rfl, rfl, hV⟩ := hcut
    clear HXT HDV HMN HMD DD c0 c1 hlt P2
    have HT3 := Lib.hid (HT.later hV.be)
    obtain ⟨h, l, HW, hG⟩ := hV.n
    have PA := Lib.hid hV.a
    have PG := Lib.hid hG
    have BV := Lib.hid hV.be
    have hgt := hV.gt
    clear hV hG B2
    have HT0 := Lib.hid HT
    clear HT
    obtain ⟨⟨a0, a1⟩, -, -⟩ := PA.out.two
    obtain ⟨⟨c0, c1⟩, ⟨f0, f1⟩, hlt⟩ := PG.out.two
    have hqb : X * T / Y ≤ Q := by rw [HDQ.out]; omega
    generalize X * T / Y = q at *
    generalize X * T % Y = r at *
    obtain ⟨ob, hob⟩ : ∃ ob, decide (q % 2 = 1) = ob := ⟨_, rfl⟩
    have hl0 := HW.l0
    have hl2 : (l.tmod 2 == 1) = ob := by
      rw [← hob, Int.tmod_eq_emod_of_nonneg hl0]
      have := HW.e
      by_cases h2 : q % 2 = 1
      · rw [decide_eq_true h2, beq_iff_eq]; omega
      · rw [decide_eq_false h2, beq_eq_false_iff_ne]; omega
    have hl3 : (l % 2 == 1) = ob := by rw [← hl2, Int.tmod_eq_emod_of_nonneg hl0]
    have HE := Lib.hid (fun w => even_any ob (r : Int) D w (by omega) (by have := HDN.out; omega) (by have := HDN.out; omega))
    have hup := rup_rule Y q r
    rw [hob, HDN.out] at hup
    simp only [hup] at HE
    clear hup hob
    have hr64 : IntKind.i64.wrap (r : Int) = (r : Int) := wrapSm (by omega) (by omega)
    have h20 : ((2 : Int) == 0) = false := rfl
    obtain ⟨up, hup⟩ : ∃ b, decide (rup Y q r = 1) = b := ⟨_, rfl⟩
    simp only [hup] at HE
    have HUP := Lib.hid (show Q = q + (if up = true then 1 else 0) by
      rw [HDQ.out, ← hup]
      unfold rup
      by_cases h1 : Y < 2 * r ∨ 2 * r = Y ∧ q % 2 = 1
      · rw [if_pos h1]; simp
      · rw [if_neg h1]; simp)
    clear hup
    go_wp2_with fail
    refine (HE.out _).mono ?_
    rintro e wz ⟨rfl, hw⟩
    obtain rfl := hw
    go_upto_if 44 with (fail)
    go_cut [] (fun wx => DV w N D Q g6 wx)
    case first =>
      cases up
      · go_wp2_with fail
        go_meet
        exact ⟨PA.out, ⟨h, l, by rw [HUP.out]; simpa using HW, PG.out⟩, BV.out, hgt⟩
      · have HPL := Lib.hid (plus_w HW (show W2 0 1 1 from W2.mkLow (x := 1) (by omega)) (by omega) wc)
        go_wp2_with fail
        refine HPL.out.mono ?_
        rintro e wd ⟨h2, l2, H2, rfl, hb⟩
        have PG2 := Lib.hid (PG.out.later hb)
        have PA2 := Lib.hid (((PA.out.later hb).off (b := g6) (o := 0) (by omega) (.int .u64 h2)).off (b := g6) (o := 1) (by omega) (.int .u64 l2))
        have PG3 := Lib.hid ((PG2.out.set0 (.int .u64 h2)).set1 (.int .u64 l2))
        have BV2 := Lib.hid (bSt (bSt (bTr BV.out hb) (p := ⟨g6, 0, none⟩) (by show w.heap.size ≤ g6; omega) (.int .u64 h2)) (p := ⟨g6, 1, none⟩) (by show w.heap.size ≤ g6; omega) (.int .u64 l2))
        clear hb c0 c1 f0 f1 hlt a0 a1
        obtain ⟨⟨c0, c1⟩, ⟨f0, f1⟩, hlt⟩ := PG2.out.two
        go_wp2_with fail
        go_meet
        exact ⟨PA2.out, ⟨h2, l2, by rw [HUP.out]; exact H2, PG3.out⟩, BV2.out, hgt⟩
    case rest =>
      clear PA PG HW HUP HE HDQ hqb hl0 hl2 hl3 hr64 a0 a1 c0 c1 f0 f1 hlt
      obtain ⟨h3, l3, HW, hG⟩ := hcut.n
      have PA := Lib.hid hcut.a
      have PG := Lib.hid hG
      have BC := Lib.hid hcut.be
      clear hG hcut BV
      obtain ⟨⟨c0, c1⟩, ⟨f0, f1⟩, hlt⟩ := PG.out.two
      have HD2 := Lib.hid (fun w => divided_w HW (y := T) (by omega) (by omega) w)
      generalize ((Q % T : Nat) : Int) = pt at HD2 HPD
      go_wp2_with fail
      refine (HD2.out _).mono ?_
      rintro e w5 ⟨wh, wl, HWW, rfl, hb⟩
      obtain ⟨rfl, rfl⟩ := w2_low HWW HWB.out
      have PA5 := Lib.hid (PA.out.later hb)
      have PG5 := Lib.hid (PG.out.later hb)
      have BC5 := Lib.hid (bTr BC.out hb)
      clear hb PA PG BC HD2 HWW c0 c1 f0 f1 hlt
      have BC6 := Lib.hid (bAl BC5.out (.cells #[.int .u64 0, .int .u64 ((Q / T : Nat) : Int)] 50))
      have HFU := Lib.hid (fmtU_any (Q / T) HWB.out (w := w5.alloc (.cells #[.int .u64 0, .int .u64 ((Q / T : Nat) : Int)] 50)) (tab_later HT0.out BC6.out (Nat.le_refl _)))
      have hdl : (decDigits (Q / T)).length ≤ 20 := (decD_len 20 (Q / T) (by omega) (Nat.lt_trans HWB.out (by decide))).2
      generalize decDigits (Q / T) = dl at *
      generalize ((Q / T : Nat) : Int) = wl at *
      go_wp2_with fail
      refine HFU.out.mono ?_
      rintro e w7 ⟨rfl, hb⟩
      have PA7 := Lib.hid ((PA5.out.alloc _).later hb)
      have PG7 := Lib.hid ((PG5.out.alloc _).later hb)
      have BC7 := Lib.hid (bTr BC6.out hb)
      clear hb PA5 PG5 BC5 BC6 HFU
      by_cases hk1 : k = 0
      · have hkk : ¬ (0 : Int) < (k : Int) := by omega
        have HK := Lib.hid (show dl ++ (if 0 < k then 46 :: padL k (decDigits (Q % T)) else []) = dl by rw [if_neg (by omega), List.append_nil])
        clear hk1 HPD HRL
        have BC9 := Lib.hid BC7.out
        obtain ⟨⟨a0, a1⟩, -, -⟩ := PA7.out.two
        obtain ⟨⟨c0, c1⟩, ⟨f0, f1⟩, hlt⟩ := PG7.out.two
        have z1 : ¬ 9223372036854775807 < 1 + dl.length := by omega
        by_cases hn : N < 0
        rotate_left
        · skip
          have HLX := Lib.hid (show LL = dl by rw [HDL.out, if_neg (fun h => hn h.1), HK.out, List.nil_append])
          have HTX := Lib.hid (show (⟨dl.toArray⟩ : ByteArray) = ⟨LL.toArray⟩ by rw [HLX.out]; try rfl)
          go_wp2
          go_ret
          exact ⟨ret_str HTX.out, BC9.out⟩
        by_cases hz : Q = 0
        · skip
          have HLX := Lib.hid (show LL = dl by rw [HDL.out, if_neg (fun h => h.2 hz), HK.out, List.nil_append])
          have hneq : ∀ W, (binOp .neq 50 (.agg #[.int .u64 h3, .int .u64 l3]) (.agg #[.int .u64 0, .int .u64 0])).run Tryd.prog W = .ok (.bool false) W := fun W => by rw [neqV, zeroW HW, decide_eq_true hz]; rfl
          have HTX := Lib.hid (show (⟨dl.toArray⟩ : ByteArray) = ⟨LL.toArray⟩ by rw [HLX.out]; try rfl)
          clear hz
          go_wp2
          go_ret
          exact ⟨ret_str HTX.out, BC9.out⟩
        · skip
          have HLX := Lib.hid (show LL = [45] ++ (dl) by rw [HDL.out, if_pos ⟨hn, hz⟩, HK.out])
          have hneq : ∀ W, (binOp .neq 50 (.agg #[.int .u64 h3, .int .u64 l3]) (.agg #[.int .u64 0, .int .u64 0])).run Tryd.prog W = .ok (.bool true) W := fun W => by rw [neqV, zeroW HW, decide_eq_false hz]; rfl
          have HTX := Lib.hid (show (⟨#[45]⟩ : ByteArray) ++ ((⟨dl.toArray⟩ : ByteArray)) = ⟨LL.toArray⟩ by rw [show (⟨#[45]⟩ : ByteArray) = ⟨[45].toArray⟩ from rfl, text_app]; rw [HLX.out]; try rfl)
          clear hz
          go_wp2
          go_ret
          exact ⟨ret_str HTX.out, BC9.out⟩
      · have hkk : (0 : Int) < (k : Int) := by omega
        have HK := Lib.hid (show dl ++ (if 0 < k then 46 :: padL k (decDigits (Q % T)) else []) = dl ++ 46 :: padL k (decDigits (Q % T)) by rw [if_pos (by omega)])
        have hpl : (padL k (decDigits (Q % T))).length = k := padL_len (HRL.out (by omega)).2
        have HPA := Lib.hid (HPD.out (by omega) (w := w7) (tab_later HT0.out BC7.out (Nat.le_refl _)))
        generalize padL k (decDigits (Q % T)) = pl at *
        clear hk1 HPD HRL
        go_wp2_with fail
        refine HPA.out.mono ?_
        rintro e w8 ⟨rfl, hb⟩
        have PA8 := Lib.hid (PA7.out.later hb)
        have PG8 := Lib.hid (PG7.out.later hb)
        have BC9 := Lib.hid (bTr BC7.out hb)
        clear hb PA7 PG7 BC7 HPA
        obtain ⟨⟨a0, a1⟩, -, -⟩ := PA8.out.two
        obtain ⟨⟨c0, c1⟩, ⟨f0, f1⟩, hlt⟩ := PG8.out.two
        have z1 : ¬ 9223372036854775807 < 1 + pl.length := by omega
        have z2 : ¬ 9223372036854775807 < dl.length + (1 + pl.length) := by omega
        have z3 : ¬ 9223372036854775807 < 1 + (dl.length + (1 + pl.length)) := by omega
        by_cases hn : N < 0
        rotate_left
        · skip
          have HLX := Lib.hid (show LL = dl ++ (46 :: pl) by rw [HDL.out, if_neg (fun h => hn h.1), HK.out, List.nil_append])
          have HTX := Lib.hid (show (⟨dl.toArray⟩ : ByteArray) ++ (⟨#[46]⟩ ++ ⟨pl.toArray⟩) = ⟨LL.toArray⟩ by rw [show (⟨#[46]⟩ : ByteArray) = ⟨[46].toArray⟩ from rfl, text_app, text_app]; rw [HLX.out]; try rfl)
          go_wp2
          go_ret
          exact ⟨ret_str HTX.out, BC9.out⟩
        by_cases hz : Q = 0
        · skip
          have HLX := Lib.hid (show LL = dl ++ (46 :: pl) by rw [HDL.out, if_neg (fun h => h.2 hz), HK.out, List.nil_append])
          have hneq : ∀ W, (binOp .neq 50 (.agg #[.int .u64 h3, .int .u64 l3]) (.agg #[.int .u64 0, .int .u64 0])).run Tryd.prog W = .ok (.bool false) W := fun W => by rw [neqV, zeroW HW, decide_eq_true hz]; rfl
          have HTX := Lib.hid (show (⟨dl.toArray⟩ : ByteArray) ++ (⟨#[46]⟩ ++ ⟨pl.toArray⟩) = ⟨LL.toArray⟩ by rw [show (⟨#[46]⟩ : ByteArray) = ⟨[46].toArray⟩ from rfl, text_app, text_app]; rw [HLX.out]; try rfl)
          clear hz
          go_wp2
          go_ret
          exact ⟨ret_str HTX.out, BC9.out⟩
        · skip
          have HLX := Lib.hid (show LL = [45] ++ (dl ++ (46 :: pl)) by rw [HDL.out, if_pos ⟨hn, hz⟩, HK.out])
          have hneq : ∀ W, (binOp .neq 50 (.agg #[.int .u64 h3, .int .u64 l3]) (.agg #[.int .u64 0, .int .u64 0])).run Tryd.prog W = .ok (.bool true) W := fun W => by rw [neqV, zeroW HW, decide_eq_false hz]; rfl
          have HTX := Lib.hid (show (⟨#[45]⟩ : ByteArray) ++ ((⟨dl.toArray⟩ : ByteArray) ++ (⟨#[46]⟩ ++ ⟨pl.toArray⟩)) = ⟨LL.toArray⟩ by rw [show (⟨#[46]⟩ : ByteArray) = ⟨[46].toArray⟩ from rfl, show (⟨#[45]⟩ : ByteArray) = ⟨[45].toArray⟩ from rfl, text_app, text_app, text_app]; rw [HLX.out]; try rfl)
          clear hz
          go_wp2
          go_ret
          exact ⟨ret_str HTX.out, BC9.out⟩
end Go.Proofs.YtjdldkafghblmaaDoor
