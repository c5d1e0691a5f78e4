/-
  The reference's Decimal.
-/
import Derived.Test.YtjdldkafghblmaaDoorBkN
import Derived.Test.YtjdldkafghblmaaDoorBkQ
import Derived.Test.YtjdldkafghblmaaDoorIHead
import Derived.Deep.RegionHeld3
import Derived.Deep.DeepCutAuto
import Derived.Deep.CutBlock
namespace Go.Proofs.YtjdldkafghblmaaDoor
open Go.RowKit Go.Lib
set_option linter.unusedSimpArgs false
set_option linter.unusedVariables false

theorem w2_lowR {h l : Int} {x : Nat} (H : W2 h l x) (hx : x < 18446744073709551616) : h = 0 ∧ l = (x : Int) := by
  obtain ⟨a, b, c, d, e⟩ := H
  omega
theorem product_w (x y : Nat) (x1 : x < 18446744073709551616) (y1 : y < 18446744073709551616) (w : World) :
    Calls Tryd.prog 39 #[.int .u64 (x : Int), .int .u64 (y : Int)] w fun e w' => ∃ h l, W2 h l (x * y) ∧ e = .returned (.agg #[.int .u64 h, .int .u64 l]) ∧ Below w.heap.size w w' := by
  refine (r_product x y (by omega) (by omega) (by omega) (by omega) w).mono ?_
  rintro e w' ⟨rfl, hb⟩
  exact ⟨_, _, W2.hl (Rep.mul_lt_sq x y x1 y1) (by rw [Int.natCast_mul]), rfl, hb⟩
theorem rplus_w {h l h' l' : Int} {x y : Nat} (H : W2 h l x) (K : W2 h' l' y) (hs : x + y < 340282366920938463463374607431768211456) (w : World) :
    Calls Tryd.prog 42 #[.agg #[.int .u64 h, .int .u64 l], .agg #[.int .u64 h', .int .u64 l']] w fun e w' => ∃ h2 l2, W2 h2 l2 (x + y) ∧ e = .returned (.agg #[.int .u64 h2, .int .u64 l2]) ∧ Below w.heap.size w w' := by
  refine (r_plus h l h' l' w H.h0 H.l0 K.h0 K.l0 H.h1 H.l1 K.h1 K.l1).mono ?_
  rintro e w' ⟨rfl, hb⟩
  rw [H.val, K.val]
  exact ⟨_, _, W2.hl hs (by rw [Int.natCast_add]), rfl, hb⟩
theorem neqW (a b c d : Int) (w : World) : (binOp .neq 46 (.agg #[.int .u64 a, .int .u64 b]) (.agg #[.int .u64 c, .int .u64 d])).run Tryd.prog w = .ok (.bool (!decide ((a, b) = (c, d)))) w := by
  have h := eqlW a b c d w
  rw [run_eql_struct] at h
  rw [run_neq_struct]
  cases hr : ((Op.equalIn 10000 46 (.agg #[.int .u64 a, .int .u64 b]) (.agg #[.int .u64 c, .int .u64 d])).run Tryd.prog w) with
  | ok r w1 =>
    rw [hr] at h
    simp only [Result.andThen_ok, Result.ok.injEq, Value.bool.injEq] at h ⊢
    obtain ⟨h1, h2⟩ := h
    exact ⟨by rw [h1], h2⟩
  | halt s w1 => rw [hr] at h; simp at h
def BoxB (b g7 : Nat) (N D : Int) (Y : Nat) (W : World) : Prop := W.cell? ⟨b, 0, none⟩ = some (.int .i64 N) ∧ W.cell? ⟨b, 1, none⟩ = some (.int .i64 D) ∧ W.cell? ⟨g7, 0, none⟩ = some (.int .u64 0) ∧ W.cell? ⟨g7, 1, none⟩ = some (.int .u64 (Y : Int))
/-- behind the division: the box of the denominator, the quotient's, the rest's -/
structure RV (w : World) (N D : Int) (Y q r g7 g8 g9 : Nat) (wr : World) : Prop where
  a : Blk wr w.heap.size 24 #[.int .i64 N, .int .i64 D]
  y : Blk wr g7 46 #[.int .u64 0, .int .u64 (Y : Int)]
  q : ∃ h l, W2 h l q ∧ Blk wr g8 46 #[.int .u64 h, .int .u64 l]
  r : Blk wr g9 46 #[.int .u64 0, .int .u64 (r : Int)]
  be : Below w.heap.size w wr
  gt : w.heap.size < g8
/-- behind the rounding: the quotient's box -/
structure RD (w : World) (N D : Int) (Q g8 : Nat) (wr : World) : Prop where
  a : Blk wr w.heap.size 24 #[.int .i64 N, .int .i64 D]
  q : ∃ h l, W2 h l Q ∧ Blk wr g8 46 #[.int .u64 h, .int .u64 l]
  be : Below w.heap.size w wr
  gt : w.heap.size < g8
def strLenR : Value → Nat
  | .string b => b.size
  | _ => 0
theorem wrapSn {x : Int} (h : -9223372036854775808 ≤ x) (h2 : x ≤ 9223372036854775807) : IntKind.i64.wrap x = x := by rw [IntKind.wrap_i64]; omega

set_option maxRecDepth 100000 in
set_option maxHeartbeats 16000000 in
theorem rdecimal_yes (N D : Int) (k : Nat) (hN : I64 N) (hD : I64 D) (hv : Frac.valid N D = true) (hk : k ≤ 9) (w : World) :
    Calls Tryd.prog 14 #[.agg #[.int .i64 N, .int .i64 D], .int .i64 (k : Int)] w fun e w' => e = .returned (.string ⟨(decL N D k).toArray⟩) ∧ Below w.heap.size w w' := by
  have HV := Lib.hid (fun w => r_valid N D hN.1 hN.2 hD.1 hD.2 w)
  rw [hv] at HV
  have P0 := Lib.hid (Blk.new w 24 #[.int .i64 N, .int .i64 D])
  have B0 := Lib.hid (bAl (Below.refl w.heap.size w) (.cells #[.int .i64 N, .int .i64 D] 24))
  obtain ⟨d0, d1, n1, x1, q1⟩ := dq_bd (k := k) hv hk
  have hp := pow_le9 hk
  have HSN := Lib.hid (fun w => size_any N hN.1 hN.2 w)
  have HSD := Lib.hid (fun w => size_any D hD.1 hD.2 w)
  have HDQ := Lib.hid (show dq N D k = N.natAbs * 10 ^ k / D.natAbs + rup D.natAbs (N.natAbs * 10 ^ k / D.natAbs) (N.natAbs * 10 ^ k % D.natAbs) from rfl)
  have HDL := Lib.hid (show decL N D k = (if N < 0 ∧ dq N D k ≠ 0 then [45] else []) ++ (decDigits (dq N D k / 10 ^ k) ++ (if 0 < k then 46 :: padL k (decDigits (dq N D k % 10 ^ k)) else [])) from rfl)
  have HRL := Lib.hid (fun h => rest_len (k := k) h (dq N D k))
  have HSP := Lib.hid (fun h => pad_split k (dq N D k) h)
  generalize dq N D k = Q at *
  clear hv hN hD
  generalize decL N D k = LL at *
  have hpow : ∀ j, j ≤ k → 1 ≤ 10 ^ j ∧ 10 ^ j ≤ 1000000000 := fun j hj => pow_le9 (by omega)
  obtain ⟨T, hT⟩ : ∃ T, 10 ^ k = T := ⟨_, rfl⟩
  simp only [hT] at HDQ HDL HRL HSP q1 x1 hp
  generalize N.natAbs = X at *
  generalize D.natAbs = Y at *
  have HXT := Lib.hid (fun w => product_w X T (by omega) (by omega) w)
  have HDV := Lib.hid (fun (h l : Int) (H : W2 h l (X * T)) w => divide_w H (W2.mkLow (x := Y) (by omega)) (by omega) w)
  have hr : X * T % Y < Y := Nat.mod_lt _ (by omega)
  have hk0 : (0 : Int) ≤ (k : Int) := by omega
  have kk1 : ¬ (k : Int) < 0 := by omega
  have kk2 : ¬ (9 : Int) < (k : Int) := by omega
  have kk3 : decide ((k : Int) < 0) = false := decide_eq_false kk1
  have kk4 : decide ((k : Int) > 9) = false := decide_eq_false kk2
  have HT := Lib.hid hT
  have HP := Lib.hid hpow
  clear x1 n1 hT hpow
  go_enter Tryd.func14, Tryd.ntmps14
  go_wp2_with fail
  refine (HV.out _).mono ?_
  rintro e w1 ⟨rfl, hb⟩
  have P1 := Lib.hid (P0.out.later hb)
  have B1 := Lib.hid (bTr B0.out hb)
  clear hb P0 B0 HV
  go_wp2_with fail
  clear kk1 kk2 kk3 kk4
  go_loop [5, 6] (fun s i => ∃ j : Nat, j ≤ k ∧ i = .int .i64 j ∧ s = .int .u64 ((10 ^ j : Nat) : Int)) (fun _ i => k - (RowKit.intOf i).toNat)
  case atStart => exact ⟨0, by omega, rfl, rfl⟩
  case round =>
    obtain ⟨j, hj, rfl, rfl⟩ := hrel
    by_cases hjk : j < k
    · have hjk' : (j : Int) < (k : Int) := by omega
      have hb := HP.out (j + 1) (by omega)
      have HE := Lib.hid (show ((10 ^ (j + 1) : Nat) : Int) = ((10 ^ j : Nat) : Int) * 10 by rw [Nat.pow_succ]; omega)
      have hb2 : ((10 ^ j : Nat) : Int) * 10 ≤ 1000000000 := by rw [← HE.out]; omega
      have ht0 := Int.natCast_nonneg (10 ^ j)
      generalize ((10 ^ j : Nat) : Int) = t at *
      have hwr : IntKind.u64.wrap (t * 10) = t * 10 := by rw [IntKind.wrap_u64]; omega
      go_wp2
      go_round
      case rel => exact ⟨j + 1, by omega, by go_num, by rw [HE.out]⟩
      case measure => simp [RowKit.intOf]; omega
    · obtain rfl : j = k := by omega
      have hjk' : ¬ (j : Int) < (j : Int) := by omega
      rw [HT.out]
      clear HP
      obtain ⟨⟨c0, c1⟩, -, hlt⟩ := P1.out.two
      go_wp2_with fail
      refine (HSD.out _).mono ?_
      rintro e wz ⟨rfl, hw⟩
      obtain rfl := hw
      have P2 := Lib.hid (P1.out.alloc (.cells #[.int .u64 0, .int .u64 (Y : Int)] 46))
      have Y2 := Lib.hid (Blk.new w1 46 #[.int .u64 0, .int .u64 (Y : Int)])
      have B2 := Lib.hid (bAl B1.out (.cells #[.int .u64 0, .int .u64 (Y : Int)] 46))
      have hg7 : w.heap.size < w1.heap.size := hlt
      clear P1 B1 c0 c1 hlt
      go_upto_region 9 with fail
      generalize w1.alloc (.cells #[.int .u64 0, .int .u64 (Y : Int)] 46) = w2 at P2 Y2 B2 ⊢
      generalize w1.heap.size = g7 at Y2 hg7 ⊢
      have DD := Lib.hid (show ∀ g8 g9 wr, w.heap.size < g8 → Below w.heap.size w wr → Blk wr w.heap.size 24 #[.int .i64 N, .int .i64 D] → Blk wr g7 46 #[.int .u64 0, .int .u64 (Y : Int)] → ∀ h l, W2 h l (X * T / Y) → Blk wr g8 46 #[.int .u64 h, .int .u64 l] → Blk wr g9 46 #[.int .u64 0, .int .u64 ((X * T % Y : Nat) : Int)] → RV w N D Y (X * T / Y) (X * T % Y) g7 g8 g9 wr from fun g8 g9 wr h1 h2 h3 h4 h l h5 h6 h7 => ⟨h3, h4, ⟨h, l, h5, h6⟩, h7, h2, h1⟩)
      go_cut [8, 9] (fun s8 s9 wx => ∃ g8 g9 : Nat, s8 = .pointer (some ⟨g8, 0, none⟩) ∧ s9 = .pointer (some ⟨g9, 0, none⟩) ∧ RV w N D Y (X * T / Y) (X * T % Y) g7 g8 g9 wx)
      case first =>
        have P3 := Lib.hid (P2.out.drew)
        have Y3 := Lib.hid (Y2.out.drew)
        have B3 := Lib.hid (bD1 B2.out)
        refine wp_region_held_tail (BoxB w.heap.size g7 N D Y) 13 (by kernel_rfl) (by kernel_rfl) ?_
        simp only [List.drop_succ_cons, List.drop_zero]
        clear P2 Y2 B2 HDL HSP HRL HDQ HSD
        generalize w2.drew = w3 at P3 Y3 B3 ⊢
        have hH : BoxB w.heap.size g7 N D Y w3 := ⟨P3.out.cell 0, P3.out.cell 1, Y3.out.cell 0, Y3.out.cell 1⟩
        refine HeadW.take (i := 0) (oi := ?oi1) (v := ?v1) ?hi1 (by kernel_rfl) ?hQ1 (Or.inl ⟨?hg1, ?hy1⟩) hH ?rest1
        case hi1 => simp only [List.getElem?_toArray, List.getElem?_cons_succ, List.getElem?_cons_zero] <;> rfl
        case hQ1 => exact fun _ _ _ h => h
        case hg1 => rfl
        case hy1 => intro W hSw; obtain ⟨s0, s1, s2, s3⟩ := hSw; go_simp; try with_reducible rfl
        case rest1 =>
        try simp only [Act.put, List.setIfInBounds_toArray, List.set_cons_zero, List.set_cons_succ]
        refine HeadW.take (i := 1) (oi := ?oi2) (v := ?v2) ?hi2 (by kernel_rfl) ?hQ2 (Or.inl ⟨?hg2, ?hy2⟩) hH ?rest2
        case hi2 => simp only [List.getElem?_toArray, List.getElem?_cons_succ, List.getElem?_cons_zero] <;> rfl
        case hQ2 => exact fun _ _ _ h => h
        case hg2 => rfl
        case hy2 => intro W hSw; obtain ⟨s0, s1, s2, s3⟩ := hSw; go_simp; try with_reducible rfl
        case rest2 =>
        try simp only [Act.put, List.setIfInBounds_toArray, List.set_cons_zero, List.set_cons_succ]
        refine HeadW.take (i := 3) (oi := ?oi3) (v := ?v3) ?hi3 (by kernel_rfl) ?hQ3 (Or.inl ⟨?hg3, ?hy3⟩) hH ?rest3
        case hi3 => simp only [List.getElem?_toArray, List.getElem?_cons_succ, List.getElem?_cons_zero] <;> rfl
        case hQ3 => exact fun _ _ _ h => h
        case hg3 => rfl
        case hy3 => intro W hSw; obtain ⟨s0, s1, s2, s3⟩ := hSw; go_simp; try with_reducible rfl
        case rest3 =>
        try simp only [Act.put, List.setIfInBounds_toArray, List.set_cons_zero, List.set_cons_succ]
        refine HeadW.take (i := 5) (oi := ?oi4) (v := ?v4) ?hi4 (by kernel_rfl) ?hQ4 (Or.inl ⟨?hg4, ?hy4⟩) hH ?rest4
        case hi4 => simp only [List.getElem?_toArray, List.getElem?_cons_succ, List.getElem?_cons_zero] <;> rfl
        case hQ4 => exact fun _ _ _ h => h
        case hg4 => rfl
        case hy4 => intro W hSw; obtain ⟨s0, s1, s2, s3⟩ := hSw; go_simp; try with_reducible rfl
        case rest4 =>
        try simp only [Act.put, List.setIfInBounds_toArray, List.set_cons_zero, List.set_cons_succ]
        refine HeadW.some_ [2, 10, 11] (by kernel_rfl) (fun i hi => ?_)
        simp only [List.mem_cons, List.mem_nil_iff, or_false] at hi
        rcases hi with rfl | rfl | rfl
        · refine ⟨_, (by simp only [List.getElem?_toArray, List.getElem?_cons_succ, List.getElem?_cons_zero] <;> rfl), ?_⟩
          unfold StepAt
          intro K hK
          go_simp
          go_at_call 22
          refine (HSN.out _).mono ?_
          rintro e wz ⟨rfl, hw⟩
          obtain rfl := hw
          try dsimp only
          refine hK.out _ _ hH ?_
          clear hK K
          try simp only [Act.put, List.setIfInBounds_toArray, List.set_cons_zero, List.set_cons_succ]
          refine HeadW.some_ [4, 10, 11] (by kernel_rfl) (fun i hi => ?_)
          simp only [List.mem_cons, List.mem_nil_iff, or_false] at hi
          rcases hi with rfl | rfl | rfl
          · refine ⟨_, (by simp only [List.getElem?_toArray, List.getElem?_cons_succ, List.getElem?_cons_zero] <;> rfl), ?_⟩
            unfold StepAt
            intro K hK
            go_simp
            go_at_call 39
            refine (HXT.out _).mono ?_
            rintro e wn5 ⟨th, tl, HTW, rfl, hb⟩
            have HTW' := Lib.hid HTW
            clear HTW
            have P5 := Lib.hid (P3.out.later hb)
            have Y5 := Lib.hid (Y3.out.later hb)
            have B5 := Lib.hid (bTr B3.out hb)
            clear hb hH P3 Y3 B3
            have hH : BoxB w.heap.size g7 N D Y wn5 := ⟨P5.out.cell 0, P5.out.cell 1, Y5.out.cell 0, Y5.out.cell 1⟩
            try dsimp only
            refine hK.out _ _ hH ?_
            clear hK K
            try simp only [Act.put, List.setIfInBounds_toArray, List.set_cons_zero, List.set_cons_succ]
            refine HeadW.some_ [6, 10, 11] (by kernel_rfl) (fun i hi => ?_)
            simp only [List.mem_cons, List.mem_nil_iff, or_false] at hi
            rcases hi with rfl | rfl | rfl
            · refine ⟨_, (by simp only [List.getElem?_toArray, List.getElem?_cons_succ, List.getElem?_cons_zero] <;> rfl), ?_⟩
              unfold StepAt
              intro K hK
              go_simp
              go_at_call 38
              refine (HDV.out _ _ HTW'.out _).mono ?_
              rintro e wn6 ⟨qh, ql, rh, rl, ⟨HQW, HRW⟩, rfl, hb⟩
              obtain ⟨rfl, rfl⟩ := w2_lowR HRW (by omega)
              have HQW' := Lib.hid HQW
              clear HQW HRW
              have P6 := Lib.hid (P5.out.later hb)
              have Y6 := Lib.hid (Y5.out.later hb)
              have B6 := Lib.hid (bTr B5.out hb)
              clear hb hH P5 Y5 B5
              have hH : BoxB w.heap.size g7 N D Y wn6 := ⟨P6.out.cell 0, P6.out.cell 1, Y6.out.cell 0, Y6.out.cell 1⟩
              try dsimp only
              refine hK.out _ _ hH ?_
              clear hK K
              try simp only [Act.put, List.setIfInBounds_toArray, List.set_cons_zero, List.set_cons_succ]
              refine HeadW.take (i := 7) (oi := ?oi7) (v := ?v7) ?hi7 (by kernel_rfl) ?hQ7 (Or.inl ⟨?hg7, ?hy7⟩) hH ?rest7
              case hi7 => simp only [List.getElem?_toArray, List.getElem?_cons_succ, List.getElem?_cons_zero] <;> rfl
              case hQ7 => exact fun _ _ _ h => h
              case hg7 => rfl
              case hy7 => intro W hSw; obtain ⟨s0, s1, s2, s3⟩ := hSw; go_simp; try with_reducible rfl
              case rest7 =>
              try simp only [Act.put, List.setIfInBounds_toArray, List.set_cons_zero, List.set_cons_succ]
              refine HeadW.take (i := 8) (oi := ?oi8) (v := ?v8) ?hi8 (by kernel_rfl) ?hQ8 (Or.inl ⟨?hg8, ?hy8⟩) hH ?rest8
              case hi8 => simp only [List.getElem?_toArray, List.getElem?_cons_succ, List.getElem?_cons_zero] <;> rfl
              case hQ8 => exact fun _ _ _ h => h
              case hg8 => rfl
              case hy8 => intro W hSw; obtain ⟨s0, s1, s2, s3⟩ := hSw; go_simp; try with_reducible rfl
              case rest8 =>
              try simp only [Act.put, List.setIfInBounds_toArray, List.set_cons_zero, List.set_cons_succ]
              refine HeadW.take (i := 9) (oi := ?oi9) (v := ?v9) ?hi9 (by kernel_rfl) ?hQ9 (Or.inl ⟨?hg9, ?hy9⟩) hH ?rest9
              case hi9 => simp only [List.getElem?_toArray, List.getElem?_cons_succ, List.getElem?_cons_zero] <;> rfl
              case hQ9 => exact fun _ _ _ h => h
              case hg9 => rfl
              case hy9 => intro W hSw; obtain ⟨s0, s1, s2, s3⟩ := hSw; go_simp; try with_reducible rfl
              case rest9 =>
              try simp only [Act.put, List.setIfInBounds_toArray, List.set_cons_zero, List.set_cons_succ]
              refine HeadW.some_ [10, 11] (by kernel_rfl) (fun i hi => ?_)
              simp only [List.mem_cons, List.mem_nil_iff, or_false] at hi
              rcases hi with rfl | rfl
              · refine ⟨_, (by simp only [List.getElem?_toArray, List.getElem?_cons_succ, List.getElem?_cons_zero] <;> rfl), ?_⟩
                unfold StepAt
                intro K hK
                go_simp
                have G810 := Lib.hid (Blk.new wn6 46 #[.int .u64 0, .int .u64 0])
                have hgt8 : w.heap.size < wn6.heap.size ∧ g7 < wn6.heap.size := ⟨P6.out.lt, Y6.out.lt⟩
                have P10 := Lib.hid (P6.out.alloc (.cells #[.int .u64 0, .int .u64 0] 46))
                have Y10 := Lib.hid (Y6.out.alloc (.cells #[.int .u64 0, .int .u64 0] 46))
                have B10 := Lib.hid (bAl B6.out (.cells #[.int .u64 0, .int .u64 0] 46))
                generalize wn6.alloc (.cells #[.int .u64 0, .int .u64 0] 46) = wn10 at G810 P10 Y10 B10 ⊢
                generalize wn6.heap.size = gg8 at G810 hgt8 ⊢
                clear hH P6 Y6 B6
                have hH : BoxB w.heap.size g7 N D Y wn10 := ⟨P10.out.cell 0, P10.out.cell 1, Y10.out.cell 0, Y10.out.cell 1⟩
                try dsimp only
                refine hK.out _ _ hH ?_
                clear hK K
                try simp only [Act.put, List.setIfInBounds_toArray, List.set_cons_zero, List.set_cons_succ]
                refine HeadW.some_ [11] (by kernel_rfl) (fun i hi => ?_)
                simp only [List.mem_cons, List.mem_nil_iff, or_false] at hi
                subst hi
                · refine ⟨_, (by simp only [List.getElem?_toArray, List.getElem?_cons_succ, List.getElem?_cons_zero] <;> rfl), ?_⟩
                  unfold StepAt
                  intro K hK
                  go_simp
                  have G911 := Lib.hid (Blk.new wn10 46 #[.int .u64 0, .int .u64 0])
                  have hgt9 : w.heap.size < wn10.heap.size ∧ g7 < wn10.heap.size := ⟨P10.out.lt, Y10.out.lt⟩
                  have hne : gg8 ≠ wn10.heap.size := Nat.ne_of_lt G810.out.lt
                  have P11 := Lib.hid (P10.out.alloc (.cells #[.int .u64 0, .int .u64 0] 46))
                  have Y11 := Lib.hid (Y10.out.alloc (.cells #[.int .u64 0, .int .u64 0] 46))
                  have B11 := Lib.hid (bAl B10.out (.cells #[.int .u64 0, .int .u64 0] 46))
                  have G811 := Lib.hid (G810.out.alloc (.cells #[.int .u64 0, .int .u64 0] 46))
                  generalize wn10.alloc (.cells #[.int .u64 0, .int .u64 0] 46) = wn11 at G911 P11 Y11 B11 G811 ⊢
                  generalize wn10.heap.size = gg9 at G911 hgt9 hne ⊢
                  clear hH P10 Y10 B10 G810
                  have hH : BoxB w.heap.size g7 N D Y wn11 := ⟨P11.out.cell 0, P11.out.cell 1, Y11.out.cell 0, Y11.out.cell 1⟩
                  try dsimp only
                  refine hK.out _ _ hH ?_
                  clear hK K
                  try simp only [Act.put, List.setIfInBounds_toArray, List.set_cons_zero, List.set_cons_succ]
                  refine HeadW.one (i := 12) (o := ?oi12) ?hi12 (by kernel_rfl) ?st12
                  case hi12 => simp only [List.getElem?_toArray, List.getElem?_cons_succ, List.getElem?_cons_zero] <;> rfl
                  case st12 =>
                  intro K hK
                  obtain ⟨⟨d0, d1⟩, ⟨f0, f1⟩, hltg⟩ := G811.out.two
                  have PF := Lib.hid ((P11.out.off (b := gg8) (o := 0) (by omega) (.int .u64 qh)).off (b := gg8) (o := 1) (by omega) (.int .u64 ql))
                  have YF := Lib.hid ((Y11.out.off (b := gg8) (o := 0) (by omega) (.int .u64 qh)).off (b := gg8) (o := 1) (by omega) (.int .u64 ql))
                  have NF := Lib.hid ((G911.out.off (b := gg8) (o := 0) (by omega) (.int .u64 qh)).off (b := gg8) (o := 1) (by omega) (.int .u64 ql))
                  have BF := Lib.hid (bSt (bSt B11.out (p := ⟨gg8, 0, none⟩) (by show w.heap.size ≤ gg8; omega) (.int .u64 qh)) (p := ⟨gg8, 1, none⟩) (by show w.heap.size ≤ gg8; omega) (.int .u64 ql))
                  have QF := Lib.hid ((G811.out.set0 (.int .u64 qh)).set1 (.int .u64 ql))
                  clear hH
                  have hH : BoxB w.heap.size g7 N D Y (((wn11).setCell ⟨gg8, 0, none⟩ (.int .u64 qh)).setCell ⟨gg8, 1, none⟩ (.int .u64 ql)) := ⟨PF.out.cell 0, PF.out.cell 1, YF.out.cell 0, YF.out.cell 1⟩
                  go_simp
                  try dsimp only
                  refine hK.out _ _ hH ?_
                  clear hK K
                  try simp only [Act.put, List.setIfInBounds_toArray, List.set_cons_zero, List.set_cons_succ]
                  refine HeadW.done (by kernel_rfl) ?_
                  clear d0 d1 f0 f1 hltg hH
                  generalize ((wn11).setCell ⟨gg8, 0, none⟩ (.int .u64 qh)).setCell ⟨gg8, 1, none⟩ (.int .u64 ql) = wf at PF YF NF BF QF ⊢
                  obtain ⟨⟨d0, d1⟩, ⟨f0, f1⟩, hltg⟩ := NF.out.two
                  have HREL := Lib.hid (DD.out gg8 gg9 _ hgt8.1 (bSt (bSt BF.out (p := ⟨gg9, 0, none⟩) (by show w.heap.size ≤ gg9; omega) (.int .u64 0)) (p := ⟨gg9, 1, none⟩) (by show w.heap.size ≤ gg9; omega) (.int .u64 ((X * T % Y : Nat) : Int))) ((PF.out.off (b := gg9) (o := 0) (by omega) _).off (b := gg9) (o := 1) (by omega) _) ((YF.out.off (b := gg9) (o := 0) (by omega) _).off (b := gg9) (o := 1) (by omega) _) qh ql HQW'.out ((QF.out.off (b := gg9) (o := 0) (by omega) _).off (b := gg9) (o := 1) (by omega) _) ((NF.out.set0 _).set1 _))
                  go_wp2_with fail
                  go_meet
                  exact ⟨gg8, gg9, rfl, rfl, HREL.out⟩
              · refine ⟨_, (by simp only [List.getElem?_toArray, List.getElem?_cons_succ, List.getElem?_cons_zero] <;> rfl), ?_⟩
                unfold StepAt
                intro K hK
                go_simp
                have G913 := Lib.hid (Blk.new wn6 46 #[.int .u64 0, .int .u64 0])
                have hgt9 : w.heap.size < wn6.heap.size ∧ g7 < wn6.heap.size := ⟨P6.out.lt, Y6.out.lt⟩
                have P13 := Lib.hid (P6.out.alloc (.cells #[.int .u64 0, .int .u64 0] 46))
                have Y13 := Lib.hid (Y6.out.alloc (.cells #[.int .u64 0, .int .u64 0] 46))
                have B13 := Lib.hid (bAl B6.out (.cells #[.int .u64 0, .int .u64 0] 46))
                generalize wn6.alloc (.cells #[.int .u64 0, .int .u64 0] 46) = wn13 at G913 P13 Y13 B13 ⊢
                generalize wn6.heap.size = gg9 at G913 hgt9 ⊢
                clear hH P6 Y6 B6
                have hH : BoxB w.heap.size g7 N D Y wn13 := ⟨P13.out.cell 0, P13.out.cell 1, Y13.out.cell 0, Y13.out.cell 1⟩
                try dsimp only
                refine hK.out _ _ hH ?_
                clear hK K
                try simp only [Act.put, List.setIfInBounds_toArray, List.set_cons_zero, List.set_cons_succ]
                refine HeadW.some_ [10] (by kernel_rfl) (fun i hi => ?_)
                simp only [List.mem_cons, List.mem_nil_iff, or_false] at hi
                subst hi
                · refine ⟨_, (by simp only [List.getElem?_toArray, List.getElem?_cons_succ, List.getElem?_cons_zero] <;> rfl), ?_⟩
                  unfold StepAt
                  intro K hK
                  go_simp
                  have G814 := Lib.hid (Blk.new wn13 46 #[.int .u64 0, .int .u64 0])
                  have hgt8 : w.heap.size < wn13.heap.size ∧ g7 < wn13.heap.size := ⟨P13.out.lt, Y13.out.lt⟩
                  have hne : gg9 ≠ wn13.heap.size := Nat.ne_of_lt G913.out.lt
                  have P14 := Lib.hid (P13.out.alloc (.cells #[.int .u64 0, .int .u64 0] 46))
                  have Y14 := Lib.hid (Y13.out.alloc (.cells #[.int .u64 0, .int .u64 0] 46))
                  have B14 := Lib.hid (bAl B13.out (.cells #[.int .u64 0, .int .u64 0] 46))
                  have G914 := Lib.hid (G913.out.alloc (.cells #[.int .u64 0, .int .u64 0] 46))
                  generalize wn13.alloc (.cells #[.int .u64 0, .int .u64 0] 46) = wn14 at G814 P14 Y14 B14 G914 ⊢
                  generalize wn13.heap.size = gg8 at G814 hgt8 hne ⊢
                  clear hH P13 Y13 B13 G913
                  have hH : BoxB w.heap.size g7 N D Y wn14 := ⟨P14.out.cell 0, P14.out.cell 1, Y14.out.cell 0, Y14.out.cell 1⟩
                  try dsimp only
                  refine hK.out _ _ hH ?_
                  clear hK K
                  try simp only [Act.put, List.setIfInBounds_toArray, List.set_cons_zero, List.set_cons_succ]
                  refine HeadW.one (i := 12) (o := ?oi15) ?hi15 (by kernel_rfl) ?st15
                  case hi15 => simp only [List.getElem?_toArray, List.getElem?_cons_succ, List.getElem?_cons_zero] <;> rfl
                  case st15 =>
                  intro K hK
                  obtain ⟨⟨d0, d1⟩, ⟨f0, f1⟩, hltg⟩ := G814.out.two
                  have PF := Lib.hid ((P14.out.off (b := gg8) (o := 0) (by omega) (.int .u64 qh)).off (b := gg8) (o := 1) (by omega) (.int .u64 ql))
                  have YF := Lib.hid ((Y14.out.off (b := gg8) (o := 0) (by omega) (.int .u64 qh)).off (b := gg8) (o := 1) (by omega) (.int .u64 ql))
                  have NF := Lib.hid ((G914.out.off (b := gg8) (o := 0) (by omega) (.int .u64 qh)).off (b := gg8) (o := 1) (by omega) (.int .u64 ql))
                  have BF := Lib.hid (bSt (bSt B14.out (p := ⟨gg8, 0, none⟩) (by show w.heap.size ≤ gg8; omega) (.int .u64 qh)) (p := ⟨gg8, 1, none⟩) (by show w.heap.size ≤ gg8; omega) (.int .u64 ql))
                  have QF := Lib.hid ((G814.out.set0 (.int .u64 qh)).set1 (.int .u64 ql))
                  clear hH
                  have hH : BoxB w.heap.size g7 N D Y (((wn14).setCell ⟨gg8, 0, none⟩ (.int .u64 qh)).setCell ⟨gg8, 1, none⟩ (.int .u64 ql)) := ⟨PF.out.cell 0, PF.out.cell 1, YF.out.cell 0, YF.out.cell 1⟩
                  go_simp
                  try dsimp only
                  refine hK.out _ _ hH ?_
                  clear hK K
                  try simp only [Act.put, List.setIfInBounds_toArray, List.set_cons_zero, List.set_cons_succ]
                  refine HeadW.done (by kernel_rfl) ?_
                  clear d0 d1 f0 f1 hltg hH
                  generalize ((wn14).setCell ⟨gg8, 0, none⟩ (.int .u64 qh)).setCell ⟨gg8, 1, none⟩ (.int .u64 ql) = wf at PF YF NF BF QF ⊢
                  obtain ⟨⟨d0, d1⟩, ⟨f0, f1⟩, hltg⟩ := NF.out.two
                  have HREL := Lib.hid (DD.out gg8 gg9 _ hgt8.1 (bSt (bSt BF.out (p := ⟨gg9, 0, none⟩) (by show w.heap.size ≤ gg9; omega) (.int .u64 0)) (p := ⟨gg9, 1, none⟩) (by show w.heap.size ≤ gg9; omega) (.int .u64 ((X * T % Y : Nat) : Int))) ((PF.out.off (b := gg9) (o := 0) (by omega) _).off (b := gg9) (o := 1) (by omega) _) ((YF.out.off (b := gg9) (o := 0) (by omega) _).off (b := gg9) (o := 1) (by omega) _) qh ql HQW'.out ((QF.out.off (b := gg9) (o := 0) (by omega) _).off (b := gg9) (o := 1) (by omega) _) ((NF.out.set0 _).set1 _))
                  go_wp2_with fail
                  go_meet
                  exact ⟨gg8, gg9, rfl, rfl, HREL.out⟩
            · refine ⟨_, (by simp only [List.getElem?_toArray, List.getElem?_cons_succ, List.getElem?_cons_zero] <;> rfl), ?_⟩
              unfold StepAt
              intro K hK
              go_simp
              have G816 := Lib.hid (Blk.new wn5 46 #[.int .u64 0, .int .u64 0])
              have hgt8 : w.heap.size < wn5.heap.size ∧ g7 < wn5.heap.size := ⟨P5.out.lt, Y5.out.lt⟩
              have P16 := Lib.hid (P5.out.alloc (.cells #[.int .u64 0, .int .u64 0] 46))
              have Y16 := Lib.hid (Y5.out.alloc (.cells #[.int .u64 0, .int .u64 0] 46))
              have B16 := Lib.hid (bAl B5.out (.cells #[.int .u64 0, .int .u64 0] 46))
              generalize wn5.alloc (.cells #[.int .u64 0, .int .u64 0] 46) = wn16 at G816 P16 Y16 B16 ⊢
              generalize wn5.heap.size = gg8 at G816 hgt8 ⊢
              clear hH P5 Y5 B5
              have hH : BoxB w.heap.size g7 N D Y wn16 := ⟨P16.out.cell 0, P16.out.cell 1, Y16.out.cell 0, Y16.out.cell 1⟩
              try dsimp only
              refine hK.out _ _ hH ?_
              clear hK K
              try simp only [Act.put, List.setIfInBounds_toArray, List.set_cons_zero, List.set_cons_succ]
              refine HeadW.some_ [6, 11] (by kernel_rfl) (fun i hi => ?_)
              simp only [List.mem_cons, List.mem_nil_iff, or_false] at hi
              rcases hi with rfl | rfl
              · refine ⟨_, (by simp only [List.getElem?_toArray, List.getElem?_cons_succ, List.getElem?_cons_zero] <;> rfl), ?_⟩
                unfold StepAt
                intro K hK
                go_simp
                go_at_call 38
                refine (HDV.out _ _ HTW'.out _).mono ?_
                rintro e wn17 ⟨qh, ql, rh, rl, ⟨HQW, HRW⟩, rfl, hb⟩
                obtain ⟨rfl, rfl⟩ := w2_lowR HRW (by omega)
                have HQW' := Lib.hid HQW
                clear HQW HRW
                have P17 := Lib.hid (P16.out.later hb)
                have Y17 := Lib.hid (Y16.out.later hb)
                have B17 := Lib.hid (bTr B16.out hb)
                have G817 := Lib.hid (G816.out.later hb)
                clear hb hH P16 Y16 B16 G816
                have hH : BoxB w.heap.size g7 N D Y wn17 := ⟨P17.out.cell 0, P17.out.cell 1, Y17.out.cell 0, Y17.out.cell 1⟩
                try dsimp only
                refine hK.out _ _ hH ?_
                clear hK K
                try simp only [Act.put, List.setIfInBounds_toArray, List.set_cons_zero, List.set_cons_succ]
                refine HeadW.take (i := 7) (oi := ?oi18) (v := ?v18) ?hi18 (by kernel_rfl) ?hQ18 (Or.inl ⟨?hg18, ?hy18⟩) hH ?rest18
                case hi18 => simp only [List.getElem?_toArray, List.getElem?_cons_succ, List.getElem?_cons_zero] <;> rfl
                case hQ18 => exact fun _ _ _ h => h
                case hg18 => rfl
                case hy18 => intro W hSw; obtain ⟨s0, s1, s2, s3⟩ := hSw; go_simp; try with_reducible rfl
                case rest18 =>
                try simp only [Act.put, List.setIfInBounds_toArray, List.set_cons_zero, List.set_cons_succ]
                refine HeadW.take (i := 8) (oi := ?oi19) (v := ?v19) ?hi19 (by kernel_rfl) ?hQ19 (Or.inl ⟨?hg19, ?hy19⟩) hH ?rest19
                case hi19 => simp only [List.getElem?_toArray, List.getElem?_cons_succ, List.getElem?_cons_zero] <;> rfl
                case hQ19 => exact fun _ _ _ h => h
                case hg19 => rfl
                case hy19 => intro W hSw; obtain ⟨s0, s1, s2, s3⟩ := hSw; go_simp; try with_reducible rfl
                case rest19 =>
                try simp only [Act.put, List.setIfInBounds_toArray, List.set_cons_zero, List.set_cons_succ]
                refine HeadW.take (i := 9) (oi := ?oi20) (v := ?v20) ?hi20 (by kernel_rfl) ?hQ20 (Or.inl ⟨?hg20, ?hy20⟩) hH ?rest20
                case hi20 => simp only [List.getElem?_toArray, List.getElem?_cons_succ, List.getElem?_cons_zero] <;> rfl
                case hQ20 => exact fun _ _ _ h => h
                case hg20 => rfl
                case hy20 => intro W hSw; obtain ⟨s0, s1, s2, s3⟩ := hSw; go_simp; try with_reducible rfl
                case rest20 =>
                try simp only [Act.put, List.setIfInBounds_toArray, List.set_cons_zero, List.set_cons_succ]
                refine HeadW.some_ [11] (by kernel_rfl) (fun i hi => ?_)
                simp only [List.mem_cons, List.mem_nil_iff, or_false] at hi
                subst hi
                · refine ⟨_, (by simp only [List.getElem?_toArray, List.getElem?_cons_succ, List.getElem?_cons_zero] <;> rfl), ?_⟩
                  unfold StepAt
                  intro K hK
                  go_simp
                  have G921 := Lib.hid (Blk.new wn17 46 #[.int .u64 0, .int .u64 0])
                  have hgt9 : w.heap.size < wn17.heap.size ∧ g7 < wn17.heap.size := ⟨P17.out.lt, Y17.out.lt⟩
                  have hne : gg8 ≠ wn17.heap.size := Nat.ne_of_lt G817.out.lt
                  have P21 := Lib.hid (P17.out.alloc (.cells #[.int .u64 0, .int .u64 0] 46))
                  have Y21 := Lib.hid (Y17.out.alloc (.cells #[.int .u64 0, .int .u64 0] 46))
                  have B21 := Lib.hid (bAl B17.out (.cells #[.int .u64 0, .int .u64 0] 46))
                  have G821 := Lib.hid (G817.out.alloc (.cells #[.int .u64 0, .int .u64 0] 46))
                  generalize wn17.alloc (.cells #[.int .u64 0, .int .u64 0] 46) = wn21 at G921 P21 Y21 B21 G821 ⊢
                  generalize wn17.heap.size = gg9 at G921 hgt9 hne ⊢
                  clear hH P17 Y17 B17 G817
                  have hH : BoxB w.heap.size g7 N D Y wn21 := ⟨P21.out.cell 0, P21.out.cell 1, Y21.out.cell 0, Y21.out.cell 1⟩
                  try dsimp only
                  refine hK.out _ _ hH ?_
                  clear hK K
                  try simp only [Act.put, List.setIfInBounds_toArray, List.set_cons_zero, List.set_cons_succ]
                  refine HeadW.one (i := 12) (o := ?oi22) ?hi22 (by kernel_rfl) ?st22
                  case hi22 => simp only [List.getElem?_toArray, List.getElem?_cons_succ, List.getElem?_cons_zero] <;> rfl
                  case st22 =>
                  intro K hK
                  obtain ⟨⟨d0, d1⟩, ⟨f0, f1⟩, hltg⟩ := G821.out.two
                  have PF := Lib.hid ((P21.out.off (b := gg8) (o := 0) (by omega) (.int .u64 qh)).off (b := gg8) (o := 1) (by omega) (.int .u64 ql))
                  have YF := Lib.hid ((Y21.out.off (b := gg8) (o := 0) (by omega) (.int .u64 qh)).off (b := gg8) (o := 1) (by omega) (.int .u64 ql))
                  have NF := Lib.hid ((G921.out.off (b := gg8) (o := 0) (by omega) (.int .u64 qh)).off (b := gg8) (o := 1) (by omega) (.int .u64 ql))
                  have BF := Lib.hid (bSt (bSt B21.out (p := ⟨gg8, 0, none⟩) (by show w.heap.size ≤ gg8; omega) (.int .u64 qh)) (p := ⟨gg8, 1, none⟩) (by show w.heap.size ≤ gg8; omega) (.int .u64 ql))
                  have QF := Lib.hid ((G821.out.set0 (.int .u64 qh)).set1 (.int .u64 ql))
                  clear hH
                  have hH : BoxB w.heap.size g7 N D Y (((wn21).setCell ⟨gg8, 0, none⟩ (.int .u64 qh)).setCell ⟨gg8, 1, none⟩ (.int .u64 ql)) := ⟨PF.out.cell 0, PF.out.cell 1, YF.out.cell 0, YF.out.cell 1⟩
                  go_simp
                  try dsimp only
                  refine hK.out _ _ hH ?_
                  clear hK K
                  try simp only [Act.put, List.setIfInBounds_toArray, List.set_cons_zero, List.set_cons_succ]
                  refine HeadW.done (by kernel_rfl) ?_
                  clear d0 d1 f0 f1 hltg hH
                  generalize ((wn21).setCell ⟨gg8, 0, none⟩ (.int .u64 qh)).setCell ⟨gg8, 1, none⟩ (.int .u64 ql) = wf at PF YF NF BF QF ⊢
                  obtain ⟨⟨d0, d1⟩, ⟨f0, f1⟩, hltg⟩ := NF.out.two
                  have HREL := Lib.hid (DD.out gg8 gg9 _ hgt8.1 (bSt (bSt BF.out (p := ⟨gg9, 0, none⟩) (by show w.heap.size ≤ gg9; omega) (.int .u64 0)) (p := ⟨gg9, 1, none⟩) (by show w.heap.size ≤ gg9; omega) (.int .u64 ((X * T % Y : Nat) : Int))) ((PF.out.off (b := gg9) (o := 0) (by omega) _).off (b := gg9) (o := 1) (by omega) _) ((YF.out.off (b := gg9) (o := 0) (by omega) _).off (b := gg9) (o := 1) (by omega) _) qh ql HQW'.out ((QF.out.off (b := gg9) (o := 0) (by omega) _).off (b := gg9) (o := 1) (by omega) _) ((NF.out.set0 _).set1 _))
                  go_wp2_with fail
                  go_meet
                  exact ⟨gg8, gg9, rfl, rfl, HREL.out⟩
              · refine ⟨_, (by simp only [List.getElem?_toArray, List.getElem?_cons_succ, List.getElem?_cons_zero] <;> rfl), ?_⟩
                unfold StepAt
                intro K hK
                go_simp
                have G923 := Lib.hid (Blk.new wn16 46 #[.int .u64 0, .int .u64 0])
                have hgt9 : w.heap.size < wn16.heap.size ∧ g7 < wn16.heap.size := ⟨P16.out.lt, Y16.out.lt⟩
                have hne : gg8 ≠ wn16.heap.size := Nat.ne_of_lt G816.out.lt
                have P23 := Lib.hid (P16.out.alloc (.cells #[.int .u64 0, .int .u64 0] 46))
                have Y23 := Lib.hid (Y16.out.alloc (.cells #[.int .u64 0, .int .u64 0] 46))
                have B23 := Lib.hid (bAl B16.out (.cells #[.int .u64 0, .int .u64 0] 46))
                have G823 := Lib.hid (G816.out.alloc (.cells #[.int .u64 0, .int .u64 0] 46))
                generalize wn16.alloc (.cells #[.int .u64 0, .int .u64 0] 46) = wn23 at G923 P23 Y23 B23 G823 ⊢
                generalize wn16.heap.size = gg9 at G923 hgt9 hne ⊢
                clear hH P16 Y16 B16 G816
                have hH : BoxB w.heap.size g7 N D Y wn23 := ⟨P23.out.cell 0, P23.out.cell 1, Y23.out.cell 0, Y23.out.cell 1⟩
                try dsimp only
                refine hK.out _ _ hH ?_
                clear hK K
                try simp only [Act.put, List.setIfInBounds_toArray, List.set_cons_zero, List.set_cons_succ]
                refine HeadW.some_ [6] (by kernel_rfl) (fun i hi => ?_)
                simp only [List.mem_cons, List.mem_nil_iff, or_false] at hi
                subst hi
                · refine ⟨_, (by simp only [List.getElem?_toArray, List.getElem?_cons_succ, List.getElem?_cons_zero] <;> rfl), ?_⟩
                  unfold StepAt
                  intro K hK
                  go_simp
                  go_at_call 38
                  refine (HDV.out _ _ HTW'.out _).mono ?_
                  rintro e wn24 ⟨qh, ql, rh, rl, ⟨HQW, HRW⟩, rfl, hb⟩
                  obtain ⟨rfl, rfl⟩ := w2_lowR HRW (by omega)
                  have HQW' := Lib.hid HQW
                  clear HQW HRW
                  have P24 := Lib.hid (P23.out.later hb)
                  have Y24 := Lib.hid (Y23.out.later hb)
                  have B24 := Lib.hid (bTr B23.out hb)
                  have G824 := Lib.hid (G823.out.later hb)
                  have G924 := Lib.hid (G923.out.later hb)
                  clear hb hH P23 Y23 B23 G823 G923
                  have hH : BoxB w.heap.size g7 N D Y wn24 := ⟨P24.out.cell 0, P24.out.cell 1, Y24.out.cell 0, Y24.out.cell 1⟩
                  try dsimp only
                  refine hK.out _ _ hH ?_
                  clear hK K
                  try simp only [Act.put, List.setIfInBounds_toArray, List.set_cons_zero, List.set_cons_succ]
                  refine HeadW.take (i := 7) (oi := ?oi25) (v := ?v25) ?hi25 (by kernel_rfl) ?hQ25 (Or.inl ⟨?hg25, ?hy25⟩) hH ?rest25
                  case hi25 => simp only [List.getElem?_toArray, List.getElem?_cons_succ, List.getElem?_cons_zero] <;> rfl
                  case hQ25 => exact fun _ _ _ h => h
                  case hg25 => rfl
                  case hy25 => intro W hSw; obtain ⟨s0, s1, s2, s3⟩ := hSw; go_simp; try with_reducible rfl
                  case rest25 =>
                  try simp only [Act.put, List.setIfInBounds_toArray, List.set_cons_zero, List.set_cons_succ]
                  refine HeadW.take (i := 8) (oi := ?oi26) (v := ?v26) ?hi26 (by kernel_rfl) ?hQ26 (Or.inl ⟨?hg26, ?hy26⟩) hH ?rest26
                  case hi26 => simp only [List.getElem?_toArray, List.getElem?_cons_succ, List.getElem?_cons_zero] <;> rfl
                  case hQ26 => exact fun _ _ _ h => h
                  case hg26 => rfl
                  case hy26 => intro W hSw; obtain ⟨s0, s1, s2, s3⟩ := hSw; go_simp; try with_reducible rfl
                  case rest26 =>
                  try simp only [Act.put, List.setIfInBounds_toArray, List.set_cons_zero, List.set_cons_succ]
                  refine HeadW.take (i := 9) (oi := ?oi27) (v := ?v27) ?hi27 (by kernel_rfl) ?hQ27 (Or.inl ⟨?hg27, ?hy27⟩) hH ?rest27
                  case hi27 => simp only [List.getElem?_toArray, List.getElem?_cons_succ, List.getElem?_cons_zero] <;> rfl
                  case hQ27 => exact fun _ _ _ h => h
                  case hg27 => rfl
                  case hy27 => intro W hSw; obtain ⟨s0, s1, s2, s3⟩ := hSw; go_simp; try with_reducible rfl
                  case rest27 =>
                  try simp only [Act.put, List.setIfInBounds_toArray, List.set_cons_zero, List.set_cons_succ]
                  refine HeadW.one (i := 12) (o := ?oi28) ?hi28 (by kernel_rfl) ?st28
                  case hi28 => simp only [List.getElem?_toArray, List.getElem?_cons_succ, List.getElem?_cons_zero] <;> rfl
                  case st28 =>
                  intro K hK
                  obtain ⟨⟨d0, d1⟩, ⟨f0, f1⟩, hltg⟩ := G824.out.two
                  have PF := Lib.hid ((P24.out.off (b := gg8) (o := 0) (by omega) (.int .u64 qh)).off (b := gg8) (o := 1) (by omega) (.int .u64 ql))
                  have YF := Lib.hid ((Y24.out.off (b := gg8) (o := 0) (by omega) (.int .u64 qh)).off (b := gg8) (o := 1) (by omega) (.int .u64 ql))
                  have NF := Lib.hid ((G924.out.off (b := gg8) (o := 0) (by omega) (.int .u64 qh)).off (b := gg8) (o := 1) (by omega) (.int .u64 ql))
                  have BF := Lib.hid (bSt (bSt B24.out (p := ⟨gg8, 0, none⟩) (by show w.heap.size ≤ gg8; omega) (.int .u64 qh)) (p := ⟨gg8, 1, none⟩) (by show w.heap.size ≤ gg8; omega) (.int .u64 ql))
                  have QF := Lib.hid ((G824.out.set0 (.int .u64 qh)).set1 (.int .u64 ql))
                  clear hH
                  have hH : BoxB w.heap.size g7 N D Y (((wn24).setCell ⟨gg8, 0, none⟩ (.int .u64 qh)).setCell ⟨gg8, 1, none⟩ (.int .u64 ql)) := ⟨PF.out.cell 0, PF.out.cell 1, YF.out.cell 0, YF.out.cell 1⟩
                  go_simp
                  try dsimp only
                  refine hK.out _ _ hH ?_
                  clear hK K
                  try simp only [Act.put, List.setIfInBounds_toArray, List.set_cons_zero, List.set_cons_succ]
                  refine HeadW.done (by kernel_rfl) ?_
                  clear d0 d1 f0 f1 hltg hH
                  generalize ((wn24).setCell ⟨gg8, 0, none⟩ (.int .u64 qh)).setCell ⟨gg8, 1, none⟩ (.int .u64 ql) = wf at PF YF NF BF QF ⊢
                  obtain ⟨⟨d0, d1⟩, ⟨f0, f1⟩, hltg⟩ := NF.out.two
                  have HREL := Lib.hid (DD.out gg8 gg9 _ hgt8.1 (bSt (bSt BF.out (p := ⟨gg9, 0, none⟩) (by show w.heap.size ≤ gg9; omega) (.int .u64 0)) (p := ⟨gg9, 1, none⟩) (by show w.heap.size ≤ gg9; omega) (.int .u64 ((X * T % Y : Nat) : Int))) ((PF.out.off (b := gg9) (o := 0) (by omega) _).off (b := gg9) (o := 1) (by omega) _) ((YF.out.off (b := gg9) (o := 0) (by omega) _).off (b := gg9) (o := 1) (by omega) _) qh ql HQW'.out ((QF.out.off (b := gg9) (o := 0) (by omega) _).off (b := gg9) (o := 1) (by omega) _) ((NF.out.set0 _).set1 _))
                  go_wp2_with fail
                  go_meet
                  exact ⟨gg8, gg9, rfl, rfl, HREL.out⟩
            · refine ⟨_, (by simp only [List.getElem?_toArray, List.getElem?_cons_succ, List.getElem?_cons_zero] <;> rfl), ?_⟩
              unfold StepAt
              intro K hK
              go_simp
              have G929 := Lib.hid (Blk.new wn5 46 #[.int .u64 0, .int .u64 0])
              have hgt9 : w.heap.size < wn5.heap.size ∧ g7 < wn5.heap.size := ⟨P5.out.lt, Y5.out.lt⟩
              have P29 := Lib.hid (P5.out.alloc (.cells #[.int .u64 0, .int .u64 0] 46))
              have Y29 := Lib.hid (Y5.out.alloc (.cells #[.int .u64 0, .int .u64 0] 46))
              have B29 := Lib.hid (bAl B5.out (.cells #[.int .u64 0, .int .u64 0] 46))
              generalize wn5.alloc (.cells #[.int .u64 0, .int .u64 0] 46) = wn29 at G929 P29 Y29 B29 ⊢
              generalize wn5.heap.size = gg9 at G929 hgt9 ⊢
              clear hH P5 Y5 B5
              have hH : BoxB w.heap.size g7 N D Y wn29 := ⟨P29.out.cell 0, P29.out.cell 1, Y29.out.cell 0, Y29.out.cell 1⟩
              try dsimp only
              refine hK.out _ _ hH ?_
              clear hK K
              try simp only [Act.put, List.setIfInBounds_toArray, List.set_cons_zero, List.set_cons_succ]
              refine HeadW.some_ [6, 10] (by kernel_rfl) (fun i hi => ?_)
              simp only [List.mem_cons, List.mem_nil_iff, or_false] at hi
              rcases hi with rfl | rfl
              · refine ⟨_, (by simp only [List.getElem?_toArray, List.getElem?_cons_succ, List.getElem?_cons_zero] <;> rfl), ?_⟩
                unfold StepAt
                intro K hK
                go_simp
                go_at_call 38
                refine (HDV.out _ _ HTW'.out _).mono ?_
                rintro e wn30 ⟨qh, ql, rh, rl, ⟨HQW, HRW⟩, rfl, hb⟩
                obtain ⟨rfl, rfl⟩ := w2_lowR HRW (by omega)
                have HQW' := Lib.hid HQW
                clear HQW HRW
                have P30 := Lib.hid (P29.out.later hb)
                have Y30 := Lib.hid (Y29.out.later hb)
                have B30 := Lib.hid (bTr B29.out hb)
                have G930 := Lib.hid (G929.out.later hb)
                clear hb hH P29 Y29 B29 G929
                have hH : BoxB w.heap.size g7 N D Y wn30 := ⟨P30.out.cell 0, P30.out.cell 1, Y30.out.cell 0, Y30.out.cell 1⟩
                try dsimp only
                refine hK.out _ _ hH ?_
                clear hK K
                try simp only [Act.put, List.setIfInBounds_toArray, List.set_cons_zero, List.set_cons_succ]
                refine HeadW.take (i := 7) (oi := ?oi31) (v := ?v31) ?hi31 (by kernel_rfl) ?hQ31 (Or.inl ⟨?hg31, ?hy31⟩) hH ?rest31
                case hi31 => simp only [List.getElem?_toArray, List.getElem?_cons_succ, List.getElem?_cons_zero] <;> rfl
                case hQ31 => exact fun _ _ _ h => h
                case hg31 => rfl
                case hy31 => intro W hSw; obtain ⟨s0, s1, s2, s3⟩ := hSw; go_simp; try with_reducible rfl
                case rest31 =>
                try simp only [Act.put, List.setIfInBounds_toArray, List.set_cons_zero, List.set_cons_succ]
                refine HeadW.take (i := 8) (oi := ?oi32) (v := ?v32) ?hi32 (by kernel_rfl) ?hQ32 (Or.inl ⟨?hg32, ?hy32⟩) hH ?rest32
                case hi32 => simp only [List.getElem?_toArray, List.getElem?_cons_succ, List.getElem?_cons_zero] <;> rfl
                case hQ32 => exact fun _ _ _ h => h
                case hg32 => rfl
                case hy32 => intro W hSw; obtain ⟨s0, s1, s2, s3⟩ := hSw; go_simp; try with_reducible rfl
                case rest32 =>
                try simp only [Act.put, List.setIfInBounds_toArray, List.set_cons_zero, List.set_cons_succ]
                refine HeadW.take (i := 9) (oi := ?oi33) (v := ?v33) ?hi33 (by kernel_rfl) ?hQ33 (Or.inl ⟨?hg33, ?hy33⟩) hH ?rest33
                case hi33 => simp only [List.getElem?_toArray, List.getElem?_cons_succ, List.getElem?_cons_zero] <;> rfl
                case hQ33 => exact fun _ _ _ h => h
                case hg33 => rfl
                case hy33 => intro W hSw; obtain ⟨s0, s1, s2, s3⟩ := hSw; go_simp; try with_reducible rfl
                case rest33 =>
                try simp only [Act.put, List.setIfInBounds_toArray, List.set_cons_zero, List.set_cons_succ]
                refine HeadW.some_ [10] (by kernel_rfl) (fun i hi => ?_)
                simp only [List.mem_cons, List.mem_nil_iff, or_false] at hi
                subst hi
                · refine ⟨_, (by simp only [List.getElem?_toArray, List.getElem?_cons_succ, List.getElem?_cons_zero] <;> rfl), ?_⟩
                  unfold StepAt
                  intro K hK
                  go_simp
                  have G834 := Lib.hid (Blk.new wn30 46 #[.int .u64 0, .int .u64 0])
                  have hgt8 : w.heap.size < wn30.heap.size ∧ g7 < wn30.heap.size := ⟨P30.out.lt, Y30.out.lt⟩
                  have hne : gg9 ≠ wn30.heap.size := Nat.ne_of_lt G930.out.lt
                  have P34 := Lib.hid (P30.out.alloc (.cells #[.int .u64 0, .int .u64 0] 46))
                  have Y34 := Lib.hid (Y30.out.alloc (.cells #[.int .u64 0, .int .u64 0] 46))
                  have B34 := Lib.hid (bAl B30.out (.cells #[.int .u64 0, .int .u64 0] 46))
                  have G934 := Lib.hid (G930.out.alloc (.cells #[.int .u64 0, .int .u64 0] 46))
                  generalize wn30.alloc (.cells #[.int .u64 0, .int .u64 0] 46) = wn34 at G834 P34 Y34 B34 G934 ⊢
                  generalize wn30.heap.size = gg8 at G834 hgt8 hne ⊢
                  clear hH P30 Y30 B30 G930
                  have hH : BoxB w.heap.size g7 N D Y wn34 := ⟨P34.out.cell 0, P34.out.cell 1, Y34.out.cell 0, Y34.out.cell 1⟩
                  try dsimp only
                  refine hK.out _ _ hH ?_
                  clear hK K
                  try simp only [Act.put, List.setIfInBounds_toArray, List.set_cons_zero, List.set_cons_succ]
                  refine HeadW.one (i := 12) (o := ?oi35) ?hi35 (by kernel_rfl) ?st35
                  case hi35 => simp only [List.getElem?_toArray, List.getElem?_cons_succ, List.getElem?_cons_zero] <;> rfl
                  case st35 =>
                  intro K hK
                  obtain ⟨⟨d0, d1⟩, ⟨f0, f1⟩, hltg⟩ := G834.out.two
                  have PF := Lib.hid ((P34.out.off (b := gg8) (o := 0) (by omega) (.int .u64 qh)).off (b := gg8) (o := 1) (by omega) (.int .u64 ql))
                  have YF := Lib.hid ((Y34.out.off (b := gg8) (o := 0) (by omega) (.int .u64 qh)).off (b := gg8) (o := 1) (by omega) (.int .u64 ql))
                  have NF := Lib.hid ((G934.out.off (b := gg8) (o := 0) (by omega) (.int .u64 qh)).off (b := gg8) (o := 1) (by omega) (.int .u64 ql))
                  have BF := Lib.hid (bSt (bSt B34.out (p := ⟨gg8, 0, none⟩) (by show w.heap.size ≤ gg8; omega) (.int .u64 qh)) (p := ⟨gg8, 1, none⟩) (by show w.heap.size ≤ gg8; omega) (.int .u64 ql))
                  have QF := Lib.hid ((G834.out.set0 (.int .u64 qh)).set1 (.int .u64 ql))
                  clear hH
                  have hH : BoxB w.heap.size g7 N D Y (((wn34).setCell ⟨gg8, 0, none⟩ (.int .u64 qh)).setCell ⟨gg8, 1, none⟩ (.int .u64 ql)) := ⟨PF.out.cell 0, PF.out.cell 1, YF.out.cell 0, YF.out.cell 1⟩
                  go_simp
                  try dsimp only
                  refine hK.out _ _ hH ?_
                  clear hK K
                  try simp only [Act.put, List.setIfInBounds_toArray, List.set_cons_zero, List.set_cons_succ]
                  refine HeadW.done (by kernel_rfl) ?_
                  clear d0 d1 f0 f1 hltg hH
                  generalize ((wn34).setCell ⟨gg8, 0, none⟩ (.int .u64 qh)).setCell ⟨gg8, 1, none⟩ (.int .u64 ql) = wf at PF YF NF BF QF ⊢
                  obtain ⟨⟨d0, d1⟩, ⟨f0, f1⟩, hltg⟩ := NF.out.two
                  have HREL := Lib.hid (DD.out gg8 gg9 _ hgt8.1 (bSt (bSt BF.out (p := ⟨gg9, 0, none⟩) (by show w.heap.size ≤ gg9; omega) (.int .u64 0)) (p := ⟨gg9, 1, none⟩) (by show w.heap.size ≤ gg9; omega) (.int .u64 ((X * T % Y : Nat) : Int))) ((PF.out.off (b := gg9) (o := 0) (by omega) _).off (b := gg9) (o := 1) (by omega) _) ((YF.out.off (b := gg9) (o := 0) (by omega) _).off (b := gg9) (o := 1) (by omega) _) qh ql HQW'.out ((QF.out.off (b := gg9) (o := 0) (by omega) _).off (b := gg9) (o := 1) (by omega) _) ((NF.out.set0 _).set1 _))
                  go_wp2_with fail
                  go_meet
                  exact ⟨gg8, gg9, rfl, rfl, HREL.out⟩
              · refine ⟨_, (by simp only [List.getElem?_toArray, List.getElem?_cons_succ, List.getElem?_cons_zero] <;> rfl), ?_⟩
                unfold StepAt
                intro K hK
                go_simp
                have G836 := Lib.hid (Blk.new wn29 46 #[.int .u64 0, .int .u64 0])
                have hgt8 : w.heap.size < wn29.heap.size ∧ g7 < wn29.heap.size := ⟨P29.out.lt, Y29.out.lt⟩
                have hne : gg9 ≠ wn29.heap.size := Nat.ne_of_lt G929.out.lt
                have P36 := Lib.hid (P29.out.alloc (.cells #[.int .u64 0, .int .u64 0] 46))
                have Y36 := Lib.hid (Y29.out.alloc (.cells #[.int .u64 0, .int .u64 0] 46))
                have B36 := Lib.hid (bAl B29.out (.cells #[.int .u64 0, .int .u64 0] 46))
                have G936 := Lib.hid (G929.out.alloc (.cells #[.int .u64 0, .int .u64 0] 46))
                generalize wn29.alloc (.cells #[.int .u64 0, .int .u64 0] 46) = wn36 at G836 P36 Y36 B36 G936 ⊢
                generalize wn29.heap.size = gg8 at G836 hgt8 hne ⊢
                clear hH P29 Y29 B29 G929
                have hH : BoxB w.heap.size g7 N D Y wn36 := ⟨P36.out.cell 0, P36.out.cell 1, Y36.out.cell 0, Y36.out.cell 1⟩
                try dsimp only
                refine hK.out _ _ hH ?_
                clear hK K
                try simp only [Act.put, List.setIfInBounds_toArray, List.set_cons_zero, List.set_cons_succ]
                refine HeadW.some_ [6] (by kernel_rfl) (fun i hi => ?_)
                simp only [List.mem_cons, List.mem_nil_iff, or_false] at hi
                subst hi
                · refine ⟨_, (by simp only [List.getElem?_toArray, List.getElem?_cons_succ, List.getElem?_cons_zero] <;> rfl), ?_⟩
                  unfold StepAt
                  intro K hK
                  go_simp
                  go_at_call 38
                  refine (HDV.out _ _ HTW'.out _).mono ?_
                  rintro e wn37 ⟨qh, ql, rh, rl, ⟨HQW, HRW⟩, rfl, hb⟩
                  obtain ⟨rfl, rfl⟩ := w2_lowR HRW (by omega)
                  have HQW' := Lib.hid HQW
                  clear HQW HRW
                  have P37 := Lib.hid (P36.out.later hb)
                  have Y37 := Lib.hid (Y36.out.later hb)
                  have B37 := Lib.hid (bTr B36.out hb)
                  have G837 := Lib.hid (G836.out.later hb)
                  have G937 := Lib.hid (G936.out.later hb)
                  clear hb hH P36 Y36 B36 G836 G936
                  have hH : BoxB w.heap.size g7 N D Y wn37 := ⟨P37.out.cell 0, P37.out.cell 1, Y37.out.cell 0, Y37.out.cell 1⟩
                  try dsimp only
                  refine hK.out _ _ hH ?_
                  clear hK K
                  try simp only [Act.put, List.setIfInBounds_toArray, List.set_cons_zero, List.set_cons_succ]
                  refine HeadW.take (i := 7) (oi := ?oi38) (v := ?v38) ?hi38 (by kernel_rfl) ?hQ38 (Or.inl ⟨?hg38, ?hy38⟩) hH ?rest38
                  case hi38 => simp only [List.getElem?_toArray, List.getElem?_cons_succ, List.getElem?_cons_zero] <;> rfl
                  case hQ38 => exact fun _ _ _ h => h
                  case hg38 => rfl
                  case hy38 => intro W hSw; obtain ⟨s0, s1, s2, s3⟩ := hSw; go_simp; try with_reducible rfl
                  case rest38 =>
                  try simp only [Act.put, List.setIfInBounds_toArray, List.set_cons_zero, List.set_cons_succ]
                  refine HeadW.take (i := 8) (oi := ?oi39) (v := ?v39) ?hi39 (by kernel_rfl) ?hQ39 (Or.inl ⟨?hg39, ?hy39⟩) hH ?rest39
                  case hi39 => simp only [List.getElem?_toArray, List.getElem?_cons_succ, List.getElem?_cons_zero] <;> rfl
                  case hQ39 => exact fun _ _ _ h => h
                  case hg39 => rfl
                  case hy39 => intro W hSw; obtain ⟨s0, s1, s2, s3⟩ := hSw; go_simp; try with_reducible rfl
                  case rest39 =>
                  try simp only [Act.put, List.setIfInBounds_toArray, List.set_cons_zero, List.set_cons_succ]
                  refine HeadW.take (i := 9) (oi := ?oi40) (v := ?v40) ?hi40 (by kernel_rfl) ?hQ40 (Or.inl ⟨?hg40, ?hy40⟩) hH ?rest40
                  case hi40 => simp only [List.getElem?_toArray, List.getElem?_cons_succ, List.getElem?_cons_zero] <;> rfl
                  case hQ40 => exact fun _ _ _ h => h
                  case hg40 => rfl
                  case hy40 => intro W hSw; obtain ⟨s0, s1, s2, s3⟩ := hSw; go_simp; try with_reducible rfl
                  case rest40 =>
                  try simp only [Act.put, List.setIfInBounds_toArray, List.set_cons_zero, List.set_cons_succ]
                  refine HeadW.one (i := 12) (o := ?oi41) ?hi41 (by kernel_rfl) ?st41
                  case hi41 => simp only [List.getElem?_toArray, List.getElem?_cons_succ, List.getElem?_cons_zero] <;> rfl
                  case st41 =>
                  intro K hK
                  obtain ⟨⟨d0, d1⟩, ⟨f0, f1⟩, hltg⟩ := G837.out.two
                  have PF := Lib.hid ((P37.out.off (b := gg8) (o := 0) (by omega) (.int .u64 qh)).off (b := gg8) (o := 1) (by omega) (.int .u64 ql))
                  have YF := Lib.hid ((Y37.out.off (b := gg8) (o := 0) (by omega) (.int .u64 qh)).off (b := gg8) (o := 1) (by omega) (.int .u64 ql))
                  have NF := Lib.hid ((G937.out.off (b := gg8) (o := 0) (by omega) (.int .u64 qh)).off (b := gg8) (o := 1) (by omega) (.int .u64 ql))
                  have BF := Lib.hid (bSt (bSt B37.out (p := ⟨gg8, 0, none⟩) (by show w.heap.size ≤ gg8; omega) (.int .u64 qh)) (p := ⟨gg8, 1, none⟩) (by show w.heap.size ≤ gg8; omega) (.int .u64 ql))
                  have QF := Lib.hid ((G837.out.set0 (.int .u64 qh)).set1 (.int .u64 ql))
                  clear hH
                  have hH : BoxB w.heap.size g7 N D Y (((wn37).setCell ⟨gg8, 0, none⟩ (.int .u64 qh)).setCell ⟨gg8, 1, none⟩ (.int .u64 ql)) := ⟨PF.out.cell 0, PF.out.cell 1, YF.out.cell 0, YF.out.cell 1⟩
                  go_simp
                  try dsimp only
                  refine hK.out _ _ hH ?_
                  clear hK K
                  try simp only [Act.put, List.setIfInBounds_toArray, List.set_cons_zero, List.set_cons_succ]
                  refine HeadW.done (by kernel_rfl) ?_
                  clear d0 d1 f0 f1 hltg hH
                  generalize ((wn37).setCell ⟨gg8, 0, none⟩ (.int .u64 qh)).setCell ⟨gg8, 1, none⟩ (.int .u64 ql) = wf at PF YF NF BF QF ⊢
                  obtain ⟨⟨d0, d1⟩, ⟨f0, f1⟩, hltg⟩ := NF.out.two
                  have HREL := Lib.hid (DD.out gg8 gg9 _ hgt8.1 (bSt (bSt BF.out (p := ⟨gg9, 0, none⟩) (by show w.heap.size ≤ gg9; omega) (.int .u64 0)) (p := ⟨gg9, 1, none⟩) (by show w.heap.size ≤ gg9; omega) (.int .u64 ((X * T % Y : Nat) : Int))) ((PF.out.off (b := gg9) (o := 0) (by omega) _).off (b := gg9) (o := 1) (by omega) _) ((YF.out.off (b := gg9) (o := 0) (by omega) _).off (b := gg9) (o := 1) (by omega) _) qh ql HQW'.out ((QF.out.off (b := gg9) (o := 0) (by omega) _).off (b := gg9) (o := 1) (by omega) _) ((NF.out.set0 _).set1 _))
                  go_wp2_with fail
                  go_meet
                  exact ⟨gg8, gg9, rfl, rfl, HREL.out⟩
          · refine ⟨_, (by simp only [List.getElem?_toArray, List.getElem?_cons_succ, List.getElem?_cons_zero] <;> rfl), ?_⟩
            unfold StepAt
            intro K hK
            go_simp
            have G842 := Lib.hid (Blk.new w3 46 #[.int .u64 0, .int .u64 0])
            have hgt8 : w.heap.size < w3.heap.size ∧ g7 < w3.heap.size := ⟨P3.out.lt, Y3.out.lt⟩
            have P42 := Lib.hid (P3.out.alloc (.cells #[.int .u64 0, .int .u64 0] 46))
            have Y42 := Lib.hid (Y3.out.alloc (.cells #[.int .u64 0, .int .u64 0] 46))
            have B42 := Lib.hid (bAl B3.out (.cells #[.int .u64 0, .int .u64 0] 46))
            generalize w3.alloc (.cells #[.int .u64 0, .int .u64 0] 46) = wn42 at G842 P42 Y42 B42 ⊢
            generalize w3.heap.size = gg8 at G842 hgt8 ⊢
            clear hH P3 Y3 B3
            have hH : BoxB w.heap.size g7 N D Y wn42 := ⟨P42.out.cell 0, P42.out.cell 1, Y42.out.cell 0, Y42.out.cell 1⟩
            try dsimp only
            refine hK.out _ _ hH ?_
            clear hK K
            try simp only [Act.put, List.setIfInBounds_toArray, List.set_cons_zero, List.set_cons_succ]
            refine HeadW.some_ [4, 11] (by kernel_rfl) (fun i hi => ?_)
            simp only [List.mem_cons, List.mem_nil_iff, or_false] at hi
            rcases hi with rfl | rfl
            · refine ⟨_, (by simp only [List.getElem?_toArray, List.getElem?_cons_succ, List.getElem?_cons_zero] <;> rfl), ?_⟩
              unfold StepAt
              intro K hK
              go_simp
              go_at_call 39
              refine (HXT.out _).mono ?_
              rintro e wn43 ⟨th, tl, HTW, rfl, hb⟩
              have HTW' := Lib.hid HTW
              clear HTW
              have P43 := Lib.hid (P42.out.later hb)
              have Y43 := Lib.hid (Y42.out.later hb)
              have B43 := Lib.hid (bTr B42.out hb)
              have G843 := Lib.hid (G842.out.later hb)
              clear hb hH P42 Y42 B42 G842
              have hH : BoxB w.heap.size g7 N D Y wn43 := ⟨P43.out.cell 0, P43.out.cell 1, Y43.out.cell 0, Y43.out.cell 1⟩
              try dsimp only
              refine hK.out _ _ hH ?_
              clear hK K
              try simp only [Act.put, List.setIfInBounds_toArray, List.set_cons_zero, List.set_cons_succ]
              refine HeadW.some_ [6, 11] (by kernel_rfl) (fun i hi => ?_)
              simp only [List.mem_cons, List.mem_nil_iff, or_false] at hi
              rcases hi with rfl | rfl
              · refine ⟨_, (by simp only [List.getElem?_toArray, List.getElem?_cons_succ, List.getElem?_cons_zero] <;> rfl), ?_⟩
                unfold StepAt
                intro K hK
                go_simp
                go_at_call 38
                refine (HDV.out _ _ HTW'.out _).mono ?_
                rintro e wn44 ⟨qh, ql, rh, rl, ⟨HQW, HRW⟩, rfl, hb⟩
                obtain ⟨rfl, rfl⟩ := w2_lowR HRW (by omega)
                have HQW' := Lib.hid HQW
                clear HQW HRW
                have P44 := Lib.hid (P43.out.later hb)
                have Y44 := Lib.hid (Y43.out.later hb)
                have B44 := Lib.hid (bTr B43.out hb)
                have G844 := Lib.hid (G843.out.later hb)
                clear hb hH P43 Y43 B43 G843
                have hH : BoxB w.heap.size g7 N D Y wn44 := ⟨P44.out.cell 0, P44.out.cell 1, Y44.out.cell 0, Y44.out.cell 1⟩
                try dsimp only
                refine hK.out _ _ hH ?_
                clear hK K
                try simp only [Act.put, List.setIfInBounds_toArray, List.set_cons_zero, List.set_cons_succ]
                refine HeadW.take (i := 7) (oi := ?oi45) (v := ?v45) ?hi45 (by kernel_rfl) ?hQ45 (Or.inl ⟨?hg45, ?hy45⟩) hH ?rest45
                case hi45 => simp only [List.getElem?_toArray, List.getElem?_cons_succ, List.getElem?_cons_zero] <;> rfl
                case hQ45 => exact fun _ _ _ h => h
                case hg45 => rfl
                case hy45 => intro W hSw; obtain ⟨s0, s1, s2, s3⟩ := hSw; go_simp; try with_reducible rfl
                case rest45 =>
                try simp only [Act.put, List.setIfInBounds_toArray, List.set_cons_zero, List.set_cons_succ]
                refine HeadW.take (i := 8) (oi := ?oi46) (v := ?v46) ?hi46 (by kernel_rfl) ?hQ46 (Or.inl ⟨?hg46, ?hy46⟩) hH ?rest46
                case hi46 => simp only [List.getElem?_toArray, List.getElem?_cons_succ, List.getElem?_cons_zero] <;> rfl
                case hQ46 => exact fun _ _ _ h => h
                case hg46 => rfl
                case hy46 => intro W hSw; obtain ⟨s0, s1, s2, s3⟩ := hSw; go_simp; try with_reducible rfl
                case rest46 =>
                try simp only [Act.put, List.setIfInBounds_toArray, List.set_cons_zero, List.set_cons_succ]
                refine HeadW.take (i := 9) (oi := ?oi47) (v := ?v47) ?hi47 (by kernel_rfl) ?hQ47 (Or.inl ⟨?hg47, ?hy47⟩) hH ?rest47
                case hi47 => simp only [List.getElem?_toArray, List.getElem?_cons_succ, List.getElem?_cons_zero] <;> rfl
                case hQ47 => exact fun _ _ _ h => h
                case hg47 => rfl
                case hy47 => intro W hSw; obtain ⟨s0, s1, s2, s3⟩ := hSw; go_simp; try with_reducible rfl
                case rest47 =>
                try simp only [Act.put, List.setIfInBounds_toArray, List.set_cons_zero, List.set_cons_succ]
                refine HeadW.some_ [11] (by kernel_rfl) (fun i hi => ?_)
                simp only [List.mem_cons, List.mem_nil_iff, or_false] at hi
                subst hi
                · refine ⟨_, (by simp only [List.getElem?_toArray, List.getElem?_cons_succ, List.getElem?_cons_zero] <;> rfl), ?_⟩
                  unfold StepAt
                  intro K hK
                  go_simp
                  have G948 := Lib.hid (Blk.new wn44 46 #[.int .u64 0, .int .u64 0])
                  have hgt9 : w.heap.size < wn44.heap.size ∧ g7 < wn44.heap.size := ⟨P44.out.lt, Y44.out.lt⟩
                  have hne : gg8 ≠ wn44.heap.size := Nat.ne_of_lt G844.out.lt
                  have P48 := Lib.hid (P44.out.alloc (.cells #[.int .u64 0, .int .u64 0] 46))
                  have Y48 := Lib.hid (Y44.out.alloc (.cells #[.int .u64 0, .int .u64 0] 46))
                  have B48 := Lib.hid (bAl B44.out (.cells #[.int .u64 0, .int .u64 0] 46))
                  have G848 := Lib.hid (G844.out.alloc (.cells #[.int .u64 0, .int .u64 0] 46))
                  generalize wn44.alloc (.cells #[.int .u64 0, .int .u64 0] 46) = wn48 at G948 P48 Y48 B48 G848 ⊢
                  generalize wn44.heap.size = gg9 at G948 hgt9 hne ⊢
                  clear hH P44 Y44 B44 G844
                  have hH : BoxB w.heap.size g7 N D Y wn48 := ⟨P48.out.cell 0, P48.out.cell 1, Y48.out.cell 0, Y48.out.cell 1⟩
                  try dsimp only
                  refine hK.out _ _ hH ?_
                  clear hK K
                  try simp only [Act.put, List.setIfInBounds_toArray, List.set_cons_zero, List.set_cons_succ]
                  refine HeadW.one (i := 12) (o := ?oi49) ?hi49 (by kernel_rfl) ?st49
                  case hi49 => simp only [List.getElem?_toArray, List.getElem?_cons_succ, List.getElem?_cons_zero] <;> rfl
                  case st49 =>
                  intro K hK
                  obtain ⟨⟨d0, d1⟩, ⟨f0, f1⟩, hltg⟩ := G848.out.two
                  have PF := Lib.hid ((P48.out.off (b := gg8) (o := 0) (by omega) (.int .u64 qh)).off (b := gg8) (o := 1) (by omega) (.int .u64 ql))
                  have YF := Lib.hid ((Y48.out.off (b := gg8) (o := 0) (by omega) (.int .u64 qh)).off (b := gg8) (o := 1) (by omega) (.int .u64 ql))
                  have NF := Lib.hid ((G948.out.off (b := gg8) (o := 0) (by omega) (.int .u64 qh)).off (b := gg8) (o := 1) (by omega) (.int .u64 ql))
                  have BF := Lib.hid (bSt (bSt B48.out (p := ⟨gg8, 0, none⟩) (by show w.heap.size ≤ gg8; omega) (.int .u64 qh)) (p := ⟨gg8, 1, none⟩) (by show w.heap.size ≤ gg8; omega) (.int .u64 ql))
                  have QF := Lib.hid ((G848.out.set0 (.int .u64 qh)).set1 (.int .u64 ql))
                  clear hH
                  have hH : BoxB w.heap.size g7 N D Y (((wn48).setCell ⟨gg8, 0, none⟩ (.int .u64 qh)).setCell ⟨gg8, 1, none⟩ (.int .u64 ql)) := ⟨PF.out.cell 0, PF.out.cell 1, YF.out.cell 0, YF.out.cell 1⟩
                  go_simp
                  try dsimp only
                  refine hK.out _ _ hH ?_
                  clear hK K
                  try simp only [Act.put, List.setIfInBounds_toArray, List.set_cons_zero, List.set_cons_succ]
                  refine HeadW.done (by kernel_rfl) ?_
                  clear d0 d1 f0 f1 hltg hH
                  generalize ((wn48).setCell ⟨gg8, 0, none⟩ (.int .u64 qh)).setCell ⟨gg8, 1, none⟩ (.int .u64 ql) = wf at PF YF NF BF QF ⊢
                  obtain ⟨⟨d0, d1⟩, ⟨f0, f1⟩, hltg⟩ := NF.out.two
                  have HREL := Lib.hid (DD.out gg8 gg9 _ hgt8.1 (bSt (bSt BF.out (p := ⟨gg9, 0, none⟩) (by show w.heap.size ≤ gg9; omega) (.int .u64 0)) (p := ⟨gg9, 1, none⟩) (by show w.heap.size ≤ gg9; omega) (.int .u64 ((X * T % Y : Nat) : Int))) ((PF.out.off (b := gg9) (o := 0) (by omega) _).off (b := gg9) (o := 1) (by omega) _) ((YF.out.off (b := gg9) (o := 0) (by omega) _).off (b := gg9) (o := 1) (by omega) _) qh ql HQW'.out ((QF.out.off (b := gg9) (o := 0) (by omega) _).off (b := gg9) (o := 1) (by omega) _) ((NF.out.set0 _).set1 _))
                  go_wp2_with fail
                  go_meet
                  exact ⟨gg8, gg9, rfl, rfl, HREL.out⟩
              · refine ⟨_, (by simp only [List.getElem?_toArray, List.getElem?_cons_succ, List.getElem?_cons_zero] <;> rfl), ?_⟩
                unfold StepAt
                intro K hK
                go_simp
                have G950 := Lib.hid (Blk.new wn43 46 #[.int .u64 0, .int .u64 0])
                have hgt9 : w.heap.size < wn43.heap.size ∧ g7 < wn43.heap.size := ⟨P43.out.lt, Y43.out.lt⟩
                have hne : gg8 ≠ wn43.heap.size := Nat.ne_of_lt G843.out.lt
                have P50 := Lib.hid (P43.out.alloc (.cells #[.int .u64 0, .int .u64 0] 46))
                have Y50 := Lib.hid (Y43.out.alloc (.cells #[.int .u64 0, .int .u64 0] 46))
                have B50 := Lib.hid (bAl B43.out (.cells #[.int .u64 0, .int .u64 0] 46))
                have G850 := Lib.hid (G843.out.alloc (.cells #[.int .u64 0, .int .u64 0] 46))
                generalize wn43.alloc (.cells #[.int .u64 0, .int .u64 0] 46) = wn50 at G950 P50 Y50 B50 G850 ⊢
                generalize wn43.heap.size = gg9 at G950 hgt9 hne ⊢
                clear hH P43 Y43 B43 G843
                have hH : BoxB w.heap.size g7 N D Y wn50 := ⟨P50.out.cell 0, P50.out.cell 1, Y50.out.cell 0, Y50.out.cell 1⟩
                try dsimp only
                refine hK.out _ _ hH ?_
                clear hK K
                try simp only [Act.put, List.setIfInBounds_toArray, List.set_cons_zero, List.set_cons_succ]
                refine HeadW.some_ [6] (by kernel_rfl) (fun i hi => ?_)
                simp only [List.mem_cons, List.mem_nil_iff, or_false] at hi
                subst hi
                · refine ⟨_, (by simp only [List.getElem?_toArray, List.getElem?_cons_succ, List.getElem?_cons_zero] <;> rfl), ?_⟩
                  unfold StepAt
                  intro K hK
                  go_simp
                  go_at_call 38
                  refine (HDV.out _ _ HTW'.out _).mono ?_
                  rintro e wn51 ⟨qh, ql, rh, rl, ⟨HQW, HRW⟩, rfl, hb⟩
                  obtain ⟨rfl, rfl⟩ := w2_lowR HRW (by omega)
                  have HQW' := Lib.hid HQW
                  clear HQW HRW
                  have P51 := Lib.hid (P50.out.later hb)
                  have Y51 := Lib.hid (Y50.out.later hb)
                  have B51 := Lib.hid (bTr B50.out hb)
                  have G851 := Lib.hid (G850.out.later hb)
                  have G951 := Lib.hid (G950.out.later hb)
                  clear hb hH P50 Y50 B50 G850 G950
                  have hH : BoxB w.heap.size g7 N D Y wn51 := ⟨P51.out.cell 0, P51.out.cell 1, Y51.out.cell 0, Y51.out.cell 1⟩
                  try dsimp only
                  refine hK.out _ _ hH ?_
                  clear hK K
                  try simp only [Act.put, List.setIfInBounds_toArray, List.set_cons_zero, List.set_cons_succ]
                  refine HeadW.take (i := 7) (oi := ?oi52) (v := ?v52) ?hi52 (by kernel_rfl) ?hQ52 (Or.inl ⟨?hg52, ?hy52⟩) hH ?rest52
                  case hi52 => simp only [List.getElem?_toArray, List.getElem?_cons_succ, List.getElem?_cons_zero] <;> rfl
                  case hQ52 => exact fun _ _ _ h => h
                  case hg52 => rfl
                  case hy52 => intro W hSw; obtain ⟨s0, s1, s2, s3⟩ := hSw; go_simp; try with_reducible rfl
                  case rest52 =>
                  try simp only [Act.put, List.setIfInBounds_toArray, List.set_cons_zero, List.set_cons_succ]
                  refine HeadW.take (i := 8) (oi := ?oi53) (v := ?v53) ?hi53 (by kernel_rfl) ?hQ53 (Or.inl ⟨?hg53, ?hy53⟩) hH ?rest53
                  case hi53 => simp only [List.getElem?_toArray, List.getElem?_cons_succ, List.getElem?_cons_zero] <;> rfl
                  case hQ53 => exact fun _ _ _ h => h
                  case hg53 => rfl
                  case hy53 => intro W hSw; obtain ⟨s0, s1, s2, s3⟩ := hSw; go_simp; try with_reducible rfl
                  case rest53 =>
                  try simp only [Act.put, List.setIfInBounds_toArray, List.set_cons_zero, List.set_cons_succ]
                  refine HeadW.take (i := 9) (oi := ?oi54) (v := ?v54) ?hi54 (by kernel_rfl) ?hQ54 (Or.inl ⟨?hg54, ?hy54⟩) hH ?rest54
                  case hi54 => simp only [List.getElem?_toArray, List.getElem?_cons_succ, List.getElem?_cons_zero] <;> rfl
                  case hQ54 => exact fun _ _ _ h => h
                  case hg54 => rfl
                  case hy54 => intro W hSw; obtain ⟨s0, s1, s2, s3⟩ := hSw; go_simp; try with_reducible rfl
                  case rest54 =>
                  try simp only [Act.put, List.setIfInBounds_toArray, List.set_cons_zero, List.set_cons_succ]
                  refine HeadW.one (i := 12) (o := ?oi55) ?hi55 (by kernel_rfl) ?st55
                  case hi55 => simp only [List.getElem?_toArray, List.getElem?_cons_succ, List.getElem?_cons_zero] <;> rfl
                  case st55 =>
                  intro K hK
                  obtain ⟨⟨d0, d1⟩, ⟨f0, f1⟩, hltg⟩ := G851.out.two
                  have PF := Lib.hid ((P51.out.off (b := gg8) (o := 0) (by omega) (.int .u64 qh)).off (b := gg8) (o := 1) (by omega) (.int .u64 ql))
                  have YF := Lib.hid ((Y51.out.off (b := gg8) (o := 0) (by omega) (.int .u64 qh)).off (b := gg8) (o := 1) (by omega) (.int .u64 ql))
                  have NF := Lib.hid ((G951.out.off (b := gg8) (o := 0) (by omega) (.int .u64 qh)).off (b := gg8) (o := 1) (by omega) (.int .u64 ql))
                  have BF := Lib.hid (bSt (bSt B51.out (p := ⟨gg8, 0, none⟩) (by show w.heap.size ≤ gg8; omega) (.int .u64 qh)) (p := ⟨gg8, 1, none⟩) (by show w.heap.size ≤ gg8; omega) (.int .u64 ql))
                  have QF := Lib.hid ((G851.out.set0 (.int .u64 qh)).set1 (.int .u64 ql))
                  clear hH
                  have hH : BoxB w.heap.size g7 N D Y (((wn51).setCell ⟨gg8, 0, none⟩ (.int .u64 qh)).setCell ⟨gg8, 1, none⟩ (.int .u64 ql)) := ⟨PF.out.cell 0, PF.out.cell 1, YF.out.cell 0, YF.out.cell 1⟩
                  go_simp
                  try dsimp only
                  refine hK.out _ _ hH ?_
                  clear hK K
                  try simp only [Act.put, List.setIfInBounds_toArray, List.set_cons_zero, List.set_cons_succ]
                  refine HeadW.done (by kernel_rfl) ?_
                  clear d0 d1 f0 f1 hltg hH
                  generalize ((wn51).setCell ⟨gg8, 0, none⟩ (.int .u64 qh)).setCell ⟨gg8, 1, none⟩ (.int .u64 ql) = wf at PF YF NF BF QF ⊢
                  obtain ⟨⟨d0, d1⟩, ⟨f0, f1⟩, hltg⟩ := NF.out.two
                  have HREL := Lib.hid (DD.out gg8 gg9 _ hgt8.1 (bSt (bSt BF.out (p := ⟨gg9, 0, none⟩) (by show w.heap.size ≤ gg9; omega) (.int .u64 0)) (p := ⟨gg9, 1, none⟩) (by show w.heap.size ≤ gg9; omega) (.int .u64 ((X * T % Y : Nat) : Int))) ((PF.out.off (b := gg9) (o := 0) (by omega) _).off (b := gg9) (o := 1) (by omega) _) ((YF.out.off (b := gg9) (o := 0) (by omega) _).off (b := gg9) (o := 1) (by omega) _) qh ql HQW'.out ((QF.out.off (b := gg9) (o := 0) (by omega) _).off (b := gg9) (o := 1) (by omega) _) ((NF.out.set0 _).set1 _))
                  go_wp2_with fail
                  go_meet
                  exact ⟨gg8, gg9, rfl, rfl, HREL.out⟩
            · refine ⟨_, (by simp only [List.getElem?_toArray, List.getElem?_cons_succ, List.getElem?_cons_zero] <;> rfl), ?_⟩
              unfold StepAt
              intro K hK
              go_simp
              have G956 := Lib.hid (Blk.new wn42 46 #[.int .u64 0, .int .u64 0])
              have hgt9 : w.heap.size < wn42.heap.size ∧ g7 < wn42.heap.size := ⟨P42.out.lt, Y42.out.lt⟩
              have hne : gg8 ≠ wn42.heap.size := Nat.ne_of_lt G842.out.lt
              have P56 := Lib.hid (P42.out.alloc (.cells #[.int .u64 0, .int .u64 0] 46))
              have Y56 := Lib.hid (Y42.out.alloc (.cells #[.int .u64 0, .int .u64 0] 46))
              have B56 := Lib.hid (bAl B42.out (.cells #[.int .u64 0, .int .u64 0] 46))
              have G856 := Lib.hid (G842.out.alloc (.cells #[.int .u64 0, .int .u64 0] 46))
              generalize wn42.alloc (.cells #[.int .u64 0, .int .u64 0] 46) = wn56 at G956 P56 Y56 B56 G856 ⊢
              generalize wn42.heap.size = gg9 at G956 hgt9 hne ⊢
              clear hH P42 Y42 B42 G842
              have hH : BoxB w.heap.size g7 N D Y wn56 := ⟨P56.out.cell 0, P56.out.cell 1, Y56.out.cell 0, Y56.out.cell 1⟩
              try dsimp only
              refine hK.out _ _ hH ?_
              clear hK K
              try simp only [Act.put, List.setIfInBounds_toArray, List.set_cons_zero, List.set_cons_succ]
              refine HeadW.some_ [4] (by kernel_rfl) (fun i hi => ?_)
              simp only [List.mem_cons, List.mem_nil_iff, or_false] at hi
              subst hi
              · refine ⟨_, (by simp only [List.getElem?_toArray, List.getElem?_cons_succ, List.getElem?_cons_zero] <;> rfl), ?_⟩
                unfold StepAt
                intro K hK
                go_simp
                go_at_call 39
                refine (HXT.out _).mono ?_
                rintro e wn57 ⟨th, tl, HTW, rfl, hb⟩
                have HTW' := Lib.hid HTW
                clear HTW
                have P57 := Lib.hid (P56.out.later hb)
                have Y57 := Lib.hid (Y56.out.later hb)
                have B57 := Lib.hid (bTr B56.out hb)
                have G857 := Lib.hid (G856.out.later hb)
                have G957 := Lib.hid (G956.out.later hb)
                clear hb hH P56 Y56 B56 G856 G956
                have hH : BoxB w.heap.size g7 N D Y wn57 := ⟨P57.out.cell 0, P57.out.cell 1, Y57.out.cell 0, Y57.out.cell 1⟩
                try dsimp only
                refine hK.out _ _ hH ?_
                clear hK K
                try simp only [Act.put, List.setIfInBounds_toArray, List.set_cons_zero, List.set_cons_succ]
                refine HeadW.some_ [6] (by kernel_rfl) (fun i hi => ?_)
                simp only [List.mem_cons, List.mem_nil_iff, or_false] at hi
                subst hi
                · refine ⟨_, (by simp only [List.getElem?_toArray, List.getElem?_cons_succ, List.getElem?_cons_zero] <;> rfl), ?_⟩
                  unfold StepAt
                  intro K hK
                  go_simp
                  go_at_call 38
                  refine (HDV.out _ _ HTW'.out _).mono ?_
                  rintro e wn58 ⟨qh, ql, rh, rl, ⟨HQW, HRW⟩, rfl, hb⟩
                  obtain ⟨rfl, rfl⟩ := w2_lowR HRW (by omega)
                  have HQW' := Lib.hid HQW
                  clear HQW HRW
                  have P58 := Lib.hid (P57.out.later hb)
                  have Y58 := Lib.hid (Y57.out.later hb)
                  have B58 := Lib.hid (bTr B57.out hb)
                  have G858 := Lib.hid (G857.out.later hb)
                  have G958 := Lib.hid (G957.out.later hb)
                  clear hb hH P57 Y57 B57 G857 G957
                  have hH : BoxB w.heap.size g7 N D Y wn58 := ⟨P58.out.cell 0, P58.out.cell 1, Y58.out.cell 0, Y58.out.cell 1⟩
                  try dsimp only
                  refine hK.out _ _ hH ?_
                  clear hK K
                  try simp only [Act.put, List.setIfInBounds_toArray, List.set_cons_zero, List.set_cons_succ]
                  refine HeadW.take (i := 7) (oi := ?oi59) (v := ?v59) ?hi59 (by kernel_rfl) ?hQ59 (Or.inl ⟨?hg59, ?hy59⟩) hH ?rest59
                  case hi59 => simp only [List.getElem?_toArray, List.getElem?_cons_succ, List.getElem?_cons_zero] <;> rfl
                  case hQ59 => exact fun _ _ _ h => h
                  case hg59 => rfl
                  case hy59 => intro W hSw; obtain ⟨s0, s1, s2, s3⟩ := hSw; go_simp; try with_reducible rfl
                  case rest59 =>
                  try simp only [Act.put, List.setIfInBounds_toArray, List.set_cons_zero, List.set_cons_succ]
                  refine HeadW.take (i := 8) (oi := ?oi60) (v := ?v60) ?hi60 (by kernel_rfl) ?hQ60 (Or.inl ⟨?hg60, ?hy60⟩) hH ?rest60
                  case hi60 => simp only [List.getElem?_toArray, List.getElem?_cons_succ, List.getElem?_cons_zero] <;> rfl
                  case hQ60 => exact fun _ _ _ h => h
                  case hg60 => rfl
                  case hy60 => intro W hSw; obtain ⟨s0, s1, s2, s3⟩ := hSw; go_simp; try with_reducible rfl
                  case rest60 =>
                  try simp only [Act.put, List.setIfInBounds_toArray, List.set_cons_zero, List.set_cons_succ]
                  refine HeadW.take (i := 9) (oi := ?oi61) (v := ?v61) ?hi61 (by kernel_rfl) ?hQ61 (Or.inl ⟨?hg61, ?hy61⟩) hH ?rest61
                  case hi61 => simp only [List.getElem?_toArray, List.getElem?_cons_succ, List.getElem?_cons_zero] <;> rfl
                  case hQ61 => exact fun _ _ _ h => h
                  case hg61 => rfl
                  case hy61 => intro W hSw; obtain ⟨s0, s1, s2, s3⟩ := hSw; go_simp; try with_reducible rfl
                  case rest61 =>
                  try simp only [Act.put, List.setIfInBounds_toArray, List.set_cons_zero, List.set_cons_succ]
                  refine HeadW.one (i := 12) (o := ?oi62) ?hi62 (by kernel_rfl) ?st62
                  case hi62 => simp only [List.getElem?_toArray, List.getElem?_cons_succ, List.getElem?_cons_zero] <;> rfl
                  case st62 =>
                  intro K hK
                  obtain ⟨⟨d0, d1⟩, ⟨f0, f1⟩, hltg⟩ := G858.out.two
                  have PF := Lib.hid ((P58.out.off (b := gg8) (o := 0) (by omega) (.int .u64 qh)).off (b := gg8) (o := 1) (by omega) (.int .u64 ql))
                  have YF := Lib.hid ((Y58.out.off (b := gg8) (o := 0) (by omega) (.int .u64 qh)).off (b := gg8) (o := 1) (by omega) (.int .u64 ql))
                  have NF := Lib.hid ((G958.out.off (b := gg8) (o := 0) (by omega) (.int .u64 qh)).off (b := gg8) (o := 1) (by omega) (.int .u64 ql))
                  have BF := Lib.hid (bSt (bSt B58.out (p := ⟨gg8, 0, none⟩) (by show w.heap.size ≤ gg8; omega) (.int .u64 qh)) (p := ⟨gg8, 1, none⟩) (by show w.heap.size ≤ gg8; omega) (.int .u64 ql))
                  have QF := Lib.hid ((G858.out.set0 (.int .u64 qh)).set1 (.int .u64 ql))
                  clear hH
                  have hH : BoxB w.heap.size g7 N D Y (((wn58).setCell ⟨gg8, 0, none⟩ (.int .u64 qh)).setCell ⟨gg8, 1, none⟩ (.int .u64 ql)) := ⟨PF.out.cell 0, PF.out.cell 1, YF.out.cell 0, YF.out.cell 1⟩
                  go_simp
                  try dsimp only
                  refine hK.out _ _ hH ?_
                  clear hK K
                  try simp only [Act.put, List.setIfInBounds_toArray, List.set_cons_zero, List.set_cons_succ]
                  refine HeadW.done (by kernel_rfl) ?_
                  clear d0 d1 f0 f1 hltg hH
                  generalize ((wn58).setCell ⟨gg8, 0, none⟩ (.int .u64 qh)).setCell ⟨gg8, 1, none⟩ (.int .u64 ql) = wf at PF YF NF BF QF ⊢
                  obtain ⟨⟨d0, d1⟩, ⟨f0, f1⟩, hltg⟩ := NF.out.two
                  have HREL := Lib.hid (DD.out gg8 gg9 _ hgt8.1 (bSt (bSt BF.out (p := ⟨gg9, 0, none⟩) (by show w.heap.size ≤ gg9; omega) (.int .u64 0)) (p := ⟨gg9, 1, none⟩) (by show w.heap.size ≤ gg9; omega) (.int .u64 ((X * T % Y : Nat) : Int))) ((PF.out.off (b := gg9) (o := 0) (by omega) _).off (b := gg9) (o := 1) (by omega) _) ((YF.out.off (b := gg9) (o := 0) (by omega) _).off (b := gg9) (o := 1) (by omega) _) qh ql HQW'.out ((QF.out.off (b := gg9) (o := 0) (by omega) _).off (b := gg9) (o := 1) (by omega) _) ((NF.out.set0 _).set1 _))
                  go_wp2_with fail
                  go_meet
                  exact ⟨gg8, gg9, rfl, rfl, HREL.out⟩
          · refine ⟨_, (by simp only [List.getElem?_toArray, List.getElem?_cons_succ, List.getElem?_cons_zero] <;> rfl), ?_⟩
            unfold StepAt
            intro K hK
            go_simp
            have G963 := Lib.hid (Blk.new w3 46 #[.int .u64 0, .int .u64 0])
            have hgt9 : w.heap.size < w3.heap.size ∧ g7 < w3.heap.size := ⟨P3.out.lt, Y3.out.lt⟩
            have P63 := Lib.hid (P3.out.alloc (.cells #[.int .u64 0, .int .u64 0] 46))
            have Y63 := Lib.hid (Y3.out.alloc (.cells #[.int .u64 0, .int .u64 0] 46))
            have B63 := Lib.hid (bAl B3.out (.cells #[.int .u64 0, .int .u64 0] 46))
            generalize w3.alloc (.cells #[.int .u64 0, .int .u64 0] 46) = wn63 at G963 P63 Y63 B63 ⊢
            generalize w3.heap.size = gg9 at G963 hgt9 ⊢
            clear hH P3 Y3 B3
            have hH : BoxB w.heap.size g7 N D Y wn63 := ⟨P63.out.cell 0, P63.out.cell 1, Y63.out.cell 0, Y63.out.cell 1⟩
            try dsimp only
            refine hK.out _ _ hH ?_
            clear hK K
            try simp only [Act.put, List.setIfInBounds_toArray, List.set_cons_zero, List.set_cons_succ]
            refine HeadW.some_ [4, 10] (by kernel_rfl) (fun i hi => ?_)
            simp only [List.mem_cons, List.mem_nil_iff, or_false] at hi
            rcases hi with rfl | rfl
            · refine ⟨_, (by simp only [List.getElem?_toArray, List.getElem?_cons_succ, List.getElem?_cons_zero] <;> rfl), ?_⟩
              unfold StepAt
              intro K hK
              go_simp
              go_at_call 39
              refine (HXT.out _).mono ?_
              rintro e wn64 ⟨th, tl, HTW, rfl, hb⟩
              have HTW' := Lib.hid HTW
              clear HTW
              have P64 := Lib.hid (P63.out.later hb)
              have Y64 := Lib.hid (Y63.out.later hb)
              have B64 := Lib.hid (bTr B63.out hb)
              have G964 := Lib.hid (G963.out.later hb)
              clear hb hH P63 Y63 B63 G963
              have hH : BoxB w.heap.size g7 N D Y wn64 := ⟨P64.out.cell 0, P64.out.cell 1, Y64.out.cell 0, Y64.out.cell 1⟩
              try dsimp only
              refine hK.out _ _ hH ?_
              clear hK K
              try simp only [Act.put, List.setIfInBounds_toArray, List.set_cons_zero, List.set_cons_succ]
              refine HeadW.some_ [6, 10] (by kernel_rfl) (fun i hi => ?_)
              simp only [List.mem_cons, List.mem_nil_iff, or_false] at hi
              rcases hi with rfl | rfl
              · refine ⟨_, (by simp only [List.getElem?_toArray, List.getElem?_cons_succ, List.getElem?_cons_zero] <;> rfl), ?_⟩
                unfold StepAt
                intro K hK
                go_simp
                go_at_call 38
                refine (HDV.out _ _ HTW'.out _).mono ?_
                rintro e wn65 ⟨qh, ql, rh, rl, ⟨HQW, HRW⟩, rfl, hb⟩
                obtain ⟨rfl, rfl⟩ := w2_lowR HRW (by omega)
                have HQW' := Lib.hid HQW
                clear HQW HRW
                have P65 := Lib.hid (P64.out.later hb)
                have Y65 := Lib.hid (Y64.out.later hb)
                have B65 := Lib.hid (bTr B64.out hb)
                have G965 := Lib.hid (G964.out.later hb)
                clear hb hH P64 Y64 B64 G964
                have hH : BoxB w.heap.size g7 N D Y wn65 := ⟨P65.out.cell 0, P65.out.cell 1, Y65.out.cell 0, Y65.out.cell 1⟩
                try dsimp only
                refine hK.out _ _ hH ?_
                clear hK K
                try simp only [Act.put, List.setIfInBounds_toArray, List.set_cons_zero, List.set_cons_succ]
                refine HeadW.take (i := 7) (oi := ?oi66) (v := ?v66) ?hi66 (by kernel_rfl) ?hQ66 (Or.inl ⟨?hg66, ?hy66⟩) hH ?rest66
                case hi66 => simp only [List.getElem?_toArray, List.getElem?_cons_succ, List.getElem?_cons_zero] <;> rfl
                case hQ66 => exact fun _ _ _ h => h
                case hg66 => rfl
                case hy66 => intro W hSw; obtain ⟨s0, s1, s2, s3⟩ := hSw; go_simp; try with_reducible rfl
                case rest66 =>
                try simp only [Act.put, List.setIfInBounds_toArray, List.set_cons_zero, List.set_cons_succ]
                refine HeadW.take (i := 8) (oi := ?oi67) (v := ?v67) ?hi67 (by kernel_rfl) ?hQ67 (Or.inl ⟨?hg67, ?hy67⟩) hH ?rest67
                case hi67 => simp only [List.getElem?_toArray, List.getElem?_cons_succ, List.getElem?_cons_zero] <;> rfl
                case hQ67 => exact fun _ _ _ h => h
                case hg67 => rfl
                case hy67 => intro W hSw; obtain ⟨s0, s1, s2, s3⟩ := hSw; go_simp; try with_reducible rfl
                case rest67 =>
                try simp only [Act.put, List.setIfInBounds_toArray, List.set_cons_zero, List.set_cons_succ]
                refine HeadW.take (i := 9) (oi := ?oi68) (v := ?v68) ?hi68 (by kernel_rfl) ?hQ68 (Or.inl ⟨?hg68, ?hy68⟩) hH ?rest68
                case hi68 => simp only [List.getElem?_toArray, List.getElem?_cons_succ, List.getElem?_cons_zero] <;> rfl
                case hQ68 => exact fun _ _ _ h => h
                case hg68 => rfl
                case hy68 => intro W hSw; obtain ⟨s0, s1, s2, s3⟩ := hSw; go_simp; try with_reducible rfl
                case rest68 =>
                try simp only [Act.put, List.setIfInBounds_toArray, List.set_cons_zero, List.set_cons_succ]
                refine HeadW.some_ [10] (by kernel_rfl) (fun i hi => ?_)
                simp only [List.mem_cons, List.mem_nil_iff, or_false] at hi
                subst hi
                · refine ⟨_, (by simp only [List.getElem?_toArray, List.getElem?_cons_succ, List.getElem?_cons_zero] <;> rfl), ?_⟩
                  unfold StepAt
                  intro K hK
                  go_simp
                  have G869 := Lib.hid (Blk.new wn65 46 #[.int .u64 0, .int .u64 0])
                  have hgt8 : w.heap.size < wn65.heap.size ∧ g7 < wn65.heap.size := ⟨P65.out.lt, Y65.out.lt⟩
                  have hne : gg9 ≠ wn65.heap.size := Nat.ne_of_lt G965.out.lt
                  have P69 := Lib.hid (P65.out.alloc (.cells #[.int .u64 0, .int .u64 0] 46))
                  have Y69 := Lib.hid (Y65.out.alloc (.cells #[.int .u64 0, .int .u64 0] 46))
                  have B69 := Lib.hid (bAl B65.out (.cells #[.int .u64 0, .int .u64 0] 46))
                  have G969 := Lib.hid (G965.out.alloc (.cells #[.int .u64 0, .int .u64 0] 46))
                  generalize wn65.alloc (.cells #[.int .u64 0, .int .u64 0] 46) = wn69 at G869 P69 Y69 B69 G969 ⊢
                  generalize wn65.heap.size = gg8 at G869 hgt8 hne ⊢
                  clear hH P65 Y65 B65 G965
                  have hH : BoxB w.heap.size g7 N D Y wn69 := ⟨P69.out.cell 0, P69.out.cell 1, Y69.out.cell 0, Y69.out.cell 1⟩
                  try dsimp only
                  refine hK.out _ _ hH ?_
                  clear hK K
                  try simp only [Act.put, List.setIfInBounds_toArray, List.set_cons_zero, List.set_cons_succ]
                  refine HeadW.one (i := 12) (o := ?oi70) ?hi70 (by kernel_rfl) ?st70
                  case hi70 => simp only [List.getElem?_toArray, List.getElem?_cons_succ, List.getElem?_cons_zero] <;> rfl
                  case st70 =>
                  intro K hK
                  obtain ⟨⟨d0, d1⟩, ⟨f0, f1⟩, hltg⟩ := G869.out.two
                  have PF := Lib.hid ((P69.out.off (b := gg8) (o := 0) (by omega) (.int .u64 qh)).off (b := gg8) (o := 1) (by omega) (.int .u64 ql))
                  have YF := Lib.hid ((Y69.out.off (b := gg8) (o := 0) (by omega) (.int .u64 qh)).off (b := gg8) (o := 1) (by omega) (.int .u64 ql))
                  have NF := Lib.hid ((G969.out.off (b := gg8) (o := 0) (by omega) (.int .u64 qh)).off (b := gg8) (o := 1) (by omega) (.int .u64 ql))
                  have BF := Lib.hid (bSt (bSt B69.out (p := ⟨gg8, 0, none⟩) (by show w.heap.size ≤ gg8; omega) (.int .u64 qh)) (p := ⟨gg8, 1, none⟩) (by show w.heap.size ≤ gg8; omega) (.int .u64 ql))
                  have QF := Lib.hid ((G869.out.set0 (.int .u64 qh)).set1 (.int .u64 ql))
                  clear hH
                  have hH : BoxB w.heap.size g7 N D Y (((wn69).setCell ⟨gg8, 0, none⟩ (.int .u64 qh)).setCell ⟨gg8, 1, none⟩ (.int .u64 ql)) := ⟨PF.out.cell 0, PF.out.cell 1, YF.out.cell 0, YF.out.cell 1⟩
                  go_simp
                  try dsimp only
                  refine hK.out _ _ hH ?_
                  clear hK K
                  try simp only [Act.put, List.setIfInBounds_toArray, List.set_cons_zero, List.set_cons_succ]
                  refine HeadW.done (by kernel_rfl) ?_
                  clear d0 d1 f0 f1 hltg hH
                  generalize ((wn69).setCell ⟨gg8, 0, none⟩ (.int .u64 qh)).setCell ⟨gg8, 1, none⟩ (.int .u64 ql) = wf at PF YF NF BF QF ⊢
                  obtain ⟨⟨d0, d1⟩, ⟨f0, f1⟩, hltg⟩ := NF.out.two
                  have HREL := Lib.hid (DD.out gg8 gg9 _ hgt8.1 (bSt (bSt BF.out (p := ⟨gg9, 0, none⟩) (by show w.heap.size ≤ gg9; omega) (.int .u64 0)) (p := ⟨gg9, 1, none⟩) (by show w.heap.size ≤ gg9; omega) (.int .u64 ((X * T % Y : Nat) : Int))) ((PF.out.off (b := gg9) (o := 0) (by omega) _).off (b := gg9) (o := 1) (by omega) _) ((YF.out.off (b := gg9) (o := 0) (by omega) _).off (b := gg9) (o := 1) (by omega) _) qh ql HQW'.out ((QF.out.off (b := gg9) (o := 0) (by omega) _).off (b := gg9) (o := 1) (by omega) _) ((NF.out.set0 _).set1 _))
                  go_wp2_with fail
                  go_meet
                  exact ⟨gg8, gg9, rfl, rfl, HREL.out⟩
              · refine ⟨_, (by simp only [List.getElem?_toArray, List.getElem?_cons_succ, List.getElem?_cons_zero] <;> rfl), ?_⟩
                unfold StepAt
                intro K hK
                go_simp
                have G871 := Lib.hid (Blk.new wn64 46 #[.int .u64 0, .int .u64 0])
                have hgt8 : w.heap.size < wn64.heap.size ∧ g7 < wn64.heap.size := ⟨P64.out.lt, Y64.out.lt⟩
                have hne : gg9 ≠ wn64.heap.size := Nat.ne_of_lt G964.out.lt
                have P71 := Lib.hid (P64.out.alloc (.cells #[.int .u64 0, .int .u64 0] 46))
                have Y71 := Lib.hid (Y64.out.alloc (.cells #[.int .u64 0, .int .u64 0] 46))
                have B71 := Lib.hid (bAl B64.out (.cells #[.int .u64 0, .int .u64 0] 46))
                have G971 := Lib.hid (G964.out.alloc (.cells #[.int .u64 0, .int .u64 0] 46))
                generalize wn64.alloc (.cells #[.int .u64 0, .int .u64 0] 46) = wn71 at G871 P71 Y71 B71 G971 ⊢
                generalize wn64.heap.size = gg8 at G871 hgt8 hne ⊢
                clear hH P64 Y64 B64 G964
                have hH : BoxB w.heap.size g7 N D Y wn71 := ⟨P71.out.cell 0, P71.out.cell 1, Y71.out.cell 0, Y71.out.cell 1⟩
                try dsimp only
                refine hK.out _ _ hH ?_
                clear hK K
                try simp only [Act.put, List.setIfInBounds_toArray, List.set_cons_zero, List.set_cons_succ]
                refine HeadW.some_ [6] (by kernel_rfl) (fun i hi => ?_)
                simp only [List.mem_cons, List.mem_nil_iff, or_false] at hi
                subst hi
                · refine ⟨_, (by simp only [List.getElem?_toArray, List.getElem?_cons_succ, List.getElem?_cons_zero] <;> rfl), ?_⟩
                  unfold StepAt
                  intro K hK
                  go_simp
                  go_at_call 38
                  refine (HDV.out _ _ HTW'.out _).mono ?_
                  rintro e wn72 ⟨qh, ql, rh, rl, ⟨HQW, HRW⟩, rfl, hb⟩
                  obtain ⟨rfl, rfl⟩ := w2_lowR HRW (by omega)
                  have HQW' := Lib.hid HQW
                  clear HQW HRW
                  have P72 := Lib.hid (P71.out.later hb)
                  have Y72 := Lib.hid (Y71.out.later hb)
                  have B72 := Lib.hid (bTr B71.out hb)
                  have G872 := Lib.hid (G871.out.later hb)
                  have G972 := Lib.hid (G971.out.later hb)
                  clear hb hH P71 Y71 B71 G871 G971
                  have hH : BoxB w.heap.size g7 N D Y wn72 := ⟨P72.out.cell 0, P72.out.cell 1, Y72.out.cell 0, Y72.out.cell 1⟩
                  try dsimp only
                  refine hK.out _ _ hH ?_
                  clear hK K
                  try simp only [Act.put, List.setIfInBounds_toArray, List.set_cons_zero, List.set_cons_succ]
                  refine HeadW.take (i := 7) (oi := ?oi73) (v := ?v73) ?hi73 (by kernel_rfl) ?hQ73 (Or.inl ⟨?hg73, ?hy73⟩) hH ?rest73
                  case hi73 => simp only [List.getElem?_toArray, List.getElem?_cons_succ, List.getElem?_cons_zero] <;> rfl
                  case hQ73 => exact fun _ _ _ h => h
                  case hg73 => rfl
                  case hy73 => intro W hSw; obtain ⟨s0, s1, s2, s3⟩ := hSw; go_simp; try with_reducible rfl
                  case rest73 =>
                  try simp only [Act.put, List.setIfInBounds_toArray, List.set_cons_zero, List.set_cons_succ]
                  refine HeadW.take (i := 8) (oi := ?oi74) (v := ?v74) ?hi74 (by kernel_rfl) ?hQ74 (Or.inl ⟨?hg74, ?hy74⟩) hH ?rest74
                  case hi74 => simp only [List.getElem?_toArray, List.getElem?_cons_succ, List.getElem?_cons_zero] <;> rfl
                  case hQ74 => exact fun _ _ _ h => h
                  case hg74 => rfl
                  case hy74 => intro W hSw; obtain ⟨s0, s1, s2, s3⟩ := hSw; go_simp; try with_reducible rfl
                  case rest74 =>
                  try simp only [Act.put, List.setIfInBounds_toArray, List.set_cons_zero, List.set_cons_succ]
                  refine HeadW.take (i := 9) (oi := ?oi75) (v := ?v75) ?hi75 (by kernel_rfl) ?hQ75 (Or.inl ⟨?hg75, ?hy75⟩) hH ?rest75
                  case hi75 => simp only [List.getElem?_toArray, List.getElem?_cons_succ, List.getElem?_cons_zero] <;> rfl
                  case hQ75 => exact fun _ _ _ h => h
                  case hg75 => rfl
                  case hy75 => intro W hSw; obtain ⟨s0, s1, s2, s3⟩ := hSw; go_simp; try with_reducible rfl
                  case rest75 =>
                  try simp only [Act.put, List.setIfInBounds_toArray, List.set_cons_zero, List.set_cons_succ]
                  refine HeadW.one (i := 12) (o := ?oi76) ?hi76 (by kernel_rfl) ?st76
                  case hi76 => simp only [List.getElem?_toArray, List.getElem?_cons_succ, List.getElem?_cons_zero] <;> rfl
                  case st76 =>
                  intro K hK
                  obtain ⟨⟨d0, d1⟩, ⟨f0, f1⟩, hltg⟩ := G872.out.two
                  have PF := Lib.hid ((P72.out.off (b := gg8) (o := 0) (by omega) (.int .u64 qh)).off (b := gg8) (o := 1) (by omega) (.int .u64 ql))
                  have YF := Lib.hid ((Y72.out.off (b := gg8) (o := 0) (by omega) (.int .u64 qh)).off (b := gg8) (o := 1) (by omega) (.int .u64 ql))
                  have NF := Lib.hid ((G972.out.off (b := gg8) (o := 0) (by omega) (.int .u64 qh)).off (b := gg8) (o := 1) (by omega) (.int .u64 ql))
                  have BF := Lib.hid (bSt (bSt B72.out (p := ⟨gg8, 0, none⟩) (by show w.heap.size ≤ gg8; omega) (.int .u64 qh)) (p := ⟨gg8, 1, none⟩) (by show w.heap.size ≤ gg8; omega) (.int .u64 ql))
                  have QF := Lib.hid ((G872.out.set0 (.int .u64 qh)).set1 (.int .u64 ql))
                  clear hH
                  have hH : BoxB w.heap.size g7 N D Y (((wn72).setCell ⟨gg8, 0, none⟩ (.int .u64 qh)).setCell ⟨gg8, 1, none⟩ (.int .u64 ql)) := ⟨PF.out.cell 0, PF.out.cell 1, YF.out.cell 0, YF.out.cell 1⟩
                  go_simp
                  try dsimp only
                  refine hK.out _ _ hH ?_
                  clear hK K
                  try simp only [Act.put, List.setIfInBounds_toArray, List.set_cons_zero, List.set_cons_succ]
                  refine HeadW.done (by kernel_rfl) ?_
                  clear d0 d1 f0 f1 hltg hH
                  generalize ((wn72).setCell ⟨gg8, 0, none⟩ (.int .u64 qh)).setCell ⟨gg8, 1, none⟩ (.int .u64 ql) = wf at PF YF NF BF QF ⊢
                  obtain ⟨⟨d0, d1⟩, ⟨f0, f1⟩, hltg⟩ := NF.out.two
                  have HREL := Lib.hid (DD.out gg8 gg9 _ hgt8.1 (bSt (bSt BF.out (p := ⟨gg9, 0, none⟩) (by show w.heap.size ≤ gg9; omega) (.int .u64 0)) (p := ⟨gg9, 1, none⟩) (by show w.heap.size ≤ gg9; omega) (.int .u64 ((X * T % Y : Nat) : Int))) ((PF.out.off (b := gg9) (o := 0) (by omega) _).off (b := gg9) (o := 1) (by omega) _) ((YF.out.off (b := gg9) (o := 0) (by omega) _).off (b := gg9) (o := 1) (by omega) _) qh ql HQW'.out ((QF.out.off (b := gg9) (o := 0) (by omega) _).off (b := gg9) (o := 1) (by omega) _) ((NF.out.set0 _).set1 _))
                  go_wp2_with fail
                  go_meet
                  exact ⟨gg8, gg9, rfl, rfl, HREL.out⟩
            · refine ⟨_, (by simp only [List.getElem?_toArray, List.getElem?_cons_succ, List.getElem?_cons_zero] <;> rfl), ?_⟩
              unfold StepAt
              intro K hK
              go_simp
              have G877 := Lib.hid (Blk.new wn63 46 #[.int .u64 0, .int .u64 0])
              have hgt8 : w.heap.size < wn63.heap.size ∧ g7 < wn63.heap.size := ⟨P63.out.lt, Y63.out.lt⟩
              have hne : gg9 ≠ wn63.heap.size := Nat.ne_of_lt G963.out.lt
              have P77 := Lib.hid (P63.out.alloc (.cells #[.int .u64 0, .int .u64 0] 46))
              have Y77 := Lib.hid (Y63.out.alloc (.cells #[.int .u64 0, .int .u64 0] 46))
              have B77 := Lib.hid (bAl B63.out (.cells #[.int .u64 0, .int .u64 0] 46))
              have G977 := Lib.hid (G963.out.alloc (.cells #[.int .u64 0, .int .u64 0] 46))
              generalize wn63.alloc (.cells #[.int .u64 0, .int .u64 0] 46) = wn77 at G877 P77 Y77 B77 G977 ⊢
              generalize wn63.heap.size = gg8 at G877 hgt8 hne ⊢
              clear hH P63 Y63 B63 G963
              have hH : BoxB w.heap.size g7 N D Y wn77 := ⟨P77.out.cell 0, P77.out.cell 1, Y77.out.cell 0, Y77.out.cell 1⟩
              try dsimp only
              refine hK.out _ _ hH ?_
              clear hK K
              try simp only [Act.put, List.setIfInBounds_toArray, List.set_cons_zero, List.set_cons_succ]
              refine HeadW.some_ [4] (by kernel_rfl) (fun i hi => ?_)
              simp only [List.mem_cons, List.mem_nil_iff, or_false] at hi
              subst hi
              · refine ⟨_, (by simp only [List.getElem?_toArray, List.getElem?_cons_succ, List.getElem?_cons_zero] <;> rfl), ?_⟩
                unfold StepAt
                intro K hK
                go_simp
                go_at_call 39
                refine (HXT.out _).mono ?_
                rintro e wn78 ⟨th, tl, HTW, rfl, hb⟩
                have HTW' := Lib.hid HTW
                clear HTW
                have P78 := Lib.hid (P77.out.later hb)
                have Y78 := Lib.hid (Y77.out.later hb)
                have B78 := Lib.hid (bTr B77.out hb)
                have G878 := Lib.hid (G877.out.later hb)
                have G978 := Lib.hid (G977.out.later hb)
                clear hb hH P77 Y77 B77 G877 G977
                have hH : BoxB w.heap.size g7 N D Y wn78 := ⟨P78.out.cell 0, P78.out.cell 1, Y78.out.cell 0, Y78.out.cell 1⟩
                try dsimp only
                refine hK.out _ _ hH ?_
                clear hK K
                try simp only [Act.put, List.setIfInBounds_toArray, List.set_cons_zero, List.set_cons_succ]
                refine HeadW.some_ [6] (by kernel_rfl) (fun i hi => ?_)
                simp only [List.mem_cons, List.mem_nil_iff, or_false] at hi
                subst hi
                · refine ⟨_, (by simp only [List.getElem?_toArray, List.getElem?_cons_succ, List.getElem?_cons_zero] <;> rfl), ?_⟩
                  unfold StepAt
                  intro K hK
                  go_simp
                  go_at_call 38
                  refine (HDV.out _ _ HTW'.out _).mono ?_
                  rintro e wn79 ⟨qh, ql, rh, rl, ⟨HQW, HRW⟩, rfl, hb⟩
                  obtain ⟨rfl, rfl⟩ := w2_lowR HRW (by omega)
                  have HQW' := Lib.hid HQW
                  clear HQW HRW
                  have P79 := Lib.hid (P78.out.later hb)
                  have Y79 := Lib.hid (Y78.out.later hb)
                  have B79 := Lib.hid (bTr B78.out hb)
                  have G879 := Lib.hid (G878.out.later hb)
                  have G979 := Lib.hid (G978.out.later hb)
                  clear hb hH P78 Y78 B78 G878 G978
                  have hH : BoxB w.heap.size g7 N D Y wn79 := ⟨P79.out.cell 0, P79.out.cell 1, Y79.out.cell 0, Y79.out.cell 1⟩
                  try dsimp only
                  refine hK.out _ _ hH ?_
                  clear hK K
                  try simp only [Act.put, List.setIfInBounds_toArray, List.set_cons_zero, List.set_cons_succ]
                  refine HeadW.take (i := 7) (oi := ?oi80) (v := ?v80) ?hi80 (by kernel_rfl) ?hQ80 (Or.inl ⟨?hg80, ?hy80⟩) hH ?rest80
                  case hi80 => simp only [List.getElem?_toArray, List.getElem?_cons_succ, List.getElem?_cons_zero] <;> rfl
                  case hQ80 => exact fun _ _ _ h => h
                  case hg80 => rfl
                  case hy80 => intro W hSw; obtain ⟨s0, s1, s2, s3⟩ := hSw; go_simp; try with_reducible rfl
                  case rest80 =>
                  try simp only [Act.put, List.setIfInBounds_toArray, List.set_cons_zero, List.set_cons_succ]
                  refine HeadW.take (i := 8) (oi := ?oi81) (v := ?v81) ?hi81 (by kernel_rfl) ?hQ81 (Or.inl ⟨?hg81, ?hy81⟩) hH ?rest81
                  case hi81 => simp only [List.getElem?_toArray, List.getElem?_cons_succ, List.getElem?_cons_zero] <;> rfl
                  case hQ81 => exact fun _ _ _ h => h
                  case hg81 => rfl
                  case hy81 => intro W hSw; obtain ⟨s0, s1, s2, s3⟩ := hSw; go_simp; try with_reducible rfl
                  case rest81 =>
                  try simp only [Act.put, List.setIfInBounds_toArray, List.set_cons_zero, List.set_cons_succ]
                  refine HeadW.take (i := 9) (oi := ?oi82) (v := ?v82) ?hi82 (by kernel_rfl) ?hQ82 (Or.inl ⟨?hg82, ?hy82⟩) hH ?rest82
                  case hi82 => simp only [List.getElem?_toArray, List.getElem?_cons_succ, List.getElem?_cons_zero] <;> rfl
                  case hQ82 => exact fun _ _ _ h => h
                  case hg82 => rfl
                  case hy82 => intro W hSw; obtain ⟨s0, s1, s2, s3⟩ := hSw; go_simp; try with_reducible rfl
                  case rest82 =>
                  try simp only [Act.put, List.setIfInBounds_toArray, List.set_cons_zero, List.set_cons_succ]
                  refine HeadW.one (i := 12) (o := ?oi83) ?hi83 (by kernel_rfl) ?st83
                  case hi83 => simp only [List.getElem?_toArray, List.getElem?_cons_succ, List.getElem?_cons_zero] <;> rfl
                  case st83 =>
                  intro K hK
                  obtain ⟨⟨d0, d1⟩, ⟨f0, f1⟩, hltg⟩ := G879.out.two
                  have PF := Lib.hid ((P79.out.off (b := gg8) (o := 0) (by omega) (.int .u64 qh)).off (b := gg8) (o := 1) (by omega) (.int .u64 ql))
                  have YF := Lib.hid ((Y79.out.off (b := gg8) (o := 0) (by omega) (.int .u64 qh)).off (b := gg8) (o := 1) (by omega) (.int .u64 ql))
                  have NF := Lib.hid ((G979.out.off (b := gg8) (o := 0) (by omega) (.int .u64 qh)).off (b := gg8) (o := 1) (by omega) (.int .u64 ql))
                  have BF := Lib.hid (bSt (bSt B79.out (p := ⟨gg8, 0, none⟩) (by show w.heap.size ≤ gg8; omega) (.int .u64 qh)) (p := ⟨gg8, 1, none⟩) (by show w.heap.size ≤ gg8; omega) (.int .u64 ql))
                  have QF := Lib.hid ((G879.out.set0 (.int .u64 qh)).set1 (.int .u64 ql))
                  clear hH
                  have hH : BoxB w.heap.size g7 N D Y (((wn79).setCell ⟨gg8, 0, none⟩ (.int .u64 qh)).setCell ⟨gg8, 1, none⟩ (.int .u64 ql)) := ⟨PF.out.cell 0, PF.out.cell 1, YF.out.cell 0, YF.out.cell 1⟩
                  go_simp
                  try dsimp only
                  refine hK.out _ _ hH ?_
                  clear hK K
                  try simp only [Act.put, List.setIfInBounds_toArray, List.set_cons_zero, List.set_cons_succ]
                  refine HeadW.done (by kernel_rfl) ?_
                  clear d0 d1 f0 f1 hltg hH
                  generalize ((wn79).setCell ⟨gg8, 0, none⟩ (.int .u64 qh)).setCell ⟨gg8, 1, none⟩ (.int .u64 ql) = wf at PF YF NF BF QF ⊢
                  obtain ⟨⟨d0, d1⟩, ⟨f0, f1⟩, hltg⟩ := NF.out.two
                  have HREL := Lib.hid (DD.out gg8 gg9 _ hgt8.1 (bSt (bSt BF.out (p := ⟨gg9, 0, none⟩) (by show w.heap.size ≤ gg9; omega) (.int .u64 0)) (p := ⟨gg9, 1, none⟩) (by show w.heap.size ≤ gg9; omega) (.int .u64 ((X * T % Y : Nat) : Int))) ((PF.out.off (b := gg9) (o := 0) (by omega) _).off (b := gg9) (o := 1) (by omega) _) ((YF.out.off (b := gg9) (o := 0) (by omega) _).off (b := gg9) (o := 1) (by omega) _) qh ql HQW'.out ((QF.out.off (b := gg9) (o := 0) (by omega) _).off (b := gg9) (o := 1) (by omega) _) ((NF.out.set0 _).set1 _))
                  go_wp2_with fail
                  go_meet
                  exact ⟨gg8, gg9, rfl, rfl, HREL.out⟩
        · refine ⟨_, (by simp only [List.getElem?_toArray, List.getElem?_cons_succ, List.getElem?_cons_zero] <;> rfl), ?_⟩
          unfold StepAt
          intro K hK
          go_simp
          have G884 := Lib.hid (Blk.new w3 46 #[.int .u64 0, .int .u64 0])
          have hgt8 : w.heap.size < w3.heap.size ∧ g7 < w3.heap.size := ⟨P3.out.lt, Y3.out.lt⟩
          have P84 := Lib.hid (P3.out.alloc (.cells #[.int .u64 0, .int .u64 0] 46))
          have Y84 := Lib.hid (Y3.out.alloc (.cells #[.int .u64 0, .int .u64 0] 46))
          have B84 := Lib.hid (bAl B3.out (.cells #[.int .u64 0, .int .u64 0] 46))
          generalize w3.alloc (.cells #[.int .u64 0, .int .u64 0] 46) = wn84 at G884 P84 Y84 B84 ⊢
          generalize w3.heap.size = gg8 at G884 hgt8 ⊢
          clear hH P3 Y3 B3
          have hH : BoxB w.heap.size g7 N D Y wn84 := ⟨P84.out.cell 0, P84.out.cell 1, Y84.out.cell 0, Y84.out.cell 1⟩
          try dsimp only
          refine hK.out _ _ hH ?_
          clear hK K
          try simp only [Act.put, List.setIfInBounds_toArray, List.set_cons_zero, List.set_cons_succ]
          refine HeadW.some_ [2, 11] (by kernel_rfl) (fun i hi => ?_)
          simp only [List.mem_cons, List.mem_nil_iff, or_false] at hi
          rcases hi with rfl | rfl
          · refine ⟨_, (by simp only [List.getElem?_toArray, List.getElem?_cons_succ, List.getElem?_cons_zero] <;> rfl), ?_⟩
            unfold StepAt
            intro K hK
            go_simp
            go_at_call 22
            refine (HSN.out _).mono ?_
            rintro e wz ⟨rfl, hw⟩
            obtain rfl := hw
            try dsimp only
            refine hK.out _ _ hH ?_
            clear hK K
            try simp only [Act.put, List.setIfInBounds_toArray, List.set_cons_zero, List.set_cons_succ]
            refine HeadW.some_ [4, 11] (by kernel_rfl) (fun i hi => ?_)
            simp only [List.mem_cons, List.mem_nil_iff, or_false] at hi
            rcases hi with rfl | rfl
            · refine ⟨_, (by simp only [List.getElem?_toArray, List.getElem?_cons_succ, List.getElem?_cons_zero] <;> rfl), ?_⟩
              unfold StepAt
              intro K hK
              go_simp
              go_at_call 39
              refine (HXT.out _).mono ?_
              rintro e wn85 ⟨th, tl, HTW, rfl, hb⟩
              have HTW' := Lib.hid HTW
              clear HTW
              have P85 := Lib.hid (P84.out.later hb)
              have Y85 := Lib.hid (Y84.out.later hb)
              have B85 := Lib.hid (bTr B84.out hb)
              have G885 := Lib.hid (G884.out.later hb)
              clear hb hH P84 Y84 B84 G884
              have hH : BoxB w.heap.size g7 N D Y wn85 := ⟨P85.out.cell 0, P85.out.cell 1, Y85.out.cell 0, Y85.out.cell 1⟩
              try dsimp only
              refine hK.out _ _ hH ?_
              clear hK K
              try simp only [Act.put, List.setIfInBounds_toArray, List.set_cons_zero, List.set_cons_succ]
              refine HeadW.some_ [6, 11] (by kernel_rfl) (fun i hi => ?_)
              simp only [List.mem_cons, List.mem_nil_iff, or_false] at hi
              rcases hi with rfl | rfl
              · refine ⟨_, (by simp only [List.getElem?_toArray, List.getElem?_cons_succ, List.getElem?_cons_zero] <;> rfl), ?_⟩
                unfold StepAt
                intro K hK
                go_simp
                go_at_call 38
                refine (HDV.out _ _ HTW'.out _).mono ?_
                rintro e wn86 ⟨qh, ql, rh, rl, ⟨HQW, HRW⟩, rfl, hb⟩
                obtain ⟨rfl, rfl⟩ := w2_lowR HRW (by omega)
                have HQW' := Lib.hid HQW
                clear HQW HRW
                have P86 := Lib.hid (P85.out.later hb)
                have Y86 := Lib.hid (Y85.out.later hb)
                have B86 := Lib.hid (bTr B85.out hb)
                have G886 := Lib.hid (G885.out.later hb)
                clear hb hH P85 Y85 B85 G885
                have hH : BoxB w.heap.size g7 N D Y wn86 := ⟨P86.out.cell 0, P86.out.cell 1, Y86.out.cell 0, Y86.out.cell 1⟩
                try dsimp only
                refine hK.out _ _ hH ?_
                clear hK K
                try simp only [Act.put, List.setIfInBounds_toArray, List.set_cons_zero, List.set_cons_succ]
                refine HeadW.take (i := 7) (oi := ?oi87) (v := ?v87) ?hi87 (by kernel_rfl) ?hQ87 (Or.inl ⟨?hg87, ?hy87⟩) hH ?rest87
                case hi87 => simp only [List.getElem?_toArray, List.getElem?_cons_succ, List.getElem?_cons_zero] <;> rfl
                case hQ87 => exact fun _ _ _ h => h
                case hg87 => rfl
                case hy87 => intro W hSw; obtain ⟨s0, s1, s2, s3⟩ := hSw; go_simp; try with_reducible rfl
                case rest87 =>
                try simp only [Act.put, List.setIfInBounds_toArray, List.set_cons_zero, List.set_cons_succ]
                refine HeadW.take (i := 8) (oi := ?oi88) (v := ?v88) ?hi88 (by kernel_rfl) ?hQ88 (Or.inl ⟨?hg88, ?hy88⟩) hH ?rest88
                case hi88 => simp only [List.getElem?_toArray, List.getElem?_cons_succ, List.getElem?_cons_zero] <;> rfl
                case hQ88 => exact fun _ _ _ h => h
                case hg88 => rfl
                case hy88 => intro W hSw; obtain ⟨s0, s1, s2, s3⟩ := hSw; go_simp; try with_reducible rfl
                case rest88 =>
                try simp only [Act.put, List.setIfInBounds_toArray, List.set_cons_zero, List.set_cons_succ]
                refine HeadW.take (i := 9) (oi := ?oi89) (v := ?v89) ?hi89 (by kernel_rfl) ?hQ89 (Or.inl ⟨?hg89, ?hy89⟩) hH ?rest89
                case hi89 => simp only [List.getElem?_toArray, List.getElem?_cons_succ, List.getElem?_cons_zero] <;> rfl
                case hQ89 => exact fun _ _ _ h => h
                case hg89 => rfl
                case hy89 => intro W hSw; obtain ⟨s0, s1, s2, s3⟩ := hSw; go_simp; try with_reducible rfl
                case rest89 =>
                try simp only [Act.put, List.setIfInBounds_toArray, List.set_cons_zero, List.set_cons_succ]
                refine HeadW.some_ [11] (by kernel_rfl) (fun i hi => ?_)
                simp only [List.mem_cons, List.mem_nil_iff, or_false] at hi
                subst hi
                · refine ⟨_, (by simp only [List.getElem?_toArray, List.getElem?_cons_succ, List.getElem?_cons_zero] <;> rfl), ?_⟩
                  unfold StepAt
                  intro K hK
                  go_simp
                  have G990 := Lib.hid (Blk.new wn86 46 #[.int .u64 0, .int .u64 0])
                  have hgt9 : w.heap.size < wn86.heap.size ∧ g7 < wn86.heap.size := ⟨P86.out.lt, Y86.out.lt⟩
                  have hne : gg8 ≠ wn86.heap.size := Nat.ne_of_lt G886.out.lt
                  have P90 := Lib.hid (P86.out.alloc (.cells #[.int .u64 0, .int .u64 0] 46))
                  have Y90 := Lib.hid (Y86.out.alloc (.cells #[.int .u64 0, .int .u64 0] 46))
                  have B90 := Lib.hid (bAl B86.out (.cells #[.int .u64 0, .int .u64 0] 46))
                  have G890 := Lib.hid (G886.out.alloc (.cells #[.int .u64 0, .int .u64 0] 46))
                  generalize wn86.alloc (.cells #[.int .u64 0, .int .u64 0] 46) = wn90 at G990 P90 Y90 B90 G890 ⊢
                  generalize wn86.heap.size = gg9 at G990 hgt9 hne ⊢
                  clear hH P86 Y86 B86 G886
                  have hH : BoxB w.heap.size g7 N D Y wn90 := ⟨P90.out.cell 0, P90.out.cell 1, Y90.out.cell 0, Y90.out.cell 1⟩
                  try dsimp only
                  refine hK.out _ _ hH ?_
                  clear hK K
                  try simp only [Act.put, List.setIfInBounds_toArray, List.set_cons_zero, List.set_cons_succ]
                  refine HeadW.one (i := 12) (o := ?oi91) ?hi91 (by kernel_rfl) ?st91
                  case hi91 => simp only [List.getElem?_toArray, List.getElem?_cons_succ, List.getElem?_cons_zero] <;> rfl
                  case st91 =>
                  intro K hK
                  obtain ⟨⟨d0, d1⟩, ⟨f0, f1⟩, hltg⟩ := G890.out.two
                  have PF := Lib.hid ((P90.out.off (b := gg8) (o := 0) (by omega) (.int .u64 qh)).off (b := gg8) (o := 1) (by omega) (.int .u64 ql))
                  have YF := Lib.hid ((Y90.out.off (b := gg8) (o := 0) (by omega) (.int .u64 qh)).off (b := gg8) (o := 1) (by omega) (.int .u64 ql))
                  have NF := Lib.hid ((G990.out.off (b := gg8) (o := 0) (by omega) (.int .u64 qh)).off (b := gg8) (o := 1) (by omega) (.int .u64 ql))
                  have BF := Lib.hid (bSt (bSt B90.out (p := ⟨gg8, 0, none⟩) (by show w.heap.size ≤ gg8; omega) (.int .u64 qh)) (p := ⟨gg8, 1, none⟩) (by show w.heap.size ≤ gg8; omega) (.int .u64 ql))
                  have QF := Lib.hid ((G890.out.set0 (.int .u64 qh)).set1 (.int .u64 ql))
                  clear hH
                  have hH : BoxB w.heap.size g7 N D Y (((wn90).setCell ⟨gg8, 0, none⟩ (.int .u64 qh)).setCell ⟨gg8, 1, none⟩ (.int .u64 ql)) := ⟨PF.out.cell 0, PF.out.cell 1, YF.out.cell 0, YF.out.cell 1⟩
                  go_simp
                  try dsimp only
                  refine hK.out _ _ hH ?_
                  clear hK K
                  try simp only [Act.put, List.setIfInBounds_toArray, List.set_cons_zero, List.set_cons_succ]
                  refine HeadW.done (by kernel_rfl) ?_
                  clear d0 d1 f0 f1 hltg hH
                  generalize ((wn90).setCell ⟨gg8, 0, none⟩ (.int .u64 qh)).setCell ⟨gg8, 1, none⟩ (.int .u64 ql) = wf at PF YF NF BF QF ⊢
                  obtain ⟨⟨d0, d1⟩, ⟨f0, f1⟩, hltg⟩ := NF.out.two
                  have HREL := Lib.hid (DD.out gg8 gg9 _ hgt8.1 (bSt (bSt BF.out (p := ⟨gg9, 0, none⟩) (by show w.heap.size ≤ gg9; omega) (.int .u64 0)) (p := ⟨gg9, 1, none⟩) (by show w.heap.size ≤ gg9; omega) (.int .u64 ((X * T % Y : Nat) : Int))) ((PF.out.off (b := gg9) (o := 0) (by omega) _).off (b := gg9) (o := 1) (by omega) _) ((YF.out.off (b := gg9) (o := 0) (by omega) _).off (b := gg9) (o := 1) (by omega) _) qh ql HQW'.out ((QF.out.off (b := gg9) (o := 0) (by omega) _).off (b := gg9) (o := 1) (by omega) _) ((NF.out.set0 _).set1 _))
                  go_wp2_with fail
                  go_meet
                  exact ⟨gg8, gg9, rfl, rfl, HREL.out⟩
              · refine ⟨_, (by simp only [List.getElem?_toArray, List.getElem?_cons_succ, List.getElem?_cons_zero] <;> rfl), ?_⟩
                unfold StepAt
                intro K hK
                go_simp
                have G992 := Lib.hid (Blk.new wn85 46 #[.int .u64 0, .int .u64 0])
                have hgt9 : w.heap.size < wn85.heap.size ∧ g7 < wn85.heap.size := ⟨P85.out.lt, Y85.out.lt⟩
                have hne : gg8 ≠ wn85.heap.size := Nat.ne_of_lt G885.out.lt
                have P92 := Lib.hid (P85.out.alloc (.cells #[.int .u64 0, .int .u64 0] 46))
                have Y92 := Lib.hid (Y85.out.alloc (.cells #[.int .u64 0, .int .u64 0] 46))
                have B92 := Lib.hid (bAl B85.out (.cells #[.int .u64 0, .int .u64 0] 46))
                have G892 := Lib.hid (G885.out.alloc (.cells #[.int .u64 0, .int .u64 0] 46))
                generalize wn85.alloc (.cells #[.int .u64 0, .int .u64 0] 46) = wn92 at G992 P92 Y92 B92 G892 ⊢
                generalize wn85.heap.size = gg9 at G992 hgt9 hne ⊢
                clear hH P85 Y85 B85 G885
                have hH : BoxB w.heap.size g7 N D Y wn92 := ⟨P92.out.cell 0, P92.out.cell 1, Y92.out.cell 0, Y92.out.cell 1⟩
                try dsimp only
                refine hK.out _ _ hH ?_
                clear hK K
                try simp only [Act.put, List.setIfInBounds_toArray, List.set_cons_zero, List.set_cons_succ]
                refine HeadW.some_ [6] (by kernel_rfl) (fun i hi => ?_)
                simp only [List.mem_cons, List.mem_nil_iff, or_false] at hi
                subst hi
                · refine ⟨_, (by simp only [List.getElem?_toArray, List.getElem?_cons_succ, List.getElem?_cons_zero] <;> rfl), ?_⟩
                  unfold StepAt
                  intro K hK
                  go_simp
                  go_at_call 38
                  refine (HDV.out _ _ HTW'.out _).mono ?_
                  rintro e wn93 ⟨qh, ql, rh, rl, ⟨HQW, HRW⟩, rfl, hb⟩
                  obtain ⟨rfl, rfl⟩ := w2_lowR HRW (by omega)
                  have HQW' := Lib.hid HQW
                  clear HQW HRW
                  have P93 := Lib.hid (P92.out.later hb)
                  have Y93 := Lib.hid (Y92.out.later hb)
                  have B93 := Lib.hid (bTr B92.out hb)
                  have G893 := Lib.hid (G892.out.later hb)
                  have G993 := Lib.hid (G992.out.later hb)
                  clear hb hH P92 Y92 B92 G892 G992
                  have hH : BoxB w.heap.size g7 N D Y wn93 := ⟨P93.out.cell 0, P93.out.cell 1, Y93.out.cell 0, Y93.out.cell 1⟩
                  try dsimp only
                  refine hK.out _ _ hH ?_
                  clear hK K
                  try simp only [Act.put, List.setIfInBounds_toArray, List.set_cons_zero, List.set_cons_succ]
                  refine HeadW.take (i := 7) (oi := ?oi94) (v := ?v94) ?hi94 (by kernel_rfl) ?hQ94 (Or.inl ⟨?hg94, ?hy94⟩) hH ?rest94
                  case hi94 => simp only [List.getElem?_toArray, List.getElem?_cons_succ, List.getElem?_cons_zero] <;> rfl
                  case hQ94 => exact fun _ _ _ h => h
                  case hg94 => rfl
                  case hy94 => intro W hSw; obtain ⟨s0, s1, s2, s3⟩ := hSw; go_simp; try with_reducible rfl
                  case rest94 =>
                  try simp only [Act.put, List.setIfInBounds_toArray, List.set_cons_zero, List.set_cons_succ]
                  refine HeadW.take (i := 8) (oi := ?oi95) (v := ?v95) ?hi95 (by kernel_rfl) ?hQ95 (Or.inl ⟨?hg95, ?hy95⟩) hH ?rest95
                  case hi95 => simp only [List.getElem?_toArray, List.getElem?_cons_succ, List.getElem?_cons_zero] <;> rfl
                  case hQ95 => exact fun _ _ _ h => h
                  case hg95 => rfl
                  case hy95 => intro W hSw; obtain ⟨s0, s1, s2, s3⟩ := hSw; go_simp; try with_reducible rfl
                  case rest95 =>
                  try simp only [Act.put, List.setIfInBounds_toArray, List.set_cons_zero, List.set_cons_succ]
                  refine HeadW.take (i := 9) (oi := ?oi96) (v := ?v96) ?hi96 (by kernel_rfl) ?hQ96 (Or.inl ⟨?hg96, ?hy96⟩) hH ?rest96
                  case hi96 => simp only [List.getElem?_toArray, List.getElem?_cons_succ, List.getElem?_cons_zero] <;> rfl
                  case hQ96 => exact fun _ _ _ h => h
                  case hg96 => rfl
                  case hy96 => intro W hSw; obtain ⟨s0, s1, s2, s3⟩ := hSw; go_simp; try with_reducible rfl
                  case rest96 =>
                  try simp only [Act.put, List.setIfInBounds_toArray, List.set_cons_zero, List.set_cons_succ]
                  refine HeadW.one (i := 12) (o := ?oi97) ?hi97 (by kernel_rfl) ?st97
                  case hi97 => simp only [List.getElem?_toArray, List.getElem?_cons_succ, List.getElem?_cons_zero] <;> rfl
                  case st97 =>
                  intro K hK
                  obtain ⟨⟨d0, d1⟩, ⟨f0, f1⟩, hltg⟩ := G893.out.two
                  have PF := Lib.hid ((P93.out.off (b := gg8) (o := 0) (by omega) (.int .u64 qh)).off (b := gg8) (o := 1) (by omega) (.int .u64 ql))
                  have YF := Lib.hid ((Y93.out.off (b := gg8) (o := 0) (by omega) (.int .u64 qh)).off (b := gg8) (o := 1) (by omega) (.int .u64 ql))
                  have NF := Lib.hid ((G993.out.off (b := gg8) (o := 0) (by omega) (.int .u64 qh)).off (b := gg8) (o := 1) (by omega) (.int .u64 ql))
                  have BF := Lib.hid (bSt (bSt B93.out (p := ⟨gg8, 0, none⟩) (by show w.heap.size ≤ gg8; omega) (.int .u64 qh)) (p := ⟨gg8, 1, none⟩) (by show w.heap.size ≤ gg8; omega) (.int .u64 ql))
                  have QF := Lib.hid ((G893.out.set0 (.int .u64 qh)).set1 (.int .u64 ql))
                  clear hH
                  have hH : BoxB w.heap.size g7 N D Y (((wn93).setCell ⟨gg8, 0, none⟩ (.int .u64 qh)).setCell ⟨gg8, 1, none⟩ (.int .u64 ql)) := ⟨PF.out.cell 0, PF.out.cell 1, YF.out.cell 0, YF.out.cell 1⟩
                  go_simp
                  try dsimp only
                  refine hK.out _ _ hH ?_
                  clear hK K
                  try simp only [Act.put, List.setIfInBounds_toArray, List.set_cons_zero, List.set_cons_succ]
                  refine HeadW.done (by kernel_rfl) ?_
                  clear d0 d1 f0 f1 hltg hH
                  generalize ((wn93).setCell ⟨gg8, 0, none⟩ (.int .u64 qh)).setCell ⟨gg8, 1, none⟩ (.int .u64 ql) = wf at PF YF NF BF QF ⊢
                  obtain ⟨⟨d0, d1⟩, ⟨f0, f1⟩, hltg⟩ := NF.out.two
                  have HREL := Lib.hid (DD.out gg8 gg9 _ hgt8.1 (bSt (bSt BF.out (p := ⟨gg9, 0, none⟩) (by show w.heap.size ≤ gg9; omega) (.int .u64 0)) (p := ⟨gg9, 1, none⟩) (by show w.heap.size ≤ gg9; omega) (.int .u64 ((X * T % Y : Nat) : Int))) ((PF.out.off (b := gg9) (o := 0) (by omega) _).off (b := gg9) (o := 1) (by omega) _) ((YF.out.off (b := gg9) (o := 0) (by omega) _).off (b := gg9) (o := 1) (by omega) _) qh ql HQW'.out ((QF.out.off (b := gg9) (o := 0) (by omega) _).off (b := gg9) (o := 1) (by omega) _) ((NF.out.set0 _).set1 _))
                  go_wp2_with fail
                  go_meet
                  exact ⟨gg8, gg9, rfl, rfl, HREL.out⟩
            · refine ⟨_, (by simp only [List.getElem?_toArray, List.getElem?_cons_succ, List.getElem?_cons_zero] <;> rfl), ?_⟩
              unfold StepAt
              intro K hK
              go_simp
              have G998 := Lib.hid (Blk.new wn84 46 #[.int .u64 0, .int .u64 0])
              have hgt9 : w.heap.size < wn84.heap.size ∧ g7 < wn84.heap.size := ⟨P84.out.lt, Y84.out.lt⟩
              have hne : gg8 ≠ wn84.heap.size := Nat.ne_of_lt G884.out.lt
              have P98 := Lib.hid (P84.out.alloc (.cells #[.int .u64 0, .int .u64 0] 46))
              have Y98 := Lib.hid (Y84.out.alloc (.cells #[.int .u64 0, .int .u64 0] 46))
              have B98 := Lib.hid (bAl B84.out (.cells #[.int .u64 0, .int .u64 0] 46))
              have G898 := Lib.hid (G884.out.alloc (.cells #[.int .u64 0, .int .u64 0] 46))
              generalize wn84.alloc (.cells #[.int .u64 0, .int .u64 0] 46) = wn98 at G998 P98 Y98 B98 G898 ⊢
              generalize wn84.heap.size = gg9 at G998 hgt9 hne ⊢
              clear hH P84 Y84 B84 G884
              have hH : BoxB w.heap.size g7 N D Y wn98 := ⟨P98.out.cell 0, P98.out.cell 1, Y98.out.cell 0, Y98.out.cell 1⟩
              try dsimp only
              refine hK.out _ _ hH ?_
              clear hK K
              try simp only [Act.put, List.setIfInBounds_toArray, List.set_cons_zero, List.set_cons_succ]
              refine HeadW.some_ [4] (by kernel_rfl) (fun i hi => ?_)
              simp only [List.mem_cons, List.mem_nil_iff, or_false] at hi
              subst hi
              · refine ⟨_, (by simp only [List.getElem?_toArray, List.getElem?_cons_succ, List.getElem?_cons_zero] <;> rfl), ?_⟩
                unfold StepAt
                intro K hK
                go_simp
                go_at_call 39
                refine (HXT.out _).mono ?_
                rintro e wn99 ⟨th, tl, HTW, rfl, hb⟩
                have HTW' := Lib.hid HTW
                clear HTW
                have P99 := Lib.hid (P98.out.later hb)
                have Y99 := Lib.hid (Y98.out.later hb)
                have B99 := Lib.hid (bTr B98.out hb)
                have G899 := Lib.hid (G898.out.later hb)
                have G999 := Lib.hid (G998.out.later hb)
                clear hb hH P98 Y98 B98 G898 G998
                have hH : BoxB w.heap.size g7 N D Y wn99 := ⟨P99.out.cell 0, P99.out.cell 1, Y99.out.cell 0, Y99.out.cell 1⟩
                try dsimp only
                refine hK.out _ _ hH ?_
                clear hK K
                try simp only [Act.put, List.setIfInBounds_toArray, List.set_cons_zero, List.set_cons_succ]
                refine HeadW.some_ [6] (by kernel_rfl) (fun i hi => ?_)
                simp only [List.mem_cons, List.mem_nil_iff, or_false] at hi
                subst hi
                · refine ⟨_, (by simp only [List.getElem?_toArray, List.getElem?_cons_succ, List.getElem?_cons_zero] <;> rfl), ?_⟩
                  unfold StepAt
                  intro K hK
                  go_simp
                  go_at_call 38
                  refine (HDV.out _ _ HTW'.out _).mono ?_
                  rintro e wn100 ⟨qh, ql, rh, rl, ⟨HQW, HRW⟩, rfl, hb⟩
                  obtain ⟨rfl, rfl⟩ := w2_lowR HRW (by omega)
                  have HQW' := Lib.hid HQW
                  clear HQW HRW
                  have P100 := Lib.hid (P99.out.later hb)
                  have Y100 := Lib.hid (Y99.out.later hb)
                  have B100 := Lib.hid (bTr B99.out hb)
                  have G8100 := Lib.hid (G899.out.later hb)
                  have G9100 := Lib.hid (G999.out.later hb)
                  clear hb hH P99 Y99 B99 G899 G999
                  have hH : BoxB w.heap.size g7 N D Y wn100 := ⟨P100.out.cell 0, P100.out.cell 1, Y100.out.cell 0, Y100.out.cell 1⟩
                  try dsimp only
                  refine hK.out _ _ hH ?_
                  clear hK K
                  try simp only [Act.put, List.setIfInBounds_toArray, List.set_cons_zero, List.set_cons_succ]
                  refine HeadW.take (i := 7) (oi := ?oi101) (v := ?v101) ?hi101 (by kernel_rfl) ?hQ101 (Or.inl ⟨?hg101, ?hy101⟩) hH ?rest101
                  case hi101 => simp only [List.getElem?_toArray, List.getElem?_cons_succ, List.getElem?_cons_zero] <;> rfl
                  case hQ101 => exact fun _ _ _ h => h
                  case hg101 => rfl
                  case hy101 => intro W hSw; obtain ⟨s0, s1, s2, s3⟩ := hSw; go_simp; try with_reducible rfl
                  case rest101 =>
                  try simp only [Act.put, List.setIfInBounds_toArray, List.set_cons_zero, List.set_cons_succ]
                  refine HeadW.take (i := 8) (oi := ?oi102) (v := ?v102) ?hi102 (by kernel_rfl) ?hQ102 (Or.inl ⟨?hg102, ?hy102⟩) hH ?rest102
                  case hi102 => simp only [List.getElem?_toArray, List.getElem?_cons_succ, List.getElem?_cons_zero] <;> rfl
                  case hQ102 => exact fun _ _ _ h => h
                  case hg102 => rfl
                  case hy102 => intro W hSw; obtain ⟨s0, s1, s2, s3⟩ := hSw; go_simp; try with_reducible rfl
                  case rest102 =>
                  try simp only [Act.put, List.setIfInBounds_toArray, List.set_cons_zero, List.set_cons_succ]
                  refine HeadW.take (i := 9) (oi := ?oi103) (v := ?v103) ?hi103 (by kernel_rfl) ?hQ103 (Or.inl ⟨?hg103, ?hy103⟩) hH ?rest103
                  case hi103 => simp only [List.getElem?_toArray, List.getElem?_cons_succ, List.getElem?_cons_zero] <;> rfl
                  case hQ103 => exact fun _ _ _ h => h
                  case hg103 => rfl
                  case hy103 => intro W hSw; obtain ⟨s0, s1, s2, s3⟩ := hSw; go_simp; try with_reducible rfl
                  case rest103 =>
                  try simp only [Act.put, List.setIfInBounds_toArray, List.set_cons_zero, List.set_cons_succ]
                  refine HeadW.one (i := 12) (o := ?oi104) ?hi104 (by kernel_rfl) ?st104
                  case hi104 => simp only [List.getElem?_toArray, List.getElem?_cons_succ, List.getElem?_cons_zero] <;> rfl
                  case st104 =>
                  intro K hK
                  obtain ⟨⟨d0, d1⟩, ⟨f0, f1⟩, hltg⟩ := G8100.out.two
                  have PF := Lib.hid ((P100.out.off (b := gg8) (o := 0) (by omega) (.int .u64 qh)).off (b := gg8) (o := 1) (by omega) (.int .u64 ql))
                  have YF := Lib.hid ((Y100.out.off (b := gg8) (o := 0) (by omega) (.int .u64 qh)).off (b := gg8) (o := 1) (by omega) (.int .u64 ql))
                  have NF := Lib.hid ((G9100.out.off (b := gg8) (o := 0) (by omega) (.int .u64 qh)).off (b := gg8) (o := 1) (by omega) (.int .u64 ql))
                  have BF := Lib.hid (bSt (bSt B100.out (p := ⟨gg8, 0, none⟩) (by show w.heap.size ≤ gg8; omega) (.int .u64 qh)) (p := ⟨gg8, 1, none⟩) (by show w.heap.size ≤ gg8; omega) (.int .u64 ql))
                  have QF := Lib.hid ((G8100.out.set0 (.int .u64 qh)).set1 (.int .u64 ql))
                  clear hH
                  have hH : BoxB w.heap.size g7 N D Y (((wn100).setCell ⟨gg8, 0, none⟩ (.int .u64 qh)).setCell ⟨gg8, 1, none⟩ (.int .u64 ql)) := ⟨PF.out.cell 0, PF.out.cell 1, YF.out.cell 0, YF.out.cell 1⟩
                  go_simp
                  try dsimp only
                  refine hK.out _ _ hH ?_
                  clear hK K
                  try simp only [Act.put, List.setIfInBounds_toArray, List.set_cons_zero, List.set_cons_succ]
                  refine HeadW.done (by kernel_rfl) ?_
                  clear d0 d1 f0 f1 hltg hH
                  generalize ((wn100).setCell ⟨gg8, 0, none⟩ (.int .u64 qh)).setCell ⟨gg8, 1, none⟩ (.int .u64 ql) = wf at PF YF NF BF QF ⊢
                  obtain ⟨⟨d0, d1⟩, ⟨f0, f1⟩, hltg⟩ := NF.out.two
                  have HREL := Lib.hid (DD.out gg8 gg9 _ hgt8.1 (bSt (bSt BF.out (p := ⟨gg9, 0, none⟩) (by show w.heap.size ≤ gg9; omega) (.int .u64 0)) (p := ⟨gg9, 1, none⟩) (by show w.heap.size ≤ gg9; omega) (.int .u64 ((X * T % Y : Nat) : Int))) ((PF.out.off (b := gg9) (o := 0) (by omega) _).off (b := gg9) (o := 1) (by omega) _) ((YF.out.off (b := gg9) (o := 0) (by omega) _).off (b := gg9) (o := 1) (by omega) _) qh ql HQW'.out ((QF.out.off (b := gg9) (o := 0) (by omega) _).off (b := gg9) (o := 1) (by omega) _) ((NF.out.set0 _).set1 _))
                  go_wp2_with fail
                  go_meet
                  exact ⟨gg8, gg9, rfl, rfl, HREL.out⟩
          · refine ⟨_, (by simp only [List.getElem?_toArray, List.getElem?_cons_succ, List.getElem?_cons_zero] <;> rfl), ?_⟩
            unfold StepAt
            intro K hK
            go_simp
            have G9105 := Lib.hid (Blk.new wn84 46 #[.int .u64 0, .int .u64 0])
            have hgt9 : w.heap.size < wn84.heap.size ∧ g7 < wn84.heap.size := ⟨P84.out.lt, Y84.out.lt⟩
            have hne : gg8 ≠ wn84.heap.size := Nat.ne_of_lt G884.out.lt
            have P105 := Lib.hid (P84.out.alloc (.cells #[.int .u64 0, .int .u64 0] 46))
            have Y105 := Lib.hid (Y84.out.alloc (.cells #[.int .u64 0, .int .u64 0] 46))
            have B105 := Lib.hid (bAl B84.out (.cells #[.int .u64 0, .int .u64 0] 46))
            have G8105 := Lib.hid (G884.out.alloc (.cells #[.int .u64 0, .int .u64 0] 46))
            generalize wn84.alloc (.cells #[.int .u64 0, .int .u64 0] 46) = wn105 at G9105 P105 Y105 B105 G8105 ⊢
            generalize wn84.heap.size = gg9 at G9105 hgt9 hne ⊢
            clear hH P84 Y84 B84 G884
            have hH : BoxB w.heap.size g7 N D Y wn105 := ⟨P105.out.cell 0, P105.out.cell 1, Y105.out.cell 0, Y105.out.cell 1⟩
            try dsimp only
            refine hK.out _ _ hH ?_
            clear hK K
            try simp only [Act.put, List.setIfInBounds_toArray, List.set_cons_zero, List.set_cons_succ]
            refine HeadW.some_ [2] (by kernel_rfl) (fun i hi => ?_)
            simp only [List.mem_cons, List.mem_nil_iff, or_false] at hi
            subst hi
            · refine ⟨_, (by simp only [List.getElem?_toArray, List.getElem?_cons_succ, List.getElem?_cons_zero] <;> rfl), ?_⟩
              unfold StepAt
              intro K hK
              go_simp
              go_at_call 22
              refine (HSN.out _).mono ?_
              rintro e wz ⟨rfl, hw⟩
              obtain rfl := hw
              try dsimp only
              refine hK.out _ _ hH ?_
              clear hK K
              try simp only [Act.put, List.setIfInBounds_toArray, List.set_cons_zero, List.set_cons_succ]
              refine HeadW.some_ [4] (by kernel_rfl) (fun i hi => ?_)
              simp only [List.mem_cons, List.mem_nil_iff, or_false] at hi
              subst hi
              · refine ⟨_, (by simp only [List.getElem?_toArray, List.getElem?_cons_succ, List.getElem?_cons_zero] <;> rfl), ?_⟩
                unfold StepAt
                intro K hK
                go_simp
                go_at_call 39
                refine (HXT.out _).mono ?_
                rintro e wn106 ⟨th, tl, HTW, rfl, hb⟩
                have HTW' := Lib.hid HTW
                clear HTW
                have P106 := Lib.hid (P105.out.later hb)
                have Y106 := Lib.hid (Y105.out.later hb)
                have B106 := Lib.hid (bTr B105.out hb)
                have G8106 := Lib.hid (G8105.out.later hb)
                have G9106 := Lib.hid (G9105.out.later hb)
                clear hb hH P105 Y105 B105 G8105 G9105
                have hH : BoxB w.heap.size g7 N D Y wn106 := ⟨P106.out.cell 0, P106.out.cell 1, Y106.out.cell 0, Y106.out.cell 1⟩
                try dsimp only
                refine hK.out _ _ hH ?_
                clear hK K
                try simp only [Act.put, List.setIfInBounds_toArray, List.set_cons_zero, List.set_cons_succ]
                refine HeadW.some_ [6] (by kernel_rfl) (fun i hi => ?_)
                simp only [List.mem_cons, List.mem_nil_iff, or_false] at hi
                subst hi
                · refine ⟨_, (by simp only [List.getElem?_toArray, List.getElem?_cons_succ, List.getElem?_cons_zero] <;> rfl), ?_⟩
                  unfold StepAt
                  intro K hK
                  go_simp
                  go_at_call 38
                  refine (HDV.out _ _ HTW'.out _).mono ?_
                  rintro e wn107 ⟨qh, ql, rh, rl, ⟨HQW, HRW⟩, rfl, hb⟩
                  obtain ⟨rfl, rfl⟩ := w2_lowR HRW (by omega)
                  have HQW' := Lib.hid HQW
                  clear HQW HRW
                  have P107 := Lib.hid (P106.out.later hb)
                  have Y107 := Lib.hid (Y106.out.later hb)
                  have B107 := Lib.hid (bTr B106.out hb)
                  have G8107 := Lib.hid (G8106.out.later hb)
                  have G9107 := Lib.hid (G9106.out.later hb)
                  clear hb hH P106 Y106 B106 G8106 G9106
                  have hH : BoxB w.heap.size g7 N D Y wn107 := ⟨P107.out.cell 0, P107.out.cell 1, Y107.out.cell 0, Y107.out.cell 1⟩
                  try dsimp only
                  refine hK.out _ _ hH ?_
                  clear hK K
                  try simp only [Act.put, List.setIfInBounds_toArray, List.set_cons_zero, List.set_cons_succ]
                  refine HeadW.take (i := 7) (oi := ?oi108) (v := ?v108) ?hi108 (by kernel_rfl) ?hQ108 (Or.inl ⟨?hg108, ?hy108⟩) hH ?rest108
                  case hi108 => simp only [List.getElem?_toArray, List.getElem?_cons_succ, List.getElem?_cons_zero] <;> rfl
                  case hQ108 => exact fun _ _ _ h => h
                  case hg108 => rfl
                  case hy108 => intro W hSw; obtain ⟨s0, s1, s2, s3⟩ := hSw; go_simp; try with_reducible rfl
                  case rest108 =>
                  try simp only [Act.put, List.setIfInBounds_toArray, List.set_cons_zero, List.set_cons_succ]
                  refine HeadW.take (i := 8) (oi := ?oi109) (v := ?v109) ?hi109 (by kernel_rfl) ?hQ109 (Or.inl ⟨?hg109, ?hy109⟩) hH ?rest109
                  case hi109 => simp only [List.getElem?_toArray, List.getElem?_cons_succ, List.getElem?_cons_zero] <;> rfl
                  case hQ109 => exact fun _ _ _ h => h
                  case hg109 => rfl
                  case hy109 => intro W hSw; obtain ⟨s0, s1, s2, s3⟩ := hSw; go_simp; try with_reducible rfl
                  case rest109 =>
                  try simp only [Act.put, List.setIfInBounds_toArray, List.set_cons_zero, List.set_cons_succ]
                  refine HeadW.take (i := 9) (oi := ?oi110) (v := ?v110) ?hi110 (by kernel_rfl) ?hQ110 (Or.inl ⟨?hg110, ?hy110⟩) hH ?rest110
                  case hi110 => simp only [List.getElem?_toArray, List.getElem?_cons_succ, List.getElem?_cons_zero] <;> rfl
                  case hQ110 => exact fun _ _ _ h => h
                  case hg110 => rfl
                  case hy110 => intro W hSw; obtain ⟨s0, s1, s2, s3⟩ := hSw; go_simp; try with_reducible rfl
                  case rest110 =>
                  try simp only [Act.put, List.setIfInBounds_toArray, List.set_cons_zero, List.set_cons_succ]
                  refine HeadW.one (i := 12) (o := ?oi111) ?hi111 (by kernel_rfl) ?st111
                  case hi111 => simp only [List.getElem?_toArray, List.getElem?_cons_succ, List.getElem?_cons_zero] <;> rfl
                  case st111 =>
                  intro K hK
                  obtain ⟨⟨d0, d1⟩, ⟨f0, f1⟩, hltg⟩ := G8107.out.two
                  have PF := Lib.hid ((P107.out.off (b := gg8) (o := 0) (by omega) (.int .u64 qh)).off (b := gg8) (o := 1) (by omega) (.int .u64 ql))
                  have YF := Lib.hid ((Y107.out.off (b := gg8) (o := 0) (by omega) (.int .u64 qh)).off (b := gg8) (o := 1) (by omega) (.int .u64 ql))
                  have NF := Lib.hid ((G9107.out.off (b := gg8) (o := 0) (by omega) (.int .u64 qh)).off (b := gg8) (o := 1) (by omega) (.int .u64 ql))
                  have BF := Lib.hid (bSt (bSt B107.out (p := ⟨gg8, 0, none⟩) (by show w.heap.size ≤ gg8; omega) (.int .u64 qh)) (p := ⟨gg8, 1, none⟩) (by show w.heap.size ≤ gg8; omega) (.int .u64 ql))
                  have QF := Lib.hid ((G8107.out.set0 (.int .u64 qh)).set1 (.int .u64 ql))
                  clear hH
                  have hH : BoxB w.heap.size g7 N D Y (((wn107).setCell ⟨gg8, 0, none⟩ (.int .u64 qh)).setCell ⟨gg8, 1, none⟩ (.int .u64 ql)) := ⟨PF.out.cell 0, PF.out.cell 1, YF.out.cell 0, YF.out.cell 1⟩
                  go_simp
                  try dsimp only
                  refine hK.out _ _ hH ?_
                  clear hK K
                  try simp only [Act.put, List.setIfInBounds_toArray, List.set_cons_zero, List.set_cons_succ]
                  refine HeadW.done (by kernel_rfl) ?_
                  clear d0 d1 f0 f1 hltg hH
                  generalize ((wn107).setCell ⟨gg8, 0, none⟩ (.int .u64 qh)).setCell ⟨gg8, 1, none⟩ (.int .u64 ql) = wf at PF YF NF BF QF ⊢
                  obtain ⟨⟨d0, d1⟩, ⟨f0, f1⟩, hltg⟩ := NF.out.two
                  have HREL := Lib.hid (DD.out gg8 gg9 _ hgt8.1 (bSt (bSt BF.out (p := ⟨gg9, 0, none⟩) (by show w.heap.size ≤ gg9; omega) (.int .u64 0)) (p := ⟨gg9, 1, none⟩) (by show w.heap.size ≤ gg9; omega) (.int .u64 ((X * T % Y : Nat) : Int))) ((PF.out.off (b := gg9) (o := 0) (by omega) _).off (b := gg9) (o := 1) (by omega) _) ((YF.out.off (b := gg9) (o := 0) (by omega) _).off (b := gg9) (o := 1) (by omega) _) qh ql HQW'.out ((QF.out.off (b := gg9) (o := 0) (by omega) _).off (b := gg9) (o := 1) (by omega) _) ((NF.out.set0 _).set1 _))
                  go_wp2_with fail
                  go_meet
                  exact ⟨gg8, gg9, rfl, rfl, HREL.out⟩
        · refine ⟨_, (by simp only [List.getElem?_toArray, List.getElem?_cons_succ, List.getElem?_cons_zero] <;> rfl), ?_⟩
          unfold StepAt
          intro K hK
          go_simp
          have G9112 := Lib.hid (Blk.new w3 46 #[.int .u64 0, .int .u64 0])
          have hgt9 : w.heap.size < w3.heap.size ∧ g7 < w3.heap.size := ⟨P3.out.lt, Y3.out.lt⟩
          have P112 := Lib.hid (P3.out.alloc (.cells #[.int .u64 0, .int .u64 0] 46))
          have Y112 := Lib.hid (Y3.out.alloc (.cells #[.int .u64 0, .int .u64 0] 46))
          have B112 := Lib.hid (bAl B3.out (.cells #[.int .u64 0, .int .u64 0] 46))
          generalize w3.alloc (.cells #[.int .u64 0, .int .u64 0] 46) = wn112 at G9112 P112 Y112 B112 ⊢
          generalize w3.heap.size = gg9 at G9112 hgt9 ⊢
          clear hH P3 Y3 B3
          have hH : BoxB w.heap.size g7 N D Y wn112 := ⟨P112.out.cell 0, P112.out.cell 1, Y112.out.cell 0, Y112.out.cell 1⟩
          try dsimp only
          refine hK.out _ _ hH ?_
          clear hK K
          try simp only [Act.put, List.setIfInBounds_toArray, List.set_cons_zero, List.set_cons_succ]
          refine HeadW.some_ [2, 10] (by kernel_rfl) (fun i hi => ?_)
          simp only [List.mem_cons, List.mem_nil_iff, or_false] at hi
          rcases hi with rfl | rfl
          · refine ⟨_, (by simp only [List.getElem?_toArray, List.getElem?_cons_succ, List.getElem?_cons_zero] <;> rfl), ?_⟩
            unfold StepAt
            intro K hK
            go_simp
            go_at_call 22
            refine (HSN.out _).mono ?_
            rintro e wz ⟨rfl, hw⟩
            obtain rfl := hw
            try dsimp only
            refine hK.out _ _ hH ?_
            clear hK K
            try simp only [Act.put, List.setIfInBounds_toArray, List.set_cons_zero, List.set_cons_succ]
            refine HeadW.some_ [4, 10] (by kernel_rfl) (fun i hi => ?_)
            simp only [List.mem_cons, List.mem_nil_iff, or_false] at hi
            rcases hi with rfl | rfl
            · refine ⟨_, (by simp only [List.getElem?_toArray, List.getElem?_cons_succ, List.getElem?_cons_zero] <;> rfl), ?_⟩
              unfold StepAt
              intro K hK
              go_simp
              go_at_call 39
              refine (HXT.out _).mono ?_
              rintro e wn113 ⟨th, tl, HTW, rfl, hb⟩
              have HTW' := Lib.hid HTW
              clear HTW
              have P113 := Lib.hid (P112.out.later hb)
              have Y113 := Lib.hid (Y112.out.later hb)
              have B113 := Lib.hid (bTr B112.out hb)
              have G9113 := Lib.hid (G9112.out.later hb)
              clear hb hH P112 Y112 B112 G9112
              have hH : BoxB w.heap.size g7 N D Y wn113 := ⟨P113.out.cell 0, P113.out.cell 1, Y113.out.cell 0, Y113.out.cell 1⟩
              try dsimp only
              refine hK.out _ _ hH ?_
              clear hK K
              try simp only [Act.put, List.setIfInBounds_toArray, List.set_cons_zero, List.set_cons_succ]
              refine HeadW.some_ [6, 10] (by kernel_rfl) (fun i hi => ?_)
              simp only [List.mem_cons, List.mem_nil_iff, or_false] at hi
              rcases hi with rfl | rfl
              · refine ⟨_, (by simp only [List.getElem?_toArray, List.getElem?_cons_succ, List.getElem?_cons_zero] <;> rfl), ?_⟩
                unfold StepAt
                intro K hK
                go_simp
                go_at_call 38
                refine (HDV.out _ _ HTW'.out _).mono ?_
                rintro e wn114 ⟨qh, ql, rh, rl, ⟨HQW, HRW⟩, rfl, hb⟩
                obtain ⟨rfl, rfl⟩ := w2_lowR HRW (by omega)
                have HQW' := Lib.hid HQW
                clear HQW HRW
                have P114 := Lib.hid (P113.out.later hb)
                have Y114 := Lib.hid (Y113.out.later hb)
                have B114 := Lib.hid (bTr B113.out hb)
                have G9114 := Lib.hid (G9113.out.later hb)
                clear hb hH P113 Y113 B113 G9113
                have hH : BoxB w.heap.size g7 N D Y wn114 := ⟨P114.out.cell 0, P114.out.cell 1, Y114.out.cell 0, Y114.out.cell 1⟩
                try dsimp only
                refine hK.out _ _ hH ?_
                clear hK K
                try simp only [Act.put, List.setIfInBounds_toArray, List.set_cons_zero, List.set_cons_succ]
                refine HeadW.take (i := 7) (oi := ?oi115) (v := ?v115) ?hi115 (by kernel_rfl) ?hQ115 (Or.inl ⟨?hg115, ?hy115⟩) hH ?rest115
                case hi115 => simp only [List.getElem?_toArray, List.getElem?_cons_succ, List.getElem?_cons_zero] <;> rfl
                case hQ115 => exact fun _ _ _ h => h
                case hg115 => rfl
                case hy115 => intro W hSw; obtain ⟨s0, s1, s2, s3⟩ := hSw; go_simp; try with_reducible rfl
                case rest115 =>
                try simp only [Act.put, List.setIfInBounds_toArray, List.set_cons_zero, List.set_cons_succ]
                refine HeadW.take (i := 8) (oi := ?oi116) (v := ?v116) ?hi116 (by kernel_rfl) ?hQ116 (Or.inl ⟨?hg116, ?hy116⟩) hH ?rest116
                case hi116 => simp only [List.getElem?_toArray, List.getElem?_cons_succ, List.getElem?_cons_zero] <;> rfl
                case hQ116 => exact fun _ _ _ h => h
                case hg116 => rfl
                case hy116 => intro W hSw; obtain ⟨s0, s1, s2, s3⟩ := hSw; go_simp; try with_reducible rfl
                case rest116 =>
                try simp only [Act.put, List.setIfInBounds_toArray, List.set_cons_zero, List.set_cons_succ]
                refine HeadW.take (i := 9) (oi := ?oi117) (v := ?v117) ?hi117 (by kernel_rfl) ?hQ117 (Or.inl ⟨?hg117, ?hy117⟩) hH ?rest117
                case hi117 => simp only [List.getElem?_toArray, List.getElem?_cons_succ, List.getElem?_cons_zero] <;> rfl
                case hQ117 => exact fun _ _ _ h => h
                case hg117 => rfl
                case hy117 => intro W hSw; obtain ⟨s0, s1, s2, s3⟩ := hSw; go_simp; try with_reducible rfl
                case rest117 =>
                try simp only [Act.put, List.setIfInBounds_toArray, List.set_cons_zero, List.set_cons_succ]
                refine HeadW.some_ [10] (by kernel_rfl) (fun i hi => ?_)
                simp only [List.mem_cons, List.mem_nil_iff, or_false] at hi
                subst hi
                · refine ⟨_, (by simp only [List.getElem?_toArray, List.getElem?_cons_succ, List.getElem?_cons_zero] <;> rfl), ?_⟩
                  unfold StepAt
                  intro K hK
                  go_simp
                  have G8118 := Lib.hid (Blk.new wn114 46 #[.int .u64 0, .int .u64 0])
                  have hgt8 : w.heap.size < wn114.heap.size ∧ g7 < wn114.heap.size := ⟨P114.out.lt, Y114.out.lt⟩
                  have hne : gg9 ≠ wn114.heap.size := Nat.ne_of_lt G9114.out.lt
                  have P118 := Lib.hid (P114.out.alloc (.cells #[.int .u64 0, .int .u64 0] 46))
                  have Y118 := Lib.hid (Y114.out.alloc (.cells #[.int .u64 0, .int .u64 0] 46))
                  have B118 := Lib.hid (bAl B114.out (.cells #[.int .u64 0, .int .u64 0] 46))
                  have G9118 := Lib.hid (G9114.out.alloc (.cells #[.int .u64 0, .int .u64 0] 46))
                  generalize wn114.alloc (.cells #[.int .u64 0, .int .u64 0] 46) = wn118 at G8118 P118 Y118 B118 G9118 ⊢
                  generalize wn114.heap.size = gg8 at G8118 hgt8 hne ⊢
                  clear hH P114 Y114 B114 G9114
                  have hH : BoxB w.heap.size g7 N D Y wn118 := ⟨P118.out.cell 0, P118.out.cell 1, Y118.out.cell 0, Y118.out.cell 1⟩
                  try dsimp only
                  refine hK.out _ _ hH ?_
                  clear hK K
                  try simp only [Act.put, List.setIfInBounds_toArray, List.set_cons_zero, List.set_cons_succ]
                  refine HeadW.one (i := 12) (o := ?oi119) ?hi119 (by kernel_rfl) ?st119
                  case hi119 => simp only [List.getElem?_toArray, List.getElem?_cons_succ, List.getElem?_cons_zero] <;> rfl
                  case st119 =>
                  intro K hK
                  obtain ⟨⟨d0, d1⟩, ⟨f0, f1⟩, hltg⟩ := G8118.out.two
                  have PF := Lib.hid ((P118.out.off (b := gg8) (o := 0) (by omega) (.int .u64 qh)).off (b := gg8) (o := 1) (by omega) (.int .u64 ql))
                  have YF := Lib.hid ((Y118.out.off (b := gg8) (o := 0) (by omega) (.int .u64 qh)).off (b := gg8) (o := 1) (by omega) (.int .u64 ql))
                  have NF := Lib.hid ((G9118.out.off (b := gg8) (o := 0) (by omega) (.int .u64 qh)).off (b := gg8) (o := 1) (by omega) (.int .u64 ql))
                  have BF := Lib.hid (bSt (bSt B118.out (p := ⟨gg8, 0, none⟩) (by show w.heap.size ≤ gg8; omega) (.int .u64 qh)) (p := ⟨gg8, 1, none⟩) (by show w.heap.size ≤ gg8; omega) (.int .u64 ql))
                  have QF := Lib.hid ((G8118.out.set0 (.int .u64 qh)).set1 (.int .u64 ql))
                  clear hH
                  have hH : BoxB w.heap.size g7 N D Y (((wn118).setCell ⟨gg8, 0, none⟩ (.int .u64 qh)).setCell ⟨gg8, 1, none⟩ (.int .u64 ql)) := ⟨PF.out.cell 0, PF.out.cell 1, YF.out.cell 0, YF.out.cell 1⟩
                  go_simp
                  try dsimp only
                  refine hK.out _ _ hH ?_
                  clear hK K
                  try simp only [Act.put, List.setIfInBounds_toArray, List.set_cons_zero, List.set_cons_succ]
                  refine HeadW.done (by kernel_rfl) ?_
                  clear d0 d1 f0 f1 hltg hH
                  generalize ((wn118).setCell ⟨gg8, 0, none⟩ (.int .u64 qh)).setCell ⟨gg8, 1, none⟩ (.int .u64 ql) = wf at PF YF NF BF QF ⊢
                  obtain ⟨⟨d0, d1⟩, ⟨f0, f1⟩, hltg⟩ := NF.out.two
                  have HREL := Lib.hid (DD.out gg8 gg9 _ hgt8.1 (bSt (bSt BF.out (p := ⟨gg9, 0, none⟩) (by show w.heap.size ≤ gg9; omega) (.int .u64 0)) (p := ⟨gg9, 1, none⟩) (by show w.heap.size ≤ gg9; omega) (.int .u64 ((X * T % Y : Nat) : Int))) ((PF.out.off (b := gg9) (o := 0) (by omega) _).off (b := gg9) (o := 1) (by omega) _) ((YF.out.off (b := gg9) (o := 0) (by omega) _).off (b := gg9) (o := 1) (by omega) _) qh ql HQW'.out ((QF.out.off (b := gg9) (o := 0) (by omega) _).off (b := gg9) (o := 1) (by omega) _) ((NF.out.set0 _).set1 _))
                  go_wp2_with fail
                  go_meet
                  exact ⟨gg8, gg9, rfl, rfl, HREL.out⟩
              · refine ⟨_, (by simp only [List.getElem?_toArray, List.getElem?_cons_succ, List.getElem?_cons_zero] <;> rfl), ?_⟩
                unfold StepAt
                intro K hK
                go_simp
                have G8120 := Lib.hid (Blk.new wn113 46 #[.int .u64 0, .int .u64 0])
                have hgt8 : w.heap.size < wn113.heap.size ∧ g7 < wn113.heap.size := ⟨P113.out.lt, Y113.out.lt⟩
                have hne : gg9 ≠ wn113.heap.size := Nat.ne_of_lt G9113.out.lt
                have P120 := Lib.hid (P113.out.alloc (.cells #[.int .u64 0, .int .u64 0] 46))
                have Y120 := Lib.hid (Y113.out.alloc (.cells #[.int .u64 0, .int .u64 0] 46))
                have B120 := Lib.hid (bAl B113.out (.cells #[.int .u64 0, .int .u64 0] 46))
                have G9120 := Lib.hid (G9113.out.alloc (.cells #[.int .u64 0, .int .u64 0] 46))
                generalize wn113.alloc (.cells #[.int .u64 0, .int .u64 0] 46) = wn120 at G8120 P120 Y120 B120 G9120 ⊢
                generalize wn113.heap.size = gg8 at G8120 hgt8 hne ⊢
                clear hH P113 Y113 B113 G9113
                have hH : BoxB w.heap.size g7 N D Y wn120 := ⟨P120.out.cell 0, P120.out.cell 1, Y120.out.cell 0, Y120.out.cell 1⟩
                try dsimp only
                refine hK.out _ _ hH ?_
                clear hK K
                try simp only [Act.put, List.setIfInBounds_toArray, List.set_cons_zero, List.set_cons_succ]
                refine HeadW.some_ [6] (by kernel_rfl) (fun i hi => ?_)
                simp only [List.mem_cons, List.mem_nil_iff, or_false] at hi
                subst hi
                · refine ⟨_, (by simp only [List.getElem?_toArray, List.getElem?_cons_succ, List.getElem?_cons_zero] <;> rfl), ?_⟩
                  unfold StepAt
                  intro K hK
                  go_simp
                  go_at_call 38
                  refine (HDV.out _ _ HTW'.out _).mono ?_
                  rintro e wn121 ⟨qh, ql, rh, rl, ⟨HQW, HRW⟩, rfl, hb⟩
                  obtain ⟨rfl, rfl⟩ := w2_lowR HRW (by omega)
                  have HQW' := Lib.hid HQW
                  clear HQW HRW
                  have P121 := Lib.hid (P120.out.later hb)
                  have Y121 := Lib.hid (Y120.out.later hb)
                  have B121 := Lib.hid (bTr B120.out hb)
                  have G8121 := Lib.hid (G8120.out.later hb)
                  have G9121 := Lib.hid (G9120.out.later hb)
                  clear hb hH P120 Y120 B120 G8120 G9120
                  have hH : BoxB w.heap.size g7 N D Y wn121 := ⟨P121.out.cell 0, P121.out.cell 1, Y121.out.cell 0, Y121.out.cell 1⟩
                  try dsimp only
                  refine hK.out _ _ hH ?_
                  clear hK K
                  try simp only [Act.put, List.setIfInBounds_toArray, List.set_cons_zero, List.set_cons_succ]
                  refine HeadW.take (i := 7) (oi := ?oi122) (v := ?v122) ?hi122 (by kernel_rfl) ?hQ122 (Or.inl ⟨?hg122, ?hy122⟩) hH ?rest122
                  case hi122 => simp only [List.getElem?_toArray, List.getElem?_cons_succ, List.getElem?_cons_zero] <;> rfl
                  case hQ122 => exact fun _ _ _ h => h
                  case hg122 => rfl
                  case hy122 => intro W hSw; obtain ⟨s0, s1, s2, s3⟩ := hSw; go_simp; try with_reducible rfl
                  case rest122 =>
                  try simp only [Act.put, List.setIfInBounds_toArray, List.set_cons_zero, List.set_cons_succ]
                  refine HeadW.take (i := 8) (oi := ?oi123) (v := ?v123) ?hi123 (by kernel_rfl) ?hQ123 (Or.inl ⟨?hg123, ?hy123⟩) hH ?rest123
                  case hi123 => simp only [List.getElem?_toArray, List.getElem?_cons_succ, List.getElem?_cons_zero] <;> rfl
                  case hQ123 => exact fun _ _ _ h => h
                  case hg123 => rfl
                  case hy123 => intro W hSw; obtain ⟨s0, s1, s2, s3⟩ := hSw; go_simp; try with_reducible rfl
                  case rest123 =>
                  try simp only [Act.put, List.setIfInBounds_toArray, List.set_cons_zero, List.set_cons_succ]
                  refine HeadW.take (i := 9) (oi := ?oi124) (v := ?v124) ?hi124 (by kernel_rfl) ?hQ124 (Or.inl ⟨?hg124, ?hy124⟩) hH ?rest124
                  case hi124 => simp only [List.getElem?_toArray, List.getElem?_cons_succ, List.getElem?_cons_zero] <;> rfl
                  case hQ124 => exact fun _ _ _ h => h
                  case hg124 => rfl
                  case hy124 => intro W hSw; obtain ⟨s0, s1, s2, s3⟩ := hSw; go_simp; try with_reducible rfl
                  case rest124 =>
                  try simp only [Act.put, List.setIfInBounds_toArray, List.set_cons_zero, List.set_cons_succ]
                  refine HeadW.one (i := 12) (o := ?oi125) ?hi125 (by kernel_rfl) ?st125
                  case hi125 => simp only [List.getElem?_toArray, List.getElem?_cons_succ, List.getElem?_cons_zero] <;> rfl
                  case st125 =>
                  intro K hK
                  obtain ⟨⟨d0, d1⟩, ⟨f0, f1⟩, hltg⟩ := G8121.out.two
                  have PF := Lib.hid ((P121.out.off (b := gg8) (o := 0) (by omega) (.int .u64 qh)).off (b := gg8) (o := 1) (by omega) (.int .u64 ql))
                  have YF := Lib.hid ((Y121.out.off (b := gg8) (o := 0) (by omega) (.int .u64 qh)).off (b := gg8) (o := 1) (by omega) (.int .u64 ql))
                  have NF := Lib.hid ((G9121.out.off (b := gg8) (o := 0) (by omega) (.int .u64 qh)).off (b := gg8) (o := 1) (by omega) (.int .u64 ql))
                  have BF := Lib.hid (bSt (bSt B121.out (p := ⟨gg8, 0, none⟩) (by show w.heap.size ≤ gg8; omega) (.int .u64 qh)) (p := ⟨gg8, 1, none⟩) (by show w.heap.size ≤ gg8; omega) (.int .u64 ql))
                  have QF := Lib.hid ((G8121.out.set0 (.int .u64 qh)).set1 (.int .u64 ql))
                  clear hH
                  have hH : BoxB w.heap.size g7 N D Y (((wn121).setCell ⟨gg8, 0, none⟩ (.int .u64 qh)).setCell ⟨gg8, 1, none⟩ (.int .u64 ql)) := ⟨PF.out.cell 0, PF.out.cell 1, YF.out.cell 0, YF.out.cell 1⟩
                  go_simp
                  try dsimp only
                  refine hK.out _ _ hH ?_
                  clear hK K
                  try simp only [Act.put, List.setIfInBounds_toArray, List.set_cons_zero, List.set_cons_succ]
                  refine HeadW.done (by kernel_rfl) ?_
                  clear d0 d1 f0 f1 hltg hH
                  generalize ((wn121).setCell ⟨gg8, 0, none⟩ (.int .u64 qh)).setCell ⟨gg8, 1, none⟩ (.int .u64 ql) = wf at PF YF NF BF QF ⊢
                  obtain ⟨⟨d0, d1⟩, ⟨f0, f1⟩, hltg⟩ := NF.out.two
                  have HREL := Lib.hid (DD.out gg8 gg9 _ hgt8.1 (bSt (bSt BF.out (p := ⟨gg9, 0, none⟩) (by show w.heap.size ≤ gg9; omega) (.int .u64 0)) (p := ⟨gg9, 1, none⟩) (by show w.heap.size ≤ gg9; omega) (.int .u64 ((X * T % Y : Nat) : Int))) ((PF.out.off (b := gg9) (o := 0) (by omega) _).off (b := gg9) (o := 1) (by omega) _) ((YF.out.off (b := gg9) (o := 0) (by omega) _).off (b := gg9) (o := 1) (by omega) _) qh ql HQW'.out ((QF.out.off (b := gg9) (o := 0) (by omega) _).off (b := gg9) (o := 1) (by omega) _) ((NF.out.set0 _).set1 _))
                  go_wp2_with fail
                  go_meet
                  exact ⟨gg8, gg9, rfl, rfl, HREL.out⟩
            · refine ⟨_, (by simp only [List.getElem?_toArray, List.getElem?_cons_succ, List.getElem?_cons_zero] <;> rfl), ?_⟩
              unfold StepAt
              intro K hK
              go_simp
              have G8126 := Lib.hid (Blk.new wn112 46 #[.int .u64 0, .int .u64 0])
              have hgt8 : w.heap.size < wn112.heap.size ∧ g7 < wn112.heap.size := ⟨P112.out.lt, Y112.out.lt⟩
              have hne : gg9 ≠ wn112.heap.size := Nat.ne_of_lt G9112.out.lt
              have P126 := Lib.hid (P112.out.alloc (.cells #[.int .u64 0, .int .u64 0] 46))
              have Y126 := Lib.hid (Y112.out.alloc (.cells #[.int .u64 0, .int .u64 0] 46))
              have B126 := Lib.hid (bAl B112.out (.cells #[.int .u64 0, .int .u64 0] 46))
              have G9126 := Lib.hid (G9112.out.alloc (.cells #[.int .u64 0, .int .u64 0] 46))
              generalize wn112.alloc (.cells #[.int .u64 0, .int .u64 0] 46) = wn126 at G8126 P126 Y126 B126 G9126 ⊢
              generalize wn112.heap.size = gg8 at G8126 hgt8 hne ⊢
              clear hH P112 Y112 B112 G9112
              have hH : BoxB w.heap.size g7 N D Y wn126 := ⟨P126.out.cell 0, P126.out.cell 1, Y126.out.cell 0, Y126.out.cell 1⟩
              try dsimp only
              refine hK.out _ _ hH ?_
              clear hK K
              try simp only [Act.put, List.setIfInBounds_toArray, List.set_cons_zero, List.set_cons_succ]
              refine HeadW.some_ [4] (by kernel_rfl) (fun i hi => ?_)
              simp only [List.mem_cons, List.mem_nil_iff, or_false] at hi
              subst hi
              · refine ⟨_, (by simp only [List.getElem?_toArray, List.getElem?_cons_succ, List.getElem?_cons_zero] <;> rfl), ?_⟩
                unfold StepAt
                intro K hK
                go_simp
                go_at_call 39
                refine (HXT.out _).mono ?_
                rintro e wn127 ⟨th, tl, HTW, rfl, hb⟩
                have HTW' := Lib.hid HTW
                clear HTW
                have P127 := Lib.hid (P126.out.later hb)
                have Y127 := Lib.hid (Y126.out.later hb)
                have B127 := Lib.hid (bTr B126.out hb)
                have G8127 := Lib.hid (G8126.out.later hb)
                have G9127 := Lib.hid (G9126.out.later hb)
                clear hb hH P126 Y126 B126 G8126 G9126
                have hH : BoxB w.heap.size g7 N D Y wn127 := ⟨P127.out.cell 0, P127.out.cell 1, Y127.out.cell 0, Y127.out.cell 1⟩
                try dsimp only
                refine hK.out _ _ hH ?_
                clear hK K
                try simp only [Act.put, List.setIfInBounds_toArray, List.set_cons_zero, List.set_cons_succ]
                refine HeadW.some_ [6] (by kernel_rfl) (fun i hi => ?_)
                simp only [List.mem_cons, List.mem_nil_iff, or_false] at hi
                subst hi
                · refine ⟨_, (by simp only [List.getElem?_toArray, List.getElem?_cons_succ, List.getElem?_cons_zero] <;> rfl), ?_⟩
                  unfold StepAt
                  intro K hK
                  go_simp
                  go_at_call 38
                  refine (HDV.out _ _ HTW'.out _).mono ?_
                  rintro e wn128 ⟨qh, ql, rh, rl, ⟨HQW, HRW⟩, rfl, hb⟩
                  obtain ⟨rfl, rfl⟩ := w2_lowR HRW (by omega)
                  have HQW' := Lib.hid HQW
                  clear HQW HRW
                  have P128 := Lib.hid (P127.out.later hb)
                  have Y128 := Lib.hid (Y127.out.later hb)
                  have B128 := Lib.hid (bTr B127.out hb)
                  have G8128 := Lib.hid (G8127.out.later hb)
                  have G9128 := Lib.hid (G9127.out.later hb)
                  clear hb hH P127 Y127 B127 G8127 G9127
                  have hH : BoxB w.heap.size g7 N D Y wn128 := ⟨P128.out.cell 0, P128.out.cell 1, Y128.out.cell 0, Y128.out.cell 1⟩
                  try dsimp only
                  refine hK.out _ _ hH ?_
                  clear hK K
                  try simp only [Act.put, List.setIfInBounds_toArray, List.set_cons_zero, List.set_cons_succ]
                  refine HeadW.take (i := 7) (oi := ?oi129) (v := ?v129) ?hi129 (by kernel_rfl) ?hQ129 (Or.inl ⟨?hg129, ?hy129⟩) hH ?rest129
                  case hi129 => simp only [List.getElem?_toArray, List.getElem?_cons_succ, List.getElem?_cons_zero] <;> rfl
                  case hQ129 => exact fun _ _ _ h => h
                  case hg129 => rfl
                  case hy129 => intro W hSw; obtain ⟨s0, s1, s2, s3⟩ := hSw; go_simp; try with_reducible rfl
                  case rest129 =>
                  try simp only [Act.put, List.setIfInBounds_toArray, List.set_cons_zero, List.set_cons_succ]
                  refine HeadW.take (i := 8) (oi := ?oi130) (v := ?v130) ?hi130 (by kernel_rfl) ?hQ130 (Or.inl ⟨?hg130, ?hy130⟩) hH ?rest130
                  case hi130 => simp only [List.getElem?_toArray, List.getElem?_cons_succ, List.getElem?_cons_zero] <;> rfl
                  case hQ130 => exact fun _ _ _ h => h
                  case hg130 => rfl
                  case hy130 => intro W hSw; obtain ⟨s0, s1, s2, s3⟩ := hSw; go_simp; try with_reducible rfl
                  case rest130 =>
                  try simp only [Act.put, List.setIfInBounds_toArray, List.set_cons_zero, List.set_cons_succ]
                  refine HeadW.take (i := 9) (oi := ?oi131) (v := ?v131) ?hi131 (by kernel_rfl) ?hQ131 (Or.inl ⟨?hg131, ?hy131⟩) hH ?rest131
                  case hi131 => simp only [List.getElem?_toArray, List.getElem?_cons_succ, List.getElem?_cons_zero] <;> rfl
                  case hQ131 => exact fun _ _ _ h => h
                  case hg131 => rfl
                  case hy131 => intro W hSw; obtain ⟨s0, s1, s2, s3⟩ := hSw; go_simp; try with_reducible rfl
                  case rest131 =>
                  try simp only [Act.put, List.setIfInBounds_toArray, List.set_cons_zero, List.set_cons_succ]
                  refine HeadW.one (i := 12) (o := ?oi132) ?hi132 (by kernel_rfl) ?st132
                  case hi132 => simp only [List.getElem?_toArray, List.getElem?_cons_succ, List.getElem?_cons_zero] <;> rfl
                  case st132 =>
                  intro K hK
                  obtain ⟨⟨d0, d1⟩, ⟨f0, f1⟩, hltg⟩ := G8128.out.two
                  have PF := Lib.hid ((P128.out.off (b := gg8) (o := 0) (by omega) (.int .u64 qh)).off (b := gg8) (o := 1) (by omega) (.int .u64 ql))
                  have YF := Lib.hid ((Y128.out.off (b := gg8) (o := 0) (by omega) (.int .u64 qh)).off (b := gg8) (o := 1) (by omega) (.int .u64 ql))
                  have NF := Lib.hid ((G9128.out.off (b := gg8) (o := 0) (by omega) (.int .u64 qh)).off (b := gg8) (o := 1) (by omega) (.int .u64 ql))
                  have BF := Lib.hid (bSt (bSt B128.out (p := ⟨gg8, 0, none⟩) (by show w.heap.size ≤ gg8; omega) (.int .u64 qh)) (p := ⟨gg8, 1, none⟩) (by show w.heap.size ≤ gg8; omega) (.int .u64 ql))
                  have QF := Lib.hid ((G8128.out.set0 (.int .u64 qh)).set1 (.int .u64 ql))
                  clear hH
                  have hH : BoxB w.heap.size g7 N D Y (((wn128).setCell ⟨gg8, 0, none⟩ (.int .u64 qh)).setCell ⟨gg8, 1, none⟩ (.int .u64 ql)) := ⟨PF.out.cell 0, PF.out.cell 1, YF.out.cell 0, YF.out.cell 1⟩
                  go_simp
                  try dsimp only
                  refine hK.out _ _ hH ?_
                  clear hK K
                  try simp only [Act.put, List.setIfInBounds_toArray, List.set_cons_zero, List.set_cons_succ]
                  refine HeadW.done (by kernel_rfl) ?_
                  clear d0 d1 f0 f1 hltg hH
                  generalize ((wn128).setCell ⟨gg8, 0, none⟩ (.int .u64 qh)).setCell ⟨gg8, 1, none⟩ (.int .u64 ql) = wf at PF YF NF BF QF ⊢
                  obtain ⟨⟨d0, d1⟩, ⟨f0, f1⟩, hltg⟩ := NF.out.two
                  have HREL := Lib.hid (DD.out gg8 gg9 _ hgt8.1 (bSt (bSt BF.out (p := ⟨gg9, 0, none⟩) (by show w.heap.size ≤ gg9; omega) (.int .u64 0)) (p := ⟨gg9, 1, none⟩) (by show w.heap.size ≤ gg9; omega) (.int .u64 ((X * T % Y : Nat) : Int))) ((PF.out.off (b := gg9) (o := 0) (by omega) _).off (b := gg9) (o := 1) (by omega) _) ((YF.out.off (b := gg9) (o := 0) (by omega) _).off (b := gg9) (o := 1) (by omega) _) qh ql HQW'.out ((QF.out.off (b := gg9) (o := 0) (by omega) _).off (b := gg9) (o := 1) (by omega) _) ((NF.out.set0 _).set1 _))
                  go_wp2_with fail
                  go_meet
                  exact ⟨gg8, gg9, rfl, rfl, HREL.out⟩
          · refine ⟨_, (by simp only [List.getElem?_toArray, List.getElem?_cons_succ, List.getElem?_cons_zero] <;> rfl), ?_⟩
            unfold StepAt
            intro K hK
            go_simp
            have G8133 := Lib.hid (Blk.new wn112 46 #[.int .u64 0, .int .u64 0])
            have hgt8 : w.heap.size < wn112.heap.size ∧ g7 < wn112.heap.size := ⟨P112.out.lt, Y112.out.lt⟩
            have hne : gg9 ≠ wn112.heap.size := Nat.ne_of_lt G9112.out.lt
            have P133 := Lib.hid (P112.out.alloc (.cells #[.int .u64 0, .int .u64 0] 46))
            have Y133 := Lib.hid (Y112.out.alloc (.cells #[.int .u64 0, .int .u64 0] 46))
            have B133 := Lib.hid (bAl B112.out (.cells #[.int .u64 0, .int .u64 0] 46))
            have G9133 := Lib.hid (G9112.out.alloc (.cells #[.int .u64 0, .int .u64 0] 46))
            generalize wn112.alloc (.cells #[.int .u64 0, .int .u64 0] 46) = wn133 at G8133 P133 Y133 B133 G9133 ⊢
            generalize wn112.heap.size = gg8 at G8133 hgt8 hne ⊢
            clear hH P112 Y112 B112 G9112
            have hH : BoxB w.heap.size g7 N D Y wn133 := ⟨P133.out.cell 0, P133.out.cell 1, Y133.out.cell 0, Y133.out.cell 1⟩
            try dsimp only
            refine hK.out _ _ hH ?_
            clear hK K
            try simp only [Act.put, List.setIfInBounds_toArray, List.set_cons_zero, List.set_cons_succ]
            refine HeadW.some_ [2] (by kernel_rfl) (fun i hi => ?_)
            simp only [List.mem_cons, List.mem_nil_iff, or_false] at hi
            subst hi
            · refine ⟨_, (by simp only [List.getElem?_toArray, List.getElem?_cons_succ, List.getElem?_cons_zero] <;> rfl), ?_⟩
              unfold StepAt
              intro K hK
              go_simp
              go_at_call 22
              refine (HSN.out _).mono ?_
              rintro e wz ⟨rfl, hw⟩
              obtain rfl := hw
              try dsimp only
              refine hK.out _ _ hH ?_
              clear hK K
              try simp only [Act.put, List.setIfInBounds_toArray, List.set_cons_zero, List.set_cons_succ]
              refine HeadW.some_ [4] (by kernel_rfl) (fun i hi => ?_)
              simp only [List.mem_cons, List.mem_nil_iff, or_false] at hi
              subst hi
              · refine ⟨_, (by simp only [List.getElem?_toArray, List.getElem?_cons_succ, List.getElem?_cons_zero] <;> rfl), ?_⟩
                unfold StepAt
                intro K hK
                go_simp
                go_at_call 39
                refine (HXT.out _).mono ?_
                rintro e wn134 ⟨th, tl, HTW, rfl, hb⟩
                have HTW' := Lib.hid HTW
                clear HTW
                have P134 := Lib.hid (P133.out.later hb)
                have Y134 := Lib.hid (Y133.out.later hb)
                have B134 := Lib.hid (bTr B133.out hb)
                have G8134 := Lib.hid (G8133.out.later hb)
                have G9134 := Lib.hid (G9133.out.later hb)
                clear hb hH P133 Y133 B133 G8133 G9133
                have hH : BoxB w.heap.size g7 N D Y wn134 := ⟨P134.out.cell 0, P134.out.cell 1, Y134.out.cell 0, Y134.out.cell 1⟩
                try dsimp only
                refine hK.out _ _ hH ?_
                clear hK K
                try simp only [Act.put, List.setIfInBounds_toArray, List.set_cons_zero, List.set_cons_succ]
                refine HeadW.some_ [6] (by kernel_rfl) (fun i hi => ?_)
                simp only [List.mem_cons, List.mem_nil_iff, or_false] at hi
                subst hi
                · refine ⟨_, (by simp only [List.getElem?_toArray, List.getElem?_cons_succ, List.getElem?_cons_zero] <;> rfl), ?_⟩
                  unfold StepAt
                  intro K hK
                  go_simp
                  go_at_call 38
                  refine (HDV.out _ _ HTW'.out _).mono ?_
                  rintro e wn135 ⟨qh, ql, rh, rl, ⟨HQW, HRW⟩, rfl, hb⟩
                  obtain ⟨rfl, rfl⟩ := w2_lowR HRW (by omega)
                  have HQW' := Lib.hid HQW
                  clear HQW HRW
                  have P135 := Lib.hid (P134.out.later hb)
                  have Y135 := Lib.hid (Y134.out.later hb)
                  have B135 := Lib.hid (bTr B134.out hb)
                  have G8135 := Lib.hid (G8134.out.later hb)
                  have G9135 := Lib.hid (G9134.out.later hb)
                  clear hb hH P134 Y134 B134 G8134 G9134
                  have hH : BoxB w.heap.size g7 N D Y wn135 := ⟨P135.out.cell 0, P135.out.cell 1, Y135.out.cell 0, Y135.out.cell 1⟩
                  try dsimp only
                  refine hK.out _ _ hH ?_
                  clear hK K
                  try simp only [Act.put, List.setIfInBounds_toArray, List.set_cons_zero, List.set_cons_succ]
                  refine HeadW.take (i := 7) (oi := ?oi136) (v := ?v136) ?hi136 (by kernel_rfl) ?hQ136 (Or.inl ⟨?hg136, ?hy136⟩) hH ?rest136
                  case hi136 => simp only [List.getElem?_toArray, List.getElem?_cons_succ, List.getElem?_cons_zero] <;> rfl
                  case hQ136 => exact fun _ _ _ h => h
                  case hg136 => rfl
                  case hy136 => intro W hSw; obtain ⟨s0, s1, s2, s3⟩ := hSw; go_simp; try with_reducible rfl
                  case rest136 =>
                  try simp only [Act.put, List.setIfInBounds_toArray, List.set_cons_zero, List.set_cons_succ]
                  refine HeadW.take (i := 8) (oi := ?oi137) (v := ?v137) ?hi137 (by kernel_rfl) ?hQ137 (Or.inl ⟨?hg137, ?hy137⟩) hH ?rest137
                  case hi137 => simp only [List.getElem?_toArray, List.getElem?_cons_succ, List.getElem?_cons_zero] <;> rfl
                  case hQ137 => exact fun _ _ _ h => h
                  case hg137 => rfl
                  case hy137 => intro W hSw; obtain ⟨s0, s1, s2, s3⟩ := hSw; go_simp; try with_reducible rfl
                  case rest137 =>
                  try simp only [Act.put, List.setIfInBounds_toArray, List.set_cons_zero, List.set_cons_succ]
                  refine HeadW.take (i := 9) (oi := ?oi138) (v := ?v138) ?hi138 (by kernel_rfl) ?hQ138 (Or.inl ⟨?hg138, ?hy138⟩) hH ?rest138
                  case hi138 => simp only [List.getElem?_toArray, List.getElem?_cons_succ, List.getElem?_cons_zero] <;> rfl
                  case hQ138 => exact fun _ _ _ h => h
                  case hg138 => rfl
                  case hy138 => intro W hSw; obtain ⟨s0, s1, s2, s3⟩ := hSw; go_simp; try with_reducible rfl
                  case rest138 =>
                  try simp only [Act.put, List.setIfInBounds_toArray, List.set_cons_zero, List.set_cons_succ]
                  refine HeadW.one (i := 12) (o := ?oi139) ?hi139 (by kernel_rfl) ?st139
                  case hi139 => simp only [List.getElem?_toArray, List.getElem?_cons_succ, List.getElem?_cons_zero] <;> rfl
                  case st139 =>
                  intro K hK
                  obtain ⟨⟨d0, d1⟩, ⟨f0, f1⟩, hltg⟩ := G8135.out.two
                  have PF := Lib.hid ((P135.out.off (b := gg8) (o := 0) (by omega) (.int .u64 qh)).off (b := gg8) (o := 1) (by omega) (.int .u64 ql))
                  have YF := Lib.hid ((Y135.out.off (b := gg8) (o := 0) (by omega) (.int .u64 qh)).off (b := gg8) (o := 1) (by omega) (.int .u64 ql))
                  have NF := Lib.hid ((G9135.out.off (b := gg8) (o := 0) (by omega) (.int .u64 qh)).off (b := gg8) (o := 1) (by omega) (.int .u64 ql))
                  have BF := Lib.hid (bSt (bSt B135.out (p := ⟨gg8, 0, none⟩) (by show w.heap.size ≤ gg8; omega) (.int .u64 qh)) (p := ⟨gg8, 1, none⟩) (by show w.heap.size ≤ gg8; omega) (.int .u64 ql))
                  have QF := Lib.hid ((G8135.out.set0 (.int .u64 qh)).set1 (.int .u64 ql))
                  clear hH
                  have hH : BoxB w.heap.size g7 N D Y (((wn135).setCell ⟨gg8, 0, none⟩ (.int .u64 qh)).setCell ⟨gg8, 1, none⟩ (.int .u64 ql)) := ⟨PF.out.cell 0, PF.out.cell 1, YF.out.cell 0, YF.out.cell 1⟩
                  go_simp
                  try dsimp only
                  refine hK.out _ _ hH ?_
                  clear hK K
                  try simp only [Act.put, List.setIfInBounds_toArray, List.set_cons_zero, List.set_cons_succ]
                  refine HeadW.done (by kernel_rfl) ?_
                  clear d0 d1 f0 f1 hltg hH
                  generalize ((wn135).setCell ⟨gg8, 0, none⟩ (.int .u64 qh)).setCell ⟨gg8, 1, none⟩ (.int .u64 ql) = wf at PF YF NF BF QF ⊢
                  obtain ⟨⟨d0, d1⟩, ⟨f0, f1⟩, hltg⟩ := NF.out.two
                  have HREL := Lib.hid (DD.out gg8 gg9 _ hgt8.1 (bSt (bSt BF.out (p := ⟨gg9, 0, none⟩) (by show w.heap.size ≤ gg9; omega) (.int .u64 0)) (p := ⟨gg9, 1, none⟩) (by show w.heap.size ≤ gg9; omega) (.int .u64 ((X * T % Y : Nat) : Int))) ((PF.out.off (b := gg9) (o := 0) (by omega) _).off (b := gg9) (o := 1) (by omega) _) ((YF.out.off (b := gg9) (o := 0) (by omega) _).off (b := gg9) (o := 1) (by omega) _) qh ql HQW'.out ((QF.out.off (b := gg9) (o := 0) (by omega) _).off (b := gg9) (o := 1) (by omega) _) ((NF.out.set0 _).set1 _))
                  go_wp2_with fail
                  go_meet
                  exact ⟨gg8, gg9, rfl, rfl, HREL.out⟩
      case rest =>
        obtain ⟨g8, g9, rfl, rfl, hV⟩ := hcut
        clear HXT HDV HSN HSD DD P2 Y2 B2
        obtain ⟨h, l, HW, hG⟩ := hV.q
        have PA := Lib.hid hV.a
        have PQ := Lib.hid hG
        have BV := Lib.hid hV.be
        have hgt := hV.gt
        obtain ⟨⟨y0, y1⟩, -, hy⟩ := hV.y.two
        obtain ⟨⟨r0, r1⟩, -, hrr⟩ := hV.r.two
        clear hV hG
        have hqb : X * T / Y ≤ Q := by rw [HDQ.out]; omega
        generalize X * T / Y = q at *
        generalize X * T % Y = r at *
        have HTW := Lib.hid (show ∀ w, Calls Tryd.prog 41 #[.agg #[.int .u64 0, .int .u64 (r : Int)]] w (fun e w' => e = .returned (.agg #[.int .u64 0, .int .u64 (2 * (r : Int))]) ∧ Below w.heap.size w w') from fun w => by
          have h := r_twice 0 (r : Int) w (by omega) (by omega) (by omega) (by omega)
          rw [show Rep.hi (2 * Rep.val 0 (r : Int)) = 0 by unfold Rep.hi Rep.val; omega, show Rep.lo (2 * Rep.val 0 (r : Int)) = 2 * (r : Int) by unfold Rep.lo Rep.val; omega] at h
          exact h)
        obtain ⟨cc, hcc⟩ : ∃ cc, cmpI (2 * (r : Int)) (Y : Int) = cc := ⟨_, rfl⟩
        have HOR := Lib.hid (show ∀ w, Calls Tryd.prog 40 #[.agg #[.int .u64 0, .int .u64 (2 * (r : Int))], .agg #[.int .u64 0, .int .u64 (Y : Int)]] w (fun e w' => e = .returned (.int .i64 cc) ∧ Below w.heap.size w w') from fun w => by
          have h := r_order 0 (2 * (r : Int)) 0 (Y : Int) w (by omega) (by omega) (by omega) (by omega) (by omega) (by omega) (by omega) (by omega)
          rw [show Rep.val 0 (2 * (r : Int)) = 2 * (r : Int) by unfold Rep.val; omega, show Rep.val 0 (Y : Int) = (Y : Int) by unfold Rep.val; omega, hcc] at h
          exact h)
        have qy0 := bq_cell (w := wc) (a := ⟨g7, 0, none⟩) hy y0
        have qy1 := bq_cell (w := wc) (a := ⟨g7, 1, none⟩) hy y1
        have qr0 := bq_cell (w := wc) (a := ⟨g9, 0, none⟩) hrr r0
        have qr1 := bq_cell (w := wc) (a := ⟨g9, 1, none⟩) hrr r1
        clear y0 y1 r0 r1 hy hrr
        go_upto_region 10 with fail
        refine wp_region_below (by kernel_rfl) (by kernel_rfl) ?_
        repeat (go_big_quiet_step ((first | (go_at_call 41; exact bq_call (HTW.out _)) | (go_at_call 40; exact bq_call (HOR.out _)))))
        refine wpQuiet_nil ?_
        rintro w4 ⟨p, rfl⟩
        have PA4 := Lib.hid (PA.out.later p.h)
        have PQ4 := Lib.hid (PQ.out.later p.h)
        have BV4 := Lib.hid (bTr BV.out p.h)
        clear HTW HOR qy0 qy1 qr0 qr1 PA PQ BV
        generalize p.to = w4 at *
        obtain ⟨ob, hob⟩ : ∃ ob, decide (q % 2 = 1) = ob := ⟨_, rfl⟩
        have hl0 := HW.l0
        have hl3 : (l % 2 == 1) = ob := by
          rw [← hob]
          have := HW.e
          by_cases h2 : q % 2 = 1
          · rw [decide_eq_true h2, beq_iff_eq]; omega
          · rw [decide_eq_false h2, beq_eq_false_iff_ne]; omega
        have hl2 : (l.tmod 2 == 1) = ob := by rw [Int.tmod_eq_emod_of_nonneg hl0, hl3]
        obtain ⟨up, hup⟩ : ∃ up, decide (rup Y q r = 1) = up := ⟨_, rfl⟩
        have HUP := Lib.hid (show Q = q + (if up = true then 1 else 0) by
          rw [HDQ.out, ← hup]
          unfold rup
          by_cases h1 : Y < 2 * r ∨ 2 * r = Y ∧ q % 2 = 1
          · rw [if_pos h1]; simp
          · rw [if_neg h1]; simp)
        have HCC := Lib.hid (show (cc = 1 ∧ up = true) ∨ (cc = 0 ∧ up = ob) ∨ (cc = -1 ∧ up = false) by
          rw [← hcc, ← hup, ← hob]
          unfold cmpI rup
          by_cases h1 : Y < 2 * r
          · left
            rw [if_neg (by omega), if_pos (by omega), if_pos (.inl h1)]
            exact ⟨rfl, rfl⟩
          · by_cases h2 : 2 * r = Y
            · right; left
              rw [if_neg (by omega), if_neg (by omega)]
              refine ⟨rfl, ?_⟩
              by_cases h3 : q % 2 = 1
              · rw [if_pos (.inr ⟨h2, h3⟩), decide_eq_true h3]; rfl
              · rw [if_neg (by rintro (h | ⟨_, h⟩) <;> omega), decide_eq_false h3]; rfl
            · right; right
              rw [if_pos (by omega), if_neg (by rintro (h | ⟨h, _⟩) <;> omega)]
              exact ⟨rfl, rfl⟩)
        clear hup hob hcc HDQ
        obtain ⟨⟨c0, c1⟩, ⟨f0, f1⟩, hlt⟩ := PQ4.out.two
        go_upto_region 11 with fail
        go_cut [59] (fun s wx => s = .bool up ∧ w4 = wx)
        case first =>
          rcases HCC.out with ⟨rfl, rfl⟩ | ⟨rfl, rfl⟩ | ⟨rfl, rfl⟩
          · go_wp2_with fail
            go_meet
            exact ⟨rfl, rfl⟩
          · cases up
            · go_wp2_with fail
              go_meet
              exact ⟨rfl, rfl⟩
            · go_wp2_with fail
              go_meet
              exact ⟨rfl, rfl⟩
          · go_wp2_with fail
            go_meet
            exact ⟨rfl, rfl⟩
        case rest =>
          obtain ⟨rfl, rfl⟩ := hcut
          clear HCC hl2 hl3
          go_upto_if 59 with (fail)
          go_cut [] (fun wx => RD w N D Q g8 wx)
          case first =>
            cases up
            · go_wp2_with fail
              go_meet
              exact ⟨PA4.out, ⟨h, l, by rw [HUP.out]; simpa using HW, PQ4.out⟩, BV4.out, hgt⟩
            · have HPL := Lib.hid (rplus_w HW (show W2 0 1 1 from W2.mkLow (x := 1) (by omega)) (by omega) w4)
              go_wp2_with fail
              refine HPL.out.mono ?_
              rintro e wd ⟨h2, l2, H2, rfl, hb⟩
              have PQ5 := Lib.hid (PQ4.out.later hb)
              have PA5 := Lib.hid (((PA4.out.later hb).off (b := g8) (o := 0) (by omega) (.int .u64 h2)).off (b := g8) (o := 1) (by omega) (.int .u64 l2))
              have PQ6 := Lib.hid ((PQ5.out.set0 (.int .u64 h2)).set1 (.int .u64 l2))
              have BV5 := Lib.hid (bSt (bSt (bTr BV4.out hb) (p := ⟨g8, 0, none⟩) (by show w.heap.size ≤ g8; omega) (.int .u64 h2)) (p := ⟨g8, 1, none⟩) (by show w.heap.size ≤ g8; omega) (.int .u64 l2))
              clear hb c0 c1 f0 f1 hlt
              obtain ⟨⟨c0, c1⟩, ⟨f0, f1⟩, hlt⟩ := PQ5.out.two
              go_wp2_with fail
              go_meet
              exact ⟨PA5.out, ⟨h2, l2, by rw [HUP.out]; exact H2, PQ6.out⟩, BV5.out, hgt⟩
          case rest =>
            clear PA4 PQ4 BV4 hgt HW HUP hqb hl0 c0 c1 f0 f1 hlt
            obtain ⟨h3, l3, HW, hG⟩ := hcut.q
            have PA := Lib.hid hcut.a
            have PQ := Lib.hid hG
            have BC := Lib.hid hcut.be
            clear hG hcut
            obtain ⟨⟨c0, c1⟩, -, hlt⟩ := PQ.out.two
            have HDG := Lib.hid (fun w => digits_any HW w)
            have hd39 := decD_len 39 Q (by omega) (Nat.lt_trans HW.bd (by decide))
            generalize hdd : decDigits Q = dd at *
            go_wp2_with fail
            refine (HDG.out _).mono ?_
            rintro e w6 ⟨rfl, hb⟩
            have PA6 := Lib.hid (PA.out.later hb)
            have PQ6 := Lib.hid (PQ.out.later hb)
            have BQ := Lib.hid (bTr BC.out hb)
            have HD := Lib.hid hdd
            clear hb PA PQ BC HDG c0 c1 hlt hdd
            go_wp2_with fail
            go_loop [11] (fun s => ∃ m : Nat, m ≤ j + 1 - dd.length ∧ s = .string ⟨(List.replicate m (48 : UInt8) ++ dd).toArray⟩) (fun s => j + 40 - strLenR s)
            case atStart => exact ⟨0, by omega, rfl⟩
            case round =>
              obtain ⟨m, hm, rfl⟩ := hrel
              have hlen : (List.replicate m (48 : UInt8) ++ dd).length = m + dd.length := by rw [List.length_append, List.length_replicate]
              by_cases hmk : m + dd.length < j + 1
              · have HS2 := Lib.hid (show (⟨#[48]⟩ : ByteArray) ++ ⟨(List.replicate m (48 : UInt8) ++ dd).toArray⟩ = ⟨(List.replicate (m + 1) (48 : UInt8) ++ dd).toArray⟩ by
                  rw [show (⟨#[48]⟩ : ByteArray) = ⟨[48].toArray⟩ from rfl, text_app, List.replicate_succ]; rfl)
                have HL2 := Lib.hid (show (List.replicate (m + 1) (48 : UInt8) ++ dd).length = m + 1 + dd.length by rw [List.length_append, List.length_replicate])
                generalize hL2 : List.replicate (m + 1) (48 : UInt8) ++ dd = L2 at HS2 HL2
                have HLL := Lib.hid hL2
                clear hL2
                generalize List.replicate m (48 : UInt8) ++ dd = L1 at *
                have hmk' : ((L1.length : Nat) : Int) < (j : Int) + 1 := by omega
                have z1 : ¬ 9223372036854775807 < 1 + L1.length := by omega
                have hwj : IntKind.i64.wrap ((j : Int) + 1) = (j : Int) + 1 := wrapSn (by omega) (by omega)
                go_wp2
                go_round
                case rel => exact ⟨m + 1, by omega, by rw [HS2.out, HLL.out]⟩
                case measure =>
                  rw [HS2.out]
                  show j + 40 - (⟨L2.toArray⟩ : ByteArray).size < j + 40 - (⟨L1.toArray⟩ : ByteArray).size
                  rw [text_size, text_size, HL2.out, hlen]
                  omega
              · have hps : List.replicate m (48 : UInt8) ++ dd = padL (j + 1) dd := by
                  unfold padL
                  rw [show m = j + 1 - dd.length by omega]
                have hpl : (padL (j + 1) dd).length = m + dd.length := by rw [← hps]; exact hlen
                rw [hps] at hlen ⊢
                clear hps
                obtain ⟨⟨a0, a1⟩, -, -⟩ := PA6.out.two
                obtain ⟨⟨c0, c1⟩, -, hlt⟩ := PQ6.out.two
                have hwj : IntKind.i64.wrap ((j : Int) + 1) = (j : Int) + 1 := wrapSn (by omega) (by omega)
                have hmk' : ¬ (((padL (j + 1) dd).length : Nat) : Int) < (j : Int) + 1 := by omega
                by_cases hj0 : j = 0
                · have hkk : ¬ (0 : Int) < (j : Int) := by omega
                  have hT1 : T = 1 := by rw [← HT.out, hj0]
                  have HK := Lib.hid (show decDigits (Q / T) ++ (if 0 < j then 46 :: padL j (decDigits (Q % T)) else []) = dd by rw [if_neg (by omega), List.append_nil, hT1, Nat.div_one, HD.out])
                  have hpi : padL (j + 1) dd = dd := padL_id (by omega)
                  rw [hpi] at hmk' ⊢
                  clear hj0 hT1 hpi hpl hlen HSP HRL
                  obtain ⟨dl, hdl⟩ : ∃ dl, dl = dd := ⟨_, rfl⟩
                  rw [← hdl] at HK hmk' hd39 ⊢
                  clear hdl
                  have hss : (⟨dl.toArray⟩ : ByteArray).size = dl.length := text_size dl
                  have HS := Lib.hid (show (⟨dl.toArray⟩ : ByteArray) = ⟨dl.toArray⟩ from rfl)
                  have z1 : ¬ 9223372036854775807 < 1 + dl.length := by omega
                  by_cases hn : N < 0
                  rotate_left
                  · skip
                    have HLX := Lib.hid (show LL = dl by rw [HDL.out, if_neg (fun h => hn h.1), HK.out, List.nil_append])
                    have HTX := Lib.hid (show (⟨dl.toArray⟩ : ByteArray) = ⟨LL.toArray⟩ by rw [← HS.out]; rw [HLX.out]; try rfl)
                    go_wp2
                    go_ret
                    exact ⟨ret_str HTX.out, BQ.out⟩
                  by_cases hz : Q = 0
                  · skip
                    have HLX := Lib.hid (show LL = dl by rw [HDL.out, if_neg (fun h => h.2 hz), HK.out, List.nil_append])
                    have hneq : ∀ W, (binOp .neq 46 (.agg #[.int .u64 h3, .int .u64 l3]) (.agg #[.int .u64 0, .int .u64 0])).run Tryd.prog W = .ok (.bool false) W := fun W => by rw [neqW, zeroW HW, decide_eq_true hz]; rfl
                    have HTX := Lib.hid (show (⟨dl.toArray⟩ : ByteArray) = ⟨LL.toArray⟩ by rw [← HS.out]; rw [HLX.out]; try rfl)
                    clear hz
                    go_wp2
                    go_ret
                    exact ⟨ret_str HTX.out, BQ.out⟩
                  · skip
                    have HLX := Lib.hid (show LL = [45] ++ (dl) by rw [HDL.out, if_pos ⟨hn, hz⟩, HK.out])
                    have hneq : ∀ W, (binOp .neq 46 (.agg #[.int .u64 h3, .int .u64 l3]) (.agg #[.int .u64 0, .int .u64 0])).run Tryd.prog W = .ok (.bool true) W := fun W => by rw [neqW, zeroW HW, decide_eq_false hz]; rfl
                    have HTX := Lib.hid (show (⟨#[45]⟩ : ByteArray) ++ (⟨dl.toArray⟩) = ⟨LL.toArray⟩ by rw [show (⟨#[45]⟩ : ByteArray) = ⟨[45].toArray⟩ from rfl, ← HS.out, text_app]; rw [HLX.out]; try rfl)
                    clear hz
                    go_wp2
                    go_ret
                    exact ⟨ret_str HTX.out, BQ.out⟩
                · have hkk : (0 : Int) < (j : Int) := by omega
                  have HK := Lib.hid (show decDigits (Q / T) ++ (if 0 < j then 46 :: padL j (decDigits (Q % T)) else []) = decDigits (Q / T) ++ 46 :: padL j (decDigits (Q % T)) by rw [if_pos (by omega)])
                  have hpj : (padL j (decDigits (Q % T))).length = j := padL_len (HRL.out (by omega)).2
                  have hsp := HSP.out (by omega)
                  generalize padL j (decDigits (Q % T)) = pl at *
                  generalize decDigits (Q / T) = dl at *
                  rw [hsp] at hmk' hpl hlen ⊢
                  rw [List.length_append] at hpl hmk'
                  have hss : (⟨(dl ++ pl).toArray⟩ : ByteArray).size = dl.length + pl.length := by rw [text_size, List.length_append]
                  have x1 : (⟨(dl ++ pl).toArray⟩ : ByteArray).extract 0 dl.length = ⟨dl.toArray⟩ := by
                    apply ByteArray.ext
                    apply Array.ext'
                    rw [ext_list, List.drop_zero]
                    show (dl ++ pl).take dl.length = dl
                    rw [List.take_left]
                  have x2 : (⟨(dl ++ pl).toArray⟩ : ByteArray).extract dl.length (dl.length + j) = ⟨pl.toArray⟩ := by
                    rw [← hpj]
                    apply ByteArray.ext
                    apply Array.ext'
                    rw [ext_list]
                    show ((dl ++ pl).take (dl.length + pl.length)).drop dl.length = pl
                    rw [List.take_of_length_le (by rw [List.length_append]; omega), List.drop_left]
                  clear hsp HSP HRL hj0
                  generalize (⟨(dl ++ pl).toArray⟩ : ByteArray) = s at *
                  have hwn : IntKind.i64.wrap ((s.size : Int) - (j : Int)) = (dl.length : Int) := by rw [hss, hpj]; rw [wrapSn (by omega) (by omega)]; omega
                  have z1 : ¬ 9223372036854775807 < dl.length + 1 := by omega
                  have z2 : ¬ 9223372036854775807 < dl.length + 1 + pl.length := by omega
                  have z3 : ¬ 9223372036854775807 < 1 + (dl.length + 1 + pl.length) := by omega
                  have hmk2 : ¬ (s.size : Int) < (j : Int) + 1 := by rw [hss]; omega
                  go_wp2_with fail
                  go_quiet (fail)
                  have PA7 := Lib.hid (PA6.out.drewN nq)
                  have PQ7 := Lib.hid (PQ6.out.drewN nq)
                  have BQ7 := Lib.hid (bDr BQ.out nq)
                  clear PA6 PQ6 BQ a0 a1 c0 c1 hlt x1 x2 hwn
                  have BQ := Lib.hid BQ7.out
                  clear BQ7
                  generalize w6.drewN nq = w7 at PA7 PQ7 BQ ⊢
                  obtain ⟨⟨a0, a1⟩, -, -⟩ := PA7.out.two
                  obtain ⟨⟨c0, c1⟩, -, hlt⟩ := PQ7.out.two
                  by_cases hn : N < 0
                  rotate_left
                  · skip
                    have HLX := Lib.hid (show LL = dl ++ (46 :: pl) by rw [HDL.out, if_neg (fun h => hn h.1), HK.out, List.nil_append])
                    have HTX := Lib.hid (show (⟨dl.toArray⟩ : ByteArray) ++ ⟨#[46]⟩ ++ ⟨pl.toArray⟩ = ⟨LL.toArray⟩ by rw [show (⟨#[46]⟩ : ByteArray) = ⟨[46].toArray⟩ from rfl, text_app, text_app, List.append_assoc]; rw [HLX.out]; try rfl)
                    go_wp2
                    go_ret
                    exact ⟨ret_str HTX.out, BQ.out⟩
                  by_cases hz : Q = 0
                  · skip
                    have HLX := Lib.hid (show LL = dl ++ (46 :: pl) by rw [HDL.out, if_neg (fun h => h.2 hz), HK.out, List.nil_append])
                    have hneq : ∀ W, (binOp .neq 46 (.agg #[.int .u64 h3, .int .u64 l3]) (.agg #[.int .u64 0, .int .u64 0])).run Tryd.prog W = .ok (.bool false) W := fun W => by rw [neqW, zeroW HW, decide_eq_true hz]; rfl
                    have HTX := Lib.hid (show (⟨dl.toArray⟩ : ByteArray) ++ ⟨#[46]⟩ ++ ⟨pl.toArray⟩ = ⟨LL.toArray⟩ by rw [show (⟨#[46]⟩ : ByteArray) = ⟨[46].toArray⟩ from rfl, text_app, text_app, List.append_assoc]; rw [HLX.out]; try rfl)
                    clear hz
                    go_wp2
                    go_ret
                    exact ⟨ret_str HTX.out, BQ.out⟩
                  · skip
                    have HLX := Lib.hid (show LL = [45] ++ (dl ++ (46 :: pl)) by rw [HDL.out, if_pos ⟨hn, hz⟩, HK.out])
                    have hneq : ∀ W, (binOp .neq 46 (.agg #[.int .u64 h3, .int .u64 l3]) (.agg #[.int .u64 0, .int .u64 0])).run Tryd.prog W = .ok (.bool true) W := fun W => by rw [neqW, zeroW HW, decide_eq_false hz]; rfl
                    have HTX := Lib.hid (show (⟨#[45]⟩ : ByteArray) ++ ((⟨dl.toArray⟩ : ByteArray) ++ ⟨#[46]⟩ ++ ⟨pl.toArray⟩) = ⟨LL.toArray⟩ by rw [show (⟨#[46]⟩ : ByteArray) = ⟨[46].toArray⟩ from rfl, show (⟨#[45]⟩ : ByteArray) = ⟨[45].toArray⟩ from rfl, text_app, text_app, text_app, List.append_assoc]; rw [HLX.out]; try rfl)
                    clear hz
                    go_wp2
                    go_ret
                    exact ⟨ret_str HTX.out, BQ.out⟩

end Go.Proofs.YtjdldkafghblmaaDoor
