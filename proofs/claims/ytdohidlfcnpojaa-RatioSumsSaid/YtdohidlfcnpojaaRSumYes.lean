/-
  The reference's Sum at a list of valid fractions.
-/
import Derived.Test.YtdohidlfcnpojaaRSum
import Derived.Test.YtdohidlfcnpojaaQuietTail
set_option linter.unusedVariables false
set_option linter.unusedSimpArgs false
namespace Go.Proofs.Ytdohidlfcnpojaa
open Go.RowKit
set_option linter.unusedSimpArgs false
set_option linter.unusedVariables false

theorem gcd_small (x d : Nat) (hx : x ≤ 1152921504606846976) (hd : d ≤ 1152921504606846976) (d0 : 0 < d) (w : World) :
    Calls Try.prog 58 #[.agg #[.int .u64 0, .int .u64 (x : Int)], .agg #[.int .u64 0, .int .u64 (d : Int)]] w fun e w' => e = .returned (.agg #[.int .u64 0, .int .u64 ((Nat.gcd x d : Nat) : Int)]) ∧ Below w.heap.size w w' := by
  refine (divisor_w (W2.mkLow (by omega)) (W2.mkLow (by omega)) w).mono ?_
  rintro e w' ⟨h, l, hw, rfl, hb⟩
  obtain ⟨rfl, rfl⟩ := hw.small (Nat.le_trans (Nat.le_of_dvd d0 (Nat.gcd_dvd_right x d)) hd)
  exact ⟨rfl, hb⟩
theorem div_small (a b : Nat) (ha : a ≤ 1152921504606846976) (hb' : b ≤ 1152921504606846976) (b0 : 0 < b) (w : World) :
    Calls Try.prog 57 #[.agg #[.int .u64 0, .int .u64 (a : Int)], .agg #[.int .u64 0, .int .u64 (b : Int)]] w fun e w' => e = .returned (.tuple #[.agg #[.int .u64 0, .int .u64 ((a / b : Nat) : Int)], .agg #[.int .u64 0, .int .u64 ((a % b : Nat) : Int)]]) ∧ Below w.heap.size w w' := by
  refine (divide_w (W2.mkLow (by omega)) (W2.mkLow (by omega)) b0 w).mono ?_
  rintro e w' ⟨qh, ql, rh, rl, ⟨hq, hr⟩, rfl, hb⟩
  obtain ⟨rfl, rfl⟩ := hq.small (Nat.le_trans (Nat.div_le_self a b) ha)
  obtain ⟨rfl, rfl⟩ := hr.small (Nat.le_trans (Nat.mod_le a b) ha)
  exact ⟨rfl, hb⟩
set_option maxRecDepth 100000 in
set_option maxHeartbeats 8000000 in
theorem rsum_yes (o : Option Addr) (n c : Nat) (L : Nat → Fr) (w : World) (hr : RowR w w.heap.size o n L) (hn : n ≤ 100) (hv : ∀ i, i < n → Frac.valid (L i).1 (L i).2 = true) :
    Calls Try.prog 24 #[.slice o n c] w fun e w' => e = .returned (.tuple #[.agg #[.int .i64 (sRN L n), .int .i64 (sRD L n)], .int .i64 (sRE L n)]) ∧ Below w.heap.size w w' := by
  have HR := Lib.hid hr
  have HV := Lib.hid hv
  have HP := Lib.hid (fun i (hi : i < n) => den_pos' (hv i hi))
  have hn' : ¬ (100 : Int) < (n : Int) := by omega
  clear hr hv
  go_enter Try.func24, Try.ntmps24
  go_wp2
  have B0 : Blk (w.alloc (.cells #[.int .i64 0, .int .i64 0] 26)) w.heap.size 26 #[.int .i64 0, .int .i64 0] := Blk.newAt rfl
  have hb0 := bAl (Below.refl w.heap.size w) (.cells #[.int .i64 0, .int .i64 0] 26)
  go_loopw [4] (fun i wr => ∃ k : Nat, i = .int .i64 k ∧ k ≤ n ∧ Hid (Blk wr w.heap.size 26 #[.int .i64 0, .int .i64 0] ∧ Below w.heap.size w wr)) (fun i _ => n - (intOf i).toNat)
  case atStart => exact ⟨0, rfl, Nat.zero_le _, B0, hb0⟩
  case round =>
    clear B0 hb0
    obtain ⟨k, rfl, hk, HB⟩ := hrel
    by_cases hkn : k < n
    · have hkn' : (k : Int) < (n : Int) := by omega
      obtain ⟨b, off, rfl, hbB, g0, g1⟩ := HR.out k hkn
      have c0 := (HB.out.2.cell (p := ⟨b, off + k * 2, none⟩) hbB).trans g0
      have c1 := (HB.out.2.cell (p := ⟨b, off + k * 2 + 1, none⟩) hbB).trans g1
      have hvk := HV.out k hkn
      obtain ⟨d1, d2, e1, e2, -⟩ := (valid_iff _ _).1 hvk
      have HVK := Lib.hid hvk
      clear g0 g1 hvk
      generalize (L k).1 = p at c0 e1 e2 HVK
      generalize (L k).2 = d at c1 d1 d2 HVK
      go_wp2_with fail
      refine (r_valid _ _ (by omega) (by omega) (by omega) (by omega) _).mono ?_
      rintro e w1 ⟨rfl, hb1⟩
      rw [HVK.out]
      have HB1 := Lib.hid (And.intro (HB.out.1.later hb1) (bTr HB.out.2 hb1))
      clear hb1 HB c0 c1
      go_wp2
      go_roundw
      case rel => exact ⟨k + 1, by go_num, by omega, HB1.out⟩
      case measure => simp [intOf]; omega
    · obtain rfl : n = k := by omega
      go_wp2_with fail
      have H0 := Lib.hid (show Blk (wr.alloc (.cells #[.int .u64 0, .int .u64 1] 65)) w.heap.size 26 #[.int .i64 0, .int .i64 0] ∧ Blk (wr.alloc (.cells #[.int .u64 0, .int .u64 1] 65)) wr.heap.size 65 #[.int .u64 0, .int .u64 ((1 : Nat) : Int)] ∧ Below w.heap.size w (wr.alloc (.cells #[.int .u64 0, .int .u64 1] 65)) from ⟨HB.out.1.alloc _, Blk.newAt rfl, bAl HB.out.2 _⟩)
      have hwr := HB.out.1.lt
      clear HB
      generalize wr.alloc (.cells #[.int .u64 0, .int .u64 1] 65) = w0 at H0 ⊢
      generalize wr.heap.size = G at H0 hwr ⊢
      go_loopw [6] (fun i wx => ∃ (k x : Nat), i = .int .i64 k ∧ k ≤ n ∧ Hid (x = lcmF L k) ∧ x ≤ 1152921504606846976 ∧ Hid (Blk wx w.heap.size 26 #[.int .i64 0, .int .i64 0] ∧ Blk wx G 65 #[.int .u64 0, .int .u64 (x : Int)] ∧ Below w.heap.size w wx)) (fun i _ => n - (intOf i).toNat)
      case atStart => exact ⟨0, 1, rfl, Nat.zero_le _, rfl, by omega, H0.out⟩
      case round =>
        clear H0
        obtain ⟨k, x, rfl, hk, HX0, hx, HB⟩ := hrel
        by_cases hkn : k < n
        · have hkn' : (k : Int) < (n : Int) := by omega
          obtain ⟨b, off, rfl, hbB, g0, g1⟩ := HR.out k hkn
          have c1 := (HB.out.2.2.cell (p := ⟨b, off + k * 2 + 1, none⟩) hbB).trans g1
          obtain ⟨d1, d2, e1, e2, -⟩ := (valid_iff _ _).1 (HV.out k hkn)
          have hx0 : 0 < x := by have := lcmF_pos L k (fun i hi => HP.out i (by omega)); rw [← HX0.out] at this; exact this
          have HN := Lib.hid (show x * ((L k).2.natAbs / Nat.gcd x (L k).2.natAbs) = lcmF L (k + 1) by rw [← Nat.mul_div_assoc _ (Nat.gcd_dvd_right _ _), HX0.out]; rfl)
          have HLE := Lib.hid (lcmF_le L (show k + 1 ≤ n by omega) HP.out)
          clear g0 g1
          generalize (L k).1 = p at e1 e2
          generalize (L k).2 = d at c1 d1 d2 HN
          obtain ⟨dn, rfl⟩ := Int.eq_ofNat_of_zero_le (show 0 ≤ d by omega)
          rw [Int.natAbs_natCast] at HN
          have hg0 : 0 < Nat.gcd x dn := Nat.gcd_pos_of_pos_left _ hx0
          have hgd : Nat.gcd x dn ≤ dn := Nat.le_of_dvd (by omega) (Nat.gcd_dvd_right x dn)
          have GC := Lib.hid (fun w => gcd_small x dn hx (by omega) (by omega) w)
          generalize Nat.gcd x dn = g at HN hg0 hgd GC
          have DV := Lib.hid (fun w => div_small dn g (by omega) (by omega) hg0 w)
          have hqd : dn / g ≤ dn := Nat.div_le_self _ _
          generalize dn / g = q at HN hqd DV
          generalize dn % g = r at DV
          go_upto_region 13 with (go_at_call 52; refine (size_any _ (by omega) (by omega) _).mono ?_; rintro e w' ⟨rfl, rfl⟩; rw [Int.natAbs_natCast])
          have HB2 := Lib.hid (show Blk (wr.alloc (.cells #[.int .u64 0, .int .u64 (dn : Int)] 65)) w.heap.size 26 #[.int .i64 0, .int .i64 0] ∧ Blk (wr.alloc (.cells #[.int .u64 0, .int .u64 (dn : Int)] 65)) G 65 #[.int .u64 0, .int .u64 (x : Int)] ∧ Blk (wr.alloc (.cells #[.int .u64 0, .int .u64 (dn : Int)] 65)) wr.heap.size 65 #[.int .u64 0, .int .u64 (dn : Int)] ∧ Below w.heap.size w (wr.alloc (.cells #[.int .u64 0, .int .u64 (dn : Int)] 65)) from ⟨HB.out.1.alloc _, HB.out.2.1.alloc _, Blk.newAt rfl, bAl HB.out.2.2 _⟩)
          clear HB c1
          generalize wr.alloc (.cells #[.int .u64 0, .int .u64 (dn : Int)] 65) = w2 at HB2 ⊢
          generalize wr.heap.size = g7 at HB2 ⊢
          have KEEP := Lib.hid (show ∀ W, Below w2.heap.size w2 W → _ from fun W hW => show (W.cell? ⟨G, 0, none⟩ = some (.int .u64 0) ∧ W.cell? ⟨G, 1, none⟩ = some (.int .u64 (x : Int)) ∧ W.cell? ⟨g7, 0, none⟩ = some (.int .u64 0) ∧ W.cell? ⟨g7, 1, none⟩ = some (.int .u64 (dn : Int))) from ⟨((HB2.out.2.1.later hW).two).1.1, ((HB2.out.2.1.later hW).two).1.2, ((HB2.out.2.2.1.later hW).two).1.1, ((HB2.out.2.2.1.later hW).two).1.2⟩)
          have HX := Lib.hid (Below.refl w2.heap.size w2)
          obtain ⟨j1, j2, j3, j4⟩ := KEEP.out _ HX.out
          go_cut [8] (fun s8 wx => NumP w2 65 (.int .u64 0) (.int .u64 (q : Int)) s8 wx)
          case first =>
            go_region_held3 (fun W => W.cell? ⟨G, 0, none⟩ = some (.int .u64 0) ∧ W.cell? ⟨G, 1, none⟩ = some (.int .u64 (x : Int)) ∧ W.cell? ⟨g7, 0, none⟩ = some (.int .u64 0) ∧ W.cell? ⟨g7, 1, none⟩ = some (.int .u64 (dn : Int))) (first | (refine KEEP.out _ ?_; (repeat (first | with_reducible exact HX.out | with_reducible refine bAl ?_ _ | with_reducible refine bD1 ?_ | (with_reducible refine bSt ?_ ?_ _; rotate_left; (focus (first | omega | (simp; done) | (simp; omega)))))); done) | go_keep)
              (first | (go_at_call 58; refine (GC.out _).mono ?_; rintro e w5 ⟨rfl, hb⟩; (first | (refine (fun (PA : Hid (Blk w5 (w2.heap.size) 65 #[.int .u64 0, .int .u64 0])) => ?_) (Lib.hid (Blk.later ?_ hb)); rotate_left; (focus ((repeat (first | (with_reducible refine Blk.newAt ?_; (simp; done)) | with_reducible refine Blk.alloc ?_ _ | with_reducible refine Blk.drew ?_)); done)); obtain ⟨⟨n1a, n1b⟩, ⟨m1a, m1b⟩, nk1⟩ := PA.out.two; have nl1 := Nat.ne_of_lt nk1; have nr1 := Nat.ne_of_gt nk1) | skip); (first | (refine (fun (PB : Hid (Blk w5 (w2.heap.size + 1) 65 #[.int .u64 0, .int .u64 0])) => ?_) (Lib.hid (Blk.later ?_ hb)); rotate_left; (focus ((repeat (first | (with_reducible refine Blk.newAt ?_; (simp; done)) | with_reducible refine Blk.alloc ?_ _ | with_reducible refine Blk.drew ?_)); done)); obtain ⟨⟨n2a, n2b⟩, ⟨m2a, m2b⟩, nk2⟩ := PB.out.two; have nl2 := Nat.ne_of_lt nk2; have nr2 := Nat.ne_of_gt nk2) | skip); have HX := Lib.hid (show Below w2.heap.size w2 w5 from bTr (by (repeat (first | with_reducible exact HX.out | with_reducible refine bAl ?_ _ | with_reducible refine bD1 ?_)); done) hb); have hsw5 := HX.out.size; clear hb) | (go_at_call 57; refine (DV.out _).mono ?_; rintro e w6 ⟨rfl, hb⟩; (first | (refine (fun (PA : Hid (Blk w6 (w2.heap.size) 65 #[.int .u64 0, .int .u64 0])) => ?_) (Lib.hid (Blk.later ?_ hb)); rotate_left; (focus ((repeat (first | with_reducible exact PA.out | with_reducible refine Blk.alloc ?_ _ | with_reducible refine Blk.drew ?_)); done)); obtain ⟨⟨n3a, n3b⟩, ⟨m3a, m3b⟩, nk3⟩ := PA.out.two; have nl3 := Nat.ne_of_lt nk3; have nr3 := Nat.ne_of_gt nk3) | skip); (first | (refine (fun (PB : Hid (Blk w6 (w2.heap.size + 1) 65 #[.int .u64 0, .int .u64 0])) => ?_) (Lib.hid (Blk.later ?_ hb)); rotate_left; (focus ((repeat (first | with_reducible exact PB.out | with_reducible refine Blk.alloc ?_ _ | with_reducible refine Blk.drew ?_)); done)); obtain ⟨⟨n4a, n4b⟩, ⟨m4a, m4b⟩, nk4⟩ := PB.out.two; have nl4 := Nat.ne_of_lt nk4; have nr4 := Nat.ne_of_gt nk4) | skip); (first | (refine (fun (PC : Hid (Blk w6 (w5.heap.size) 65 #[.int .u64 0, .int .u64 0])) => ?_) (Lib.hid (Blk.later ?_ hb)); rotate_left; (focus ((repeat (first | (with_reducible refine Blk.newAt ?_; (simp; done)) | with_reducible refine Blk.alloc ?_ _ | with_reducible refine Blk.drew ?_)); done)); obtain ⟨⟨n5a, n5b⟩, ⟨m5a, m5b⟩, nk5⟩ := PC.out.two; have nl5 := Nat.ne_of_lt nk5; have nr5 := Nat.ne_of_gt nk5) | skip); (first | (refine (fun (PD : Hid (Blk w6 (w5.heap.size + 1) 65 #[.int .u64 0, .int .u64 0])) => ?_) (Lib.hid (Blk.later ?_ hb)); rotate_left; (focus ((repeat (first | (with_reducible refine Blk.newAt ?_; (simp; done)) | with_reducible refine Blk.alloc ?_ _ | with_reducible refine Blk.drew ?_)); done)); obtain ⟨⟨n6a, n6b⟩, ⟨m6a, m6b⟩, nk6⟩ := PD.out.two; have nl6 := Nat.ne_of_lt nk6; have nr6 := Nat.ne_of_gt nk6) | skip); have HX := Lib.hid (show Below w2.heap.size w2 w6 from bTr (by (repeat (first | with_reducible exact HX.out | with_reducible refine bAl ?_ _ | with_reducible refine bD1 ?_)); done) hb); have hsw6 := HX.out.size; clear hb))
            all_goals (go_wp2_with fail; go_meet)
            all_goals refine ⟨_, rfl, ?_, ?_, ?_⟩
            all_goals first | omega | (simp; omega) | ((repeat (first | with_reducible exact PA.out | with_reducible exact PB.out | with_reducible exact PC.out | with_reducible exact PD.out | (with_reducible refine Blk.newAt ?_; (simp; done)) | with_reducible refine Blk.set1 (y := .int .u64 0) ?_ _ | with_reducible refine Blk.set0 (x := .int .u64 0) ?_ _ | (refine Blk.off ?_ ?_ _; rotate_left; (focus (first | omega | (simp; done) | (simp; omega)))) | with_reducible refine Blk.alloc ?_ _ | with_reducible refine Blk.drew ?_)); done) | ((repeat (first | with_reducible exact HX.out | with_reducible refine bAl ?_ _ | with_reducible refine bD1 ?_ | (with_reducible refine bSt ?_ ?_ _; rotate_left; (focus (first | omega | (simp; done) | (simp; omega)))))); done)
          case rest =>
            clear HX
            obtain ⟨g8, rfl, hg8, hn8, hx8⟩ := hcut
            have P3 := Lib.hid (And.intro (HB2.out.1.later hx8) (And.intro (HB2.out.2.1.later hx8) (And.intro (bTr HB2.out.2.2.2 hx8) hn8)))
            have hG2 := HB2.out.2.1.lt
            clear HB2 KEEP hn8 hx8 j1 j2 j3 j4 GC DV
            obtain ⟨⟨k1, k2⟩, -, k3⟩ := P3.out.2.1.two
            obtain ⟨⟨k4, k5⟩, -, k6⟩ := P3.out.2.2.2.two
            obtain ⟨m, hm⟩ : ∃ m : Nat, x * q = m := ⟨_, rfl⟩
            have hmb : m ≤ 1329227995784915872903807060280344576 := by rw [← hm]; exact Nat.mul_le_mul (show x ≤ 1152921504606846976 by omega) (show q ≤ 1152921504606846976 by omega)
            have HM := Lib.hid (show (x : Int) * (q : Int) = (m : Int) by rw [← Int.natCast_mul, hm])
            rw [hm] at HN
            clear hm
            go_wp2_with fail
            refine (r_product _ _ (by omega) (by omega) (by omega) (by omega) _).mono ?_
            rintro e w9 ⟨rfl, hb9⟩
            rw [HM.out]
            have P9 := Lib.hid (And.intro (P3.out.1.later hb9) (And.intro (P3.out.2.1.later hb9) (bTr P3.out.2.2.1 hb9)))
            clear hb9 P3 k1 k2 k3 k4 k5 k6
            obtain ⟨⟨r1, r2⟩, ⟨s1, s2⟩, r3⟩ := P9.out.2.1.two
            by_cases hfit : m ≤ 1152921504606846976
            · have eh : Rep.hi (m : Int) = 0 := by unfold Rep.hi; omega
              rw [eh, val_lo (show (0 : Int) ≤ (m : Int) by omega) (by omega)]
              have t2 : ¬ (1152921504606846976 : Int) < (m : Int) := by omega
              go_wp2
              go_roundw
              case rel => exact ⟨k + 1, m, by go_num, by omega, HN.out.symm ▸ rfl, hfit, ⟨((P9.out.1.off (by omega) _).off (by omega) _), (P9.out.2.1.set0 _).set1 _, bSt (bSt P9.out.2.2 (by simp; omega) _) (by simp; omega) _⟩⟩
              case measure => simp [intOf]; omega
            · have HF := Lib.hid (show ¬ lcmF L n ≤ 1152921504606846976 by have := HLE.out; rw [← HN.out] at this; omega)
              have HY := Lib.hid (sR_no HF.out)
              have hb1 := Rep.hi_bd (m : Int)
              have hb2 := Rep.lo_bd (m : Int)
              have hval := Rep.val_hi_lo (m : Int) (by omega) (by omega)
              obtain ⟨⟨q1, q2⟩, ⟨q3, q4⟩, q5⟩ := P9.out.1.two
              have ne1 : ¬ w.heap.size = G := by omega
              have ne2 : ¬ G = w.heap.size := by omega
              by_cases hz : 0 < Rep.hi (m : Int)
              · go_wp2
                refine bodyPost_ret (v := .tuple #[.agg #[.int .i64 0, .int .i64 0], .int .i64 6]) (by simp [results, Try.results24, go_sem, q1, q2, q5, ne1, ne2]) rfl ⟨ret3 HY.out, ?_⟩
                exact bSt (bSt (bSt (bSt P9.out.2.2 (by simp; omega) _) (by simp; omega) _) (by simp) _) (by simp) _
              · have t2 : (1152921504606846976 : Int) < Rep.lo (m : Int) := by unfold Rep.val at hval; omega
                go_wp2
                refine bodyPost_ret (v := .tuple #[.agg #[.int .i64 0, .int .i64 0], .int .i64 6]) (by simp [results, Try.results24, go_sem, q1, q2, q5, ne1, ne2]) rfl ⟨ret3 HY.out, ?_⟩
                exact bSt (bSt (bSt (bSt P9.out.2.2 (by simp; omega) _) (by simp; omega) _) (by simp) _) (by simp) _
        · obtain rfl : n = k := by omega
          have SR := Lib.hid (sR_yes (show lcmF L n ≤ 1152921504606846976 by rw [← HX0.out]; exact hx))
          have hx0 : 0 < x := by have := lcmF_pos L n HP.out; rw [← HX0.out] at this; exact this
          have HS := Lib.hid (show sumN L n = qn (sumF L (x : Int) n) x ∧ sumD L n = qd (sumF L (x : Int) n) x ∧ sumE L n = qe (sumF L (x : Int) n) x by unfold sumN sumD sumE; rw [HX0.out]; exact ⟨rfl, rfl, rfl⟩)
          have HSB := Lib.hid (fun k (hk : k ≤ n) => sumF_bd L (x : Int) k (by omega) (by omega) (fun i hi => ⟨by obtain ⟨-, -, x, y, -⟩ := (valid_iff _ _).1 (HV.out i (by omega)); omega, HP.out i (by omega)⟩))
          go_wp2_with fail
          have H0 := Lib.hid (show Blk (wr.alloc (.cells #[.int .u64 0, .int .u64 0] 65)) w.heap.size 26 #[.int .i64 0, .int .i64 0] ∧ Blk (wr.alloc (.cells #[.int .u64 0, .int .u64 0] 65)) G 65 #[.int .u64 0, .int .u64 (x : Int)] ∧ Blk (wr.alloc (.cells #[.int .u64 0, .int .u64 0] 65)) wr.heap.size 65 #[.int .u64 (Rep.hi 0), .int .u64 (Rep.lo 0)] ∧ Below w.heap.size w (wr.alloc (.cells #[.int .u64 0, .int .u64 0] 65)) from ⟨HB.out.1.alloc _, HB.out.2.1.alloc _, Blk.newAt rfl, bAl HB.out.2.2 _⟩)
          have hGN := HB.out.2.1.lt
          clear HB
          generalize wr.alloc (.cells #[.int .u64 0, .int .u64 0] 65) = w0' at H0 ⊢
          generalize wr.heap.size = NB at H0 hGN ⊢
          go_loopw [10, 12] (fun v i wy => ∃ (k : Nat) (s : Bool) (N : Int), v = .bool s ∧ i = .int .i64 k ∧ k ≤ n ∧ 0 ≤ N ∧ Hid (Rep.sgn s N = sumF L (x : Int) k) ∧ Hid (Blk wy w.heap.size 26 #[.int .i64 0, .int .i64 0] ∧ Blk wy G 65 #[.int .u64 0, .int .u64 (x : Int)] ∧ Blk wy NB 65 #[.int .u64 (Rep.hi N), .int .u64 (Rep.lo N)] ∧ Below w.heap.size w wy)) (fun _ i _ => n - (intOf i).toNat)
          case atStart => exact ⟨0, false, 0, rfl, rfl, Nat.zero_le _, by omega, rfl, H0.out⟩
          case round =>
            clear H0
            obtain ⟨k, s, N, rfl, rfl, hk3, hN0, HSG, HB⟩ := hrel
            have zb := HSB.out k hk3
            have hNb : N < 170141183460469231731687303715884105728 := by have := HSG.out; cases s <;> simp [Rep.sgn] at this <;> omega
            clear zb
            by_cases hkn3 : k < n
            · have hkn' : (k : Int) < (n : Int) := by omega
              obtain ⟨b, off, rfl, hbB, g0, g1⟩ := HR.out k hkn3
              have c0 := Lib.hid ((HB.out.2.2.2.cell (p := ⟨b, off + k * 2, none⟩) hbB).trans g0)
              have c1 := (HB.out.2.2.2.cell (p := ⟨b, off + k * 2 + 1, none⟩) hbB).trans g1
              obtain ⟨d1, d2, e1, e2, -⟩ := (valid_iff _ _).1 (HV.out k hkn3)
              have HN := Lib.hid (show sumF L (x : Int) (k + 1) = sumF L (x : Int) k + (L k).1 * ((x : Int) / (L k).2) from rfl)
              have hzs := HB.out.2.2.2.size
              clear g0 g1
              generalize (L k).1 = p at c0 e1 e2 HN
              generalize (L k).2 = d at c1 d1 d2 HN
              obtain ⟨dn, rfl⟩ := Int.eq_ofNat_of_zero_le (show 0 ≤ d by omega)
              have DV := Lib.hid (fun w => div_small x dn hx (by omega) (by omega) w)
              have hqx : x / dn ≤ x := Nat.div_le_self _ _
              rw [← Int.natCast_ediv] at HN
              generalize x / dn = q at HN hqx DV
              generalize x % dn = r at DV
              have KEEP := Lib.hid (show ∀ W, Below wr.heap.size wr W → _ from fun W hW => show (W.cell? ⟨G, 0, none⟩ = some (.int .u64 0) ∧ W.cell? ⟨G, 1, none⟩ = some (.int .u64 (x : Int)) ∧ W.cell? ⟨b, off + k * 2 + 1, none⟩ = some (.int .i64 (dn : Int))) from ⟨((HB.out.2.1.later hW).two).1.1, ((HB.out.2.1.later hW).two).1.2, (hW.cell (p := ⟨b, off + k * 2 + 1, none⟩) (by show b < _; omega)).trans c1⟩)
              have HX := Lib.hid (Below.refl wr.heap.size wr)
              obtain ⟨j1, j2, -⟩ := KEEP.out _ HX.out
              go_upto_region 21 with (fail)
              go_cut [13] (fun s13 wx => NumP wr 65 (.int .u64 0) (.int .u64 (q : Int)) s13 wx)
              case first =>
                go_region_held3 (fun W => W.cell? ⟨G, 0, none⟩ = some (.int .u64 0) ∧ W.cell? ⟨G, 1, none⟩ = some (.int .u64 (x : Int)) ∧ W.cell? ⟨b, off + k * 2 + 1, none⟩ = some (.int .i64 (dn : Int))) (first | (refine KEEP.out _ ?_; (repeat (first | with_reducible exact HX.out | with_reducible refine bAl ?_ _ | with_reducible refine bD1 ?_ | (with_reducible refine bSt ?_ ?_ _; rotate_left; (focus (first | omega | (simp; done) | (simp; omega)))))); done) | go_keep) (first | (go_at_call 57; refine (DV.out _).mono ?_; rintro e w6 ⟨rfl, hb⟩; (first | (refine (fun (PC : Hid (Blk w6 (wr.heap.size) 65 #[.int .u64 0, .int .u64 0])) => ?_) (Lib.hid (Blk.later ?_ hb)); rotate_left; (focus ((repeat (first | (with_reducible refine Blk.newAt ?_; (simp; done)) | with_reducible refine Blk.alloc ?_ _ | with_reducible refine Blk.drew ?_)); done)); obtain ⟨⟨n21a, n21b⟩, ⟨m21a, m21b⟩, nk21⟩ := PC.out.two; have nl21 := Nat.ne_of_lt nk21; have nr21 := Nat.ne_of_gt nk21) | skip); (first | (refine (fun (PD : Hid (Blk w6 (wr.heap.size + 1) 65 #[.int .u64 0, .int .u64 0])) => ?_) (Lib.hid (Blk.later ?_ hb)); rotate_left; (focus ((repeat (first | (with_reducible refine Blk.newAt ?_; (simp; done)) | with_reducible refine Blk.alloc ?_ _ | with_reducible refine Blk.drew ?_)); done)); obtain ⟨⟨n22a, n22b⟩, ⟨m22a, m22b⟩, nk22⟩ := PD.out.two; have nl22 := Nat.ne_of_lt nk22; have nr22 := Nat.ne_of_gt nk22) | skip); have HX := Lib.hid (show Below wr.heap.size wr w6 from bTr (by (repeat (first | with_reducible exact HX.out | with_reducible refine bAl ?_ _ | with_reducible refine bD1 ?_)); done) hb); have hsw6 := HX.out.size; clear hb) | (go_at_call 52; refine (size_any _ (by omega) (by omega) _).mono ?_; rintro e w' ⟨rfl, rfl⟩; rw [Int.natAbs_natCast]))
                all_goals (go_wp2_with fail; go_meet)
                all_goals refine ⟨_, rfl, ?_, ?_, ?_⟩
                all_goals first | omega | (simp; omega) | ((repeat (first | with_reducible exact PC.out | with_reducible exact PD.out | (with_reducible refine Blk.newAt ?_; (simp; done)) | with_reducible refine Blk.set1 (y := .int .u64 0) ?_ _ | with_reducible refine Blk.set0 (x := .int .u64 0) ?_ _ | (refine Blk.off ?_ ?_ _; rotate_left; (focus (first | omega | (simp; done) | (simp; omega)))) | with_reducible refine Blk.alloc ?_ _ | with_reducible refine Blk.drew ?_)); done) | ((repeat (first | with_reducible exact HX.out | with_reducible refine bAl ?_ _ | with_reducible refine bD1 ?_ | (with_reducible refine bSt ?_ ?_ _; rotate_left; (focus (first | omega | (simp; done) | (simp; omega)))))); done)
              case rest =>
                clear HX
                obtain ⟨g8, rfl, hg8, hn8, hx8⟩ := hcut
                have P3 := Lib.hid (And.intro (HB.out.1.later hx8) (And.intro (HB.out.2.1.later hx8) (And.intro (HB.out.2.2.1.later hx8) (And.intro (bTr HB.out.2.2.2 hx8) (And.intro hn8 ((hx8.cell (p := ⟨b, off + k * 2, none⟩) (by show b < _; omega)).trans c0.out))))))
                have hN2 := HB.out.2.2.1.lt
                have hzc := P3.out.2.2.2.1.size
                clear HB KEEP hn8 hx8 j1 j2 DV c1 c0
                have hA := mul_abs_bd p (q : Int) (by omega) (by omega)
                rw [Int.natAbs_natCast] at hA
                have TP := Lib.hid (tot_pos s N (decide (p < 0)) ((p.natAbs : Int) * (q : Int)) hN0 hA.1)
                have HNEW := Lib.hid (show Rep.sgn (totS s N (decide (p < 0)) ((p.natAbs : Int) * (q : Int))) (totN s N (decide (p < 0)) ((p.natAbs : Int) * (q : Int))) = sumF L (x : Int) (k + 1) by rw [tot_sum, sgn_mul, sgn_lt, HSG.out, HN.out])
                obtain ⟨⟨m0, m1⟩, -, m4⟩ := P3.out.2.2.1.two
                obtain ⟨⟨a1, a2⟩, -, a3⟩ := P3.out.2.2.2.2.1.two
                have n0 : ∀ p : BelowOf wc, p.to.cell? ⟨NB, 0, none⟩ = some (.int .u64 (Rep.hi N)) := bq_cell m4 m0
                have n1 : ∀ p : BelowOf wc, p.to.cell? ⟨NB, 1, none⟩ = some (.int .u64 (Rep.lo N)) := bq_cell m4 m1
                have q0 : ∀ p : BelowOf wc, p.to.cell? ⟨g8, 0, none⟩ = some (.int .u64 0) := bq_cell a3 a1
                have q1 : ∀ p : BelowOf wc, p.to.cell? ⟨g8, 1, none⟩ = some (.int .u64 (q : Int)) := bq_cell a3 a2
                have r0 : ∀ p' : BelowOf wc, p'.to.cell? ⟨b, off + k * 2, none⟩ = some (.int .i64 p) := bq_cell (by show b < _; omega) P3.out.2.2.2.2.2
                clear m0 m1 m4 a1 a2 a3
                go_wp2_with fail
                refine wp_region_below_tail 22 (by kernel_rfl) (by kernel_rfl) ?_
                simp only [List.take_succ_cons, List.take_zero, List.drop_succ_cons, List.drop_zero]
                repeat (go_big_quiet_step ((first | (go_at_call 52; exact (size_any _ (by omega) (by omega) _).mono fun e w' h => ⟨h.1, ⟨_, h.2.symm⟩⟩) | (go_at_call 51; exact bq_call (r_product _ _ (by omega) (by omega) (by omega) (by omega) _)) | (go_at_call 50; exact bq_call (r_total _ _ _ _ _ hN0 hNb hA.1 (by omega) )))))
                refine wpQuiet_nil ?_
                intro w6 hw'
                have HX := Lib.hid (show Below wc.heap.size wc w6 by obtain ⟨pw, h⟩ := hw'; exact h ▸ pw.h)
                clear hw' n0 n1 q0 q1 r0
                obtain ⟨⟨m0, m1⟩, ⟨m2, m3⟩, m4⟩ := (P3.out.2.2.1.later HX.out).two
                go_wp2
                go_roundw
                case rel => exact ⟨k + 1, _, _, rfl, by go_num, by omega, TP.out.1, HNEW.out, ⟨((P3.out.1.later HX.out).off (by omega) _).off (by omega) _, ((P3.out.2.1.later HX.out).off (by omega) _).off (by omega) _, ((P3.out.2.2.1.later HX.out).set0 _).set1 _, bSt (bSt (bTr P3.out.2.2.2.1 HX.out) (by simp; omega) _) (by simp; omega) _⟩⟩
                case measure => simp [intOf]; omega
            · obtain rfl : n = k := by omega
              have RD : ∀ ng : Bool, Rep.sgn ng N = sumF L (x : Int) n → Hid (∀ W, Calls Try.prog 53 #[.bool ng, .agg #[.int .u64 (Rep.hi N), .int .u64 (Rep.lo N)], .agg #[.int .u64 0, .int .u64 (x : Int)]] W fun e w' => e = .returned (.tuple #[.agg #[.int .i64 (sRN L n), .int .i64 (sRD L n)], .int .i64 (sRE L n)]) ∧ Below W.heap.size W w') := fun ng h => Lib.hid fun W => by
                have := reduce_z ng N (x : Int) _ hN0 (by omega) (by omega) (by omega) h W
                rw [show Rep.hi (x : Int) = 0 by unfold Rep.hi; omega, val_lo (show (0 : Int) ≤ (x : Int) by omega) (by omega)] at this
                rw [SR.out.1, SR.out.2.1, SR.out.2.2, HS.out.1, HS.out.2.1, HS.out.2.2]
                exact this
              have HV := Lib.hid (Rep.val_hi_lo N hN0 (by omega))
              obtain ⟨⟨m0, m1⟩, -, m4⟩ := HB.out.2.2.1.two
              obtain ⟨⟨a1, a2⟩, -, a3⟩ := HB.out.2.1.two
              have n0 : ∀ p : BelowOf wr, p.to.cell? ⟨NB, 0, none⟩ = some (.int .u64 (Rep.hi N)) := bq_cell m4 m0
              have n1 : ∀ p : BelowOf wr, p.to.cell? ⟨NB, 1, none⟩ = some (.int .u64 (Rep.lo N)) := bq_cell m4 m1
              have q0 : ∀ p : BelowOf wr, p.to.cell? ⟨G, 0, none⟩ = some (.int .u64 0) := bq_cell a3 a1
              have q1 : ∀ p : BelowOf wr, p.to.cell? ⟨G, 1, none⟩ = some (.int .u64 (x : Int)) := bq_cell a3 a2
              clear m0 m1 m4 a1 a2 a3 HS SR HSB
              cases s
              · have RX := RD false HSG.out
                clear RD
                go_wp2_with fail
                refine wp_region_below_tail 11 (by kernel_rfl) (by kernel_rfl) ?_
                simp only [List.take_succ_cons, List.take_zero, List.drop_succ_cons, List.drop_zero]
                repeat (go_big_quiet_step ((go_at_call 53; exact bq_call (RX.out _))))
                refine wpQuiet_nil ?_
                intro w6 hw'
                have HX := Lib.hid (show Below wr.heap.size wr w6 by obtain ⟨pw, h⟩ := hw'; exact h ▸ pw.h)
                clear hw' n0 n1 q0 q1
                obtain ⟨⟨y0, y1⟩, ⟨y2, y3⟩, y4⟩ := (HB.out.1.later HX.out).two
                go_wp2
                refine bodyPost_ret (v := .tuple #[.agg #[.int .i64 (sRN L n), .int .i64 (sRD L n)], .int .i64 (sRE L n)]) (by simp [results, Try.results24, go_sem, y0, y1, y4]) rfl ⟨rfl, ?_⟩
                exact bSt (bSt (bTr HB.out.2.2.2 HX.out) (by simp) _) (by simp) _
              · by_cases hN : N = 0
                · have RX := RD false (by rw [← HSG.out, hN]; rfl)
                  have e1 : Rep.hi N = 0 := by rw [hN]; unfold Rep.hi; omega
                  have e2 : Rep.lo N = 0 := by rw [hN]; unfold Rep.lo; omega
                  rw [e1, e2] at RX
                  rw [e1] at n0
                  rw [e2] at n1
                  clear RD e1 e2 hN HV
                  go_wp2_with fail
                  refine wp_region_below_tail 11 (by kernel_rfl) (by kernel_rfl) ?_
                  simp only [List.take_succ_cons, List.take_zero, List.drop_succ_cons, List.drop_zero]
                  repeat (go_big_quiet_step ((go_at_call 53; exact bq_call (RX.out _))))
                  refine wpQuiet_nil ?_
                  intro w6 hw'
                  have HX := Lib.hid (show Below wr.heap.size wr w6 by obtain ⟨pw, h⟩ := hw'; exact h ▸ pw.h)
                  clear hw' n0 n1 q0 q1
                  obtain ⟨⟨y0, y1⟩, ⟨y2, y3⟩, y4⟩ := (HB.out.1.later HX.out).two
                  go_wp2
                  refine bodyPost_ret (v := .tuple #[.agg #[.int .i64 (sRN L n), .int .i64 (sRD L n)], .int .i64 (sRE L n)]) (by simp [results, Try.results24, go_sem, y0, y1, y4]) rfl ⟨rfl, ?_⟩
                  exact bSt (bSt (bTr HB.out.2.2.2 HX.out) (by simp) _) (by simp) _
                · have RX := RD true HSG.out
                  by_cases hh : Rep.hi N = 0
                  · have hl : ¬ Rep.lo N = 0 := fun e => hN (by rw [← HV.out, hh, e]; rfl)
                    rw [hh] at RX n0
                    clear RD hh HV
                    go_wp2_with fail
                    refine wp_region_below_tail 11 (by kernel_rfl) (by kernel_rfl) ?_
                    simp only [List.take_succ_cons, List.take_zero, List.drop_succ_cons, List.drop_zero]
                    repeat (go_big_quiet_step ((go_at_call 53; exact bq_call (RX.out _))))
                    refine wpQuiet_nil ?_
                    intro w6 hw'
                    have HX := Lib.hid (show Below wr.heap.size wr w6 by obtain ⟨pw, h⟩ := hw'; exact h ▸ pw.h)
                    clear hw' n0 n1 q0 q1
                    obtain ⟨⟨y0, y1⟩, ⟨y2, y3⟩, y4⟩ := (HB.out.1.later HX.out).two
                    go_wp2
                    refine bodyPost_ret (v := .tuple #[.agg #[.int .i64 (sRN L n), .int .i64 (sRD L n)], .int .i64 (sRE L n)]) (by simp [results, Try.results24, go_sem, y0, y1, y4]) rfl ⟨rfl, ?_⟩
                    exact bSt (bSt (bTr HB.out.2.2.2 HX.out) (by simp) _) (by simp) _
                  · clear RD HV
                    go_wp2_with fail
                    refine wp_region_below_tail 11 (by kernel_rfl) (by kernel_rfl) ?_
                    simp only [List.take_succ_cons, List.take_zero, List.drop_succ_cons, List.drop_zero]
                    repeat (go_big_quiet_step ((go_at_call 53; exact bq_call (RX.out _))))
                    refine wpQuiet_nil ?_
                    intro w6 hw'
                    have HX := Lib.hid (show Below wr.heap.size wr w6 by obtain ⟨pw, h⟩ := hw'; exact h ▸ pw.h)
                    clear hw' n0 n1 q0 q1
                    obtain ⟨⟨y0, y1⟩, ⟨y2, y3⟩, y4⟩ := (HB.out.1.later HX.out).two
                    go_wp2
                    refine bodyPost_ret (v := .tuple #[.agg #[.int .i64 (sRN L n), .int .i64 (sRD L n)], .int .i64 (sRE L n)]) (by simp [results, Try.results24, go_sem, y0, y1, y4]) rfl ⟨rfl, ?_⟩
                    exact bSt (bSt (bTr HB.out.2.2.2 HX.out) (by simp) _) (by simp) _
end Go.Proofs.Ytdohidlfcnpojaa
