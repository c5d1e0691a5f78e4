/-
  Share, of the program and of the reference.
-/
import Derived.Test.YtglikjdgjmijfaaSDraw
import Derived.Test.YtglikjdgjmijfaaRatN
import Derived.Laws.StructEq
namespace Go.Proofs.Ytglikjdgjmijfaa
open Go.RowKit
set_option linter.unusedSimpArgs false
set_option linter.unusedVariables false

def Syl.wsum (S : Syl) : Int := sumN S.cw S.nC
/-- the answer of Share: numerator, denominator, error -/
def Syl.shr (S : Syl) (k : Int) : Int × Int × Int :=
  if S.chk = 0 then (if 0 ≤ k ∧ k < (S.nC : Int) then (if S.wsum = 0 then (0, 0, 10) else (newNum (S.cw k.toNat) S.wsum, newDen (S.cw k.toNat) S.wsum, newErr (S.cw k.toNat) S.wsum)) else (0, 0, 4)) else (0, 0, S.chk)
def shV (x : Int × Int × Int) : Value := .tuple #[.agg #[.int .i64 x.1, .int .i64 x.2.1], .int .i64 x.2.2]
theorem ret_sh {x : Int × Int × Int} {a b c : Int} (h : x = (a, b, c)) : Ending.returned (.tuple #[.agg #[.int .i64 a, .int .i64 b], .int .i64 c]) = .returned (shV x) := by rw [h]; rfl
set_option maxRecDepth 100000 in
set_option maxHeartbeats 8000000 in
theorem share_any (p : Ptr) (S : Syl) (k : Int) (w : World) (hs : SylIn w w.heap.size p S) :
    Calls Try.prog 31 #[.agg (sylC p S), .int .i64 k] w fun e w' => e = .returned (shV (S.shr k)) ∧ Below w.heap.size w w' := by
  have HT := Lib.hid (fun W (hb : Below w.heap.size w W) => check_any p S W (hs.later hb))
  have HSC := Lib.hid (fun W (hb : Below w.heap.size w W) => (hs.later hb).c)
  have RE := Lib.hid (show S.shr k = if S.chk = 0 then (if 0 ≤ k ∧ k < (S.nC : Int) then (if S.wsum = 0 then (0, 0, 10) else (newNum (S.cw k.toNat) S.wsum, newDen (S.cw k.toNat) S.wsum, newErr (S.cw k.toNat) S.wsum)) else (0, 0, 4)) else (0, 0, S.chk) from rfl)
  generalize S.shr k = X at RE ⊢
  have HB := Lib.hid (bAl (bAl (Below.refl _ w) (.cells (sylC p S) 27)) (.cells #[.int .i64 0, .int .i64 0] 50))
  have P0 := Lib.hid ((Blk.new w 27 (sylC p S)).alloc (.cells #[.int .i64 0, .int .i64 0] 50))
  have P1 : Hid (Blk ((w.alloc (.cells (sylC p S) 27)).alloc (.cells #[.int .i64 0, .int .i64 0] 50)) (w.heap.size + 1) 50 #[.int .i64 0, .int .i64 0]) := Lib.hid (Blk.newAt (by simp))
  have HOK := Lib.hid (fun (h : S.chk = 0) => And.intro (S.ok h).2.2.1 (S.ok h).2.2.2.2)
  have HWS := Lib.hid (show S.wsum = sumN S.cw S.nC from rfl)
  generalize S.wsum = W0 at RE HWS
  generalize S.chk = x at HT RE HOK
  clear hs
  obtain ⟨o1, c1, o2, c2, o3, c3⟩ := p
  obtain ⟨nT, tn, tp, nO, on, nC, cn, cw, cm⟩ := S
  unfold sylC at HT HB P0 P1 ⊢
  dsimp only at HT HB P0 P1 HSC RE HOK HWS ⊢
  by_cases h0 : x = 0
  · subst h0
    obtain ⟨hn6, hcw⟩ := HOK.out rfl
    have HCW := Lib.hid hcw
    clear HOK hcw
    rw [if_pos rfl] at RE
    by_cases hk : 0 ≤ k ∧ k < (nC : Int)
    · rw [if_pos hk] at RE
      obtain ⟨hk0, hk1⟩ := hk
      obtain ⟨q, rfl⟩ := Int.eq_ofNat_of_zero_le hk0
      have hqn : q < nC := by omega
      rw [show ((q : Nat) : Int).toNat = q from rfl] at RE
      go_enter Try.func31, Try.ntmps31
      go_wp2_with (go_at_call 13; refine (HT.out _ HB.out).mono ?_; rintro e w7 ⟨rfl, hb⟩; have HF := Lib.hid (bTr HB.out hb); have PX := Lib.hid (P0.out.later hb); have PY := Lib.hid (P1.out.later hb); have z2 : w7.cell? ⟨w.heap.size, 2, none⟩ = some (.slice o3 nC c3) := PX.out.cell 2; clear hb)
      go_loopw [7, 29] (fun v i wr => ∃ j : Nat, i = .int .i64 j ∧ j ≤ nC ∧ v = .int .i64 (sumN cw j) ∧ Hid (Below w7.heap.size w7 wr)) (fun _ i _ => nC - (intOf i).toNat)
      case atStart => exact ⟨0, rfl, Nat.zero_le _, rfl, Lib.hid (Below.refl _ _)⟩
      case round =>
        obtain ⟨j, rfl, hj, rfl, HBR⟩ := hrel
        have hsb := sumN_bd (f := cw) (m := 1000) (n := j) (fun i hi => HCW.out i (by omega))
        have y2 : wr.cell? ⟨w.heap.size, 2, none⟩ = some (.slice o3 nC c3) := (PX.out.later HBR.out).cell 2
        have yl : w.heap.size < wr.heap.size := (PX.out.later HBR.out).lt
        by_cases hjn : j < nC
        · have hjn' : (j : Int) < (nC : Int) := by omega
          have hj0 : (0 : Int) ≤ (j : Int) := by omega
          obtain ⟨b, off, rfl, hbB, c0', c1', c2'⟩ := HSC.out wr (bTr HF.out HBR.out) j hjn
          obtain ⟨m0, m1⟩ := HCW.out j hjn
          have HSS := Lib.hid (show sumN cw (j + 1) = sumN cw j + cw j from rfl)
          generalize sumN cw j = s at hsb HSS ⊢
          generalize cw j = m at c1' m0 m1 HSS
          generalize cn j = nmj at c0'
          generalize cm j = mmj at c2'
          obtain ⟨s0, s1⟩ := hsb
          go_wp2_with fail
          go_roundw
          case rel => exact ⟨j + 1, by go_num, by omega, by rw [HSS.out], Lib.hid (bAl HBR.out _)⟩
          case measure => simp [intOf]; omega
        · obtain rfl : j = nC := by omega
          obtain ⟨b, off, rfl, hbB, d0, d1, d2⟩ := HSC.out wr (bTr HF.out HBR.out) q hqn
          rw [← HWS.out] at hsb ⊢
          obtain ⟨m0, m1⟩ := HCW.out q hqn
          have hq0 : (0 : Int) ≤ (q : Int) := by omega
          have hqn' : (q : Int) < (j : Int) := by omega
          have HBW := Lib.hid (bTr HF.out HBR.out)
          obtain ⟨⟨r0, r1⟩, ⟨f0, f1⟩, rl⟩ := (PY.out.later HBR.out).two
          generalize cw q = m at d1 m0 m1 RE
          generalize cn q = nmj at d0
          generalize cm q = mmj at d2
          by_cases hW : W0 = 0
          · subst hW
            rw [if_pos rfl] at RE
            go_wp2_with fail
            exact bodyPost_ret (v := .tuple #[.agg #[.int .i64 0, .int .i64 0], .int .i64 10]) (by simp [results, Try.results31, go_sem, r0, r1, rl]) rfl ⟨ret_sh RE.out, bSt (bSt HBW.out (by simp) _) (by simp) _⟩
          · rw [if_neg hW] at RE
            have hWb : (W0 == 0) = false := by rw [beq_eq_false_iff_ne]; exact hW
            have HN := Lib.hid (fun W => ratio_new m W0 (by omega) (by omega) (by omega) (by omega) W)
            generalize newNum m W0 = a1 at RE HN
            generalize newDen m W0 = a2 at RE HN
            generalize newErr m W0 = a3 at RE HN
            clear hW hsb
            go_wp2_with fail
            refine (HN.out _).mono ?_
            rintro e w9 ⟨rfl, hb9⟩
            have HB9 := Lib.hid (bTr HBW.out hb9)
            obtain ⟨⟨r0, r1⟩, ⟨f0, f1⟩, rl⟩ := ((PY.out.later HBR.out).later hb9).two
            clear hb9
            go_wp2_with fail
            exact bodyPost_ret (v := .tuple #[.agg #[.int .i64 a1, .int .i64 a2], .int .i64 a3]) (by simp [results, Try.results31, go_sem, r0, r1, rl]) rfl ⟨ret_sh RE.out, bSt (bSt HB9.out (by simp) _) (by simp) _⟩
    · rw [if_neg hk] at RE
      have hcs : k < 0 ∨ (¬ k < 0 ∧ (nC : Int) ≤ k) := by omega
      clear hk
      rcases hcs with ha | ⟨ha, hb'⟩
      all_goals
        go_enter Try.func31, Try.ntmps31
        go_wp2_with (go_at_call 13; refine (HT.out _ HB.out).mono ?_; rintro e w7 ⟨rfl, hb⟩; have HF := Lib.hid (bTr HB.out hb); have z2 : w7.cell? ⟨w.heap.size, 2, none⟩ = some (.slice o3 nC c3) := (P0.out.later hb).cell 2; obtain ⟨⟨r0, r1⟩, ⟨f0, f1⟩, rl⟩ := (P1.out.later hb).two; clear hb)
        exact bodyPost_ret (v := .tuple #[.agg #[.int .i64 0, .int .i64 0], .int .i64 4]) (by simp [results, Try.results31, go_sem, r0, r1, rl]) rfl ⟨ret_sh RE.out, bSt (bSt HF.out (by simp) _) (by simp) _⟩
  · rw [if_neg h0] at RE
    have hx' : (x != 0) = true := by rw [bne_iff_ne]; exact h0
    clear h0 HOK
    go_enter Try.func31, Try.ntmps31
    go_wp2_with (go_at_call 13; refine (HT.out _ HB.out).mono ?_; rintro e w7 ⟨rfl, hb⟩; have HF := Lib.hid (bTr HB.out hb); obtain ⟨⟨r0, r1⟩, ⟨f0, f1⟩, rl⟩ := (P1.out.later hb).two; clear hb)
    exact bodyPost_ret (v := .tuple #[.agg #[.int .i64 0, .int .i64 0], .int .i64 x]) (by simp [results, Try.results31, go_sem, r0, r1, rl]) rfl ⟨ret_sh RE.out, bSt (bSt HF.out (by simp) _) (by simp) _⟩
set_option maxRecDepth 100000 in
set_option maxHeartbeats 8000000 in
theorem rshare_any (p : Ptr) (S : Syl) (k : Int) (w : World) (hs : SylIn w w.heap.size p S) :
    Calls Try.prog 32 #[.agg (sylC p S), .int .i64 k] w fun e w' => e = .returned (shV (S.shr k)) ∧ Below w.heap.size w w' := by
  have HT := Lib.hid (fun W (hb : Below w.heap.size w W) => rcheck_any p S W (hs.later hb))
  have HSC := Lib.hid (fun W (hb : Below w.heap.size w W) => (hs.later hb).c)
  have RE := Lib.hid (show S.shr k = if S.chk = 0 then (if 0 ≤ k ∧ k < (S.nC : Int) then (if S.wsum = 0 then (0, 0, 10) else (newNum (S.cw k.toNat) S.wsum, newDen (S.cw k.toNat) S.wsum, newErr (S.cw k.toNat) S.wsum)) else (0, 0, 4)) else (0, 0, S.chk) from rfl)
  generalize S.shr k = X at RE ⊢
  have HB := Lib.hid (bAl (bAl (Below.refl _ w) (.cells (sylC p S) 27)) (.cells #[.int .i64 0, .int .i64 0] 50))
  have P0 := Lib.hid ((Blk.new w 27 (sylC p S)).alloc (.cells #[.int .i64 0, .int .i64 0] 50))
  have P1 : Hid (Blk ((w.alloc (.cells (sylC p S) 27)).alloc (.cells #[.int .i64 0, .int .i64 0] 50)) (w.heap.size + 1) 50 #[.int .i64 0, .int .i64 0]) := Lib.hid (Blk.newAt (by simp))
  have HOK := Lib.hid (fun (h : S.chk = 0) => And.intro (S.ok h).2.2.1 (S.ok h).2.2.2.2)
  have HWS := Lib.hid (show S.wsum = sumN S.cw S.nC from rfl)
  generalize S.wsum = W0 at RE HWS
  generalize S.chk = x at HT RE HOK
  clear hs
  obtain ⟨o1, c1, o2, c2, o3, c3⟩ := p
  obtain ⟨nT, tn, tp, nO, on, nC, cn, cw, cm⟩ := S
  unfold sylC at HT HB P0 P1 ⊢
  dsimp only at HT HB P0 P1 HSC RE HOK HWS ⊢
  by_cases h0 : x = 0
  · subst h0
    obtain ⟨hn6, hcw⟩ := HOK.out rfl
    have HCW := Lib.hid hcw
    clear HOK hcw
    rw [if_pos rfl] at RE
    by_cases hk : 0 ≤ k ∧ k < (nC : Int)
    · rw [if_pos hk] at RE
      obtain ⟨hk0, hk1⟩ := hk
      obtain ⟨q, rfl⟩ := Int.eq_ofNat_of_zero_le hk0
      have hqn : q < nC := by omega
      rw [show ((q : Nat) : Int).toNat = q from rfl] at RE
      go_enter Try.func32, Try.ntmps32
      go_wp2_with (go_at_call 14; refine (HT.out _ HB.out).mono ?_; rintro e w7 ⟨rfl, hb⟩; have HF := Lib.hid (bTr HB.out hb); have PX := Lib.hid (P0.out.later hb); have PY := Lib.hid (P1.out.later hb); have z2 : w7.cell? ⟨w.heap.size, 2, none⟩ = some (.slice o3 nC c3) := PX.out.cell 2; clear hb)
      go_loopw [7, 8] (fun v i wr => ∃ j : Nat, i = .int .i64 j ∧ j ≤ nC ∧ v = .int .i64 (sumN cw j) ∧ Hid (Below w7.heap.size w7 wr)) (fun _ i _ => nC - (intOf i).toNat)
      case atStart => exact ⟨0, rfl, Nat.zero_le _, rfl, Lib.hid (Below.refl _ _)⟩
      case round =>
        obtain ⟨j, rfl, hj, rfl, HBR⟩ := hrel
        have hsb := sumN_bd (f := cw) (m := 1000) (n := j) (fun i hi => HCW.out i (by omega))
        have y2 : wr.cell? ⟨w.heap.size, 2, none⟩ = some (.slice o3 nC c3) := (PX.out.later HBR.out).cell 2
        have yl : w.heap.size < wr.heap.size := (PX.out.later HBR.out).lt
        by_cases hjn : j < nC
        · have hjn' : (j : Int) < (nC : Int) := by omega
          have hj0 : (0 : Int) ≤ (j : Int) := by omega
          obtain ⟨b, off, rfl, hbB, c0', c1', c2'⟩ := HSC.out wr (bTr HF.out HBR.out) j hjn
          obtain ⟨m0, m1⟩ := HCW.out j hjn
          have HSS := Lib.hid (show sumN cw (j + 1) = sumN cw j + cw j from rfl)
          generalize sumN cw j = s at hsb HSS ⊢
          generalize cw j = m at c1' m0 m1 HSS
          generalize cn j = nmj at c0'
          generalize cm j = mmj at c2'
          obtain ⟨s0, s1⟩ := hsb
          go_wp2_with fail
          go_roundw
          case rel => exact ⟨j + 1, by go_num, by omega, by rw [HSS.out], Lib.hid (HBR.out)⟩
          case measure => simp [intOf]; omega
        · obtain rfl : j = nC := by omega
          obtain ⟨b, off, rfl, hbB, d0, d1, d2⟩ := HSC.out wr (bTr HF.out HBR.out) q hqn
          rw [← HWS.out] at hsb ⊢
          obtain ⟨m0, m1⟩ := HCW.out q hqn
          have hq0 : (0 : Int) ≤ (q : Int) := by omega
          have hqn' : (q : Int) < (j : Int) := by omega
          have HBW := Lib.hid (bTr HF.out HBR.out)
          obtain ⟨⟨r0, r1⟩, ⟨f0, f1⟩, rl⟩ := (PY.out.later HBR.out).two
          generalize cw q = m at d1 m0 m1 RE
          generalize cn q = nmj at d0
          generalize cm q = mmj at d2
          by_cases hW : W0 = 0
          · subst hW
            rw [if_pos rfl] at RE
            go_wp2_with fail
            exact bodyPost_ret (v := .tuple #[.agg #[.int .i64 0, .int .i64 0], .int .i64 10]) (by simp [results, Try.results32, go_sem, r0, r1, rl]) rfl ⟨ret_sh RE.out, bSt (bSt HBW.out (by simp) _) (by simp) _⟩
          · rw [if_neg hW] at RE
            have hWb : (W0 == 0) = false := by rw [beq_eq_false_iff_ne]; exact hW
            have HN := Lib.hid (fun W => r_new m W0 (by omega) (by omega) (by omega) (by omega) W)
            generalize newNum m W0 = a1 at RE HN
            generalize newDen m W0 = a2 at RE HN
            generalize newErr m W0 = a3 at RE HN
            clear hW hsb
            go_wp2_with fail
            refine (HN.out _).mono ?_
            rintro e w9 ⟨rfl, hb9⟩
            have HB9 := Lib.hid (bTr HBW.out hb9)
            obtain ⟨⟨r0, r1⟩, ⟨f0, f1⟩, rl⟩ := ((PY.out.later HBR.out).later hb9).two
            clear hb9
            go_wp2_with fail
            exact bodyPost_ret (v := .tuple #[.agg #[.int .i64 a1, .int .i64 a2], .int .i64 a3]) (by simp [results, Try.results32, go_sem, r0, r1, rl]) rfl ⟨ret_sh RE.out, bSt (bSt HB9.out (by simp) _) (by simp) _⟩
    · rw [if_neg hk] at RE
      have hcs : k < 0 ∨ (¬ k < 0 ∧ (nC : Int) ≤ k) := by omega
      clear hk
      rcases hcs with ha | ⟨ha, hb'⟩
      all_goals
        go_enter Try.func32, Try.ntmps32
        go_wp2_with (go_at_call 14; refine (HT.out _ HB.out).mono ?_; rintro e w7 ⟨rfl, hb⟩; have HF := Lib.hid (bTr HB.out hb); have z2 : w7.cell? ⟨w.heap.size, 2, none⟩ = some (.slice o3 nC c3) := (P0.out.later hb).cell 2; obtain ⟨⟨r0, r1⟩, ⟨f0, f1⟩, rl⟩ := (P1.out.later hb).two; clear hb)
        exact bodyPost_ret (v := .tuple #[.agg #[.int .i64 0, .int .i64 0], .int .i64 4]) (by simp [results, Try.results32, go_sem, r0, r1, rl]) rfl ⟨ret_sh RE.out, bSt (bSt HF.out (by simp) _) (by simp) _⟩
  · rw [if_neg h0] at RE
    have hx' : (x != 0) = true := by rw [bne_iff_ne]; exact h0
    clear h0 HOK
    go_enter Try.func32, Try.ntmps32
    go_wp2_with (go_at_call 14; refine (HT.out _ HB.out).mono ?_; rintro e w7 ⟨rfl, hb⟩; have HF := Lib.hid (bTr HB.out hb); obtain ⟨⟨r0, r1⟩, ⟨f0, f1⟩, rl⟩ := (P1.out.later hb).two; clear hb)
    exact bodyPost_ret (v := .tuple #[.agg #[.int .i64 0, .int .i64 0], .int .i64 x]) (by simp [results, Try.results32, go_sem, r0, r1, rl]) rfl ⟨ret_sh RE.out, bSt (bSt HF.out (by simp) _) (by simp) _⟩
theorem eqlR (a b c d : Int) (w : World) : (binOp .eql 50 (.agg #[.int .i64 a, .int .i64 b]) (.agg #[.int .i64 c, .int .i64 d])).run Try.prog w = .ok (.bool (decide ((a, b) = (c, d)))) w := by
  have u3 := Try.underlying3
  have a3 := Try.isAgg3
  have z3 := Try.sizeOf3
  have hS : Try.prog.underlying 50 = some (.struct (Try.prog.fieldsOf 50)) := by kernel_rfl
  have hp : Try.prog.stoodInHeld 50 = false := by kernel_rfl
  rw [run_eql_struct, show (10000 : Nat) = 9999 + 1 from rfl, run_equalIn_agg w 9999 50 _ _ hS hp]
  simp only [Program.fieldsOf, Try.underlying50]
  go_simp
  by_cases h1 : a = c <;> by_cases h2 : b = d <;> simp [h1, h2]
end Go.Proofs.Ytglikjdgjmijfaa
