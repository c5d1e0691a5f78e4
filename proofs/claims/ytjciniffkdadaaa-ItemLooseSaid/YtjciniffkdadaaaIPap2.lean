/-
  Choices; the reference's ValidPaper.
-/
import Derived.Test.YtjciniffkdadaaaIPaper
namespace Go.Proofs.Ytjciniffkdadaaa
open Go.RowKit
set_option linter.unusedSimpArgs false
set_option linter.unusedVariables false

set_option maxRecDepth 100000 in
set_option maxHeartbeats 8000000 in
theorem choices_any (o : Option Addr) (c : Nat) (x : Ppr) (w : World) (hs : RowP w w.heap.size o x.nP x.P) :
    Calls Try.prog 34 #[.agg (pprC o c x)] w (NatR x.chs w) := by
  have HC := Lib.hid (fun W (hb : Below w.heap.size w W) => vpaper_any o c x W (hs.later hb))
  have HS := Lib.hid hs
  have HB := Lib.hid (bAl (Below.refl _ w) (.cells (pprC o c x) 46))
  have P0 : Hid (Blk (w.alloc (.cells (pprC o c x) 46)) w.heap.size 46 (pprC o c x)) := Lib.hid (Blk.newAt rfl)
  clear hs
  have HT := Lib.hid (show x.chs = if x.okB = true then (List.range x.nP).filter (chB x.P) else [] from rfl)
  have HLE := Lib.hid (fun h => show x.nP ≤ 24 from by have := (Ppr.of_ok (x := x) h).1; unfold Ppr.ok at this; omega)
  unfold pprC at HB P0 HC ⊢
  cases hz : x.okB
  · rw [hz, if_neg (by decide)] at HT
    rw [hz] at HC
    rw [HT.out]
    clear HLE hz HT
    go_enter Try.func34, Try.ntmps34
    go_wp2_with (first | (go_at_call 30; refine (HC.out _ HB.out).mono ?_; rintro e w5 ⟨rfl, hb⟩; have HB5 := Lib.hid (bTr HB.out hb); clear hb))
    go_ret
    exact ⟨_, rfl, NatV.nil _ _, HB5.out⟩
  · rw [hz, if_pos rfl] at HT
    have hle := HLE.out hz
    rw [hz] at HC
    rw [HT.out]
    clear hz HT HLE
    obtain ⟨code, var, nP, P⟩ := x
    dsimp only at HC HS HB P0 hle ⊢
    obtain ⟨f, hf⟩ : ∃ f : Nat → Bool, f = chB P := ⟨_, rfl⟩
    rw [← hf]
    have HF := Lib.hid (fun i => (congrFun hf i : f i = decide ((P i).kd = 2)))
    have HLN := Lib.hid (filt_len f)
    clear hf
    obtain ⟨i0, hi0, hz0, hz1, hz2⟩ := info_parts int_info
    go_enter Try.func34, Try.ntmps34
    go_wp2_with (first | (go_at_call 30; refine (HC.out _ HB.out).mono ?_; rintro e wc ⟨rfl, hb⟩; have HB5 := Lib.hid (bTr HB.out hb); have P5 := Lib.hid (P0.out.later hb); have z2 := P5.out.cell 2; clear hb))
    have HRW := Lib.hid (HS.out.later HB5.out)
    clear HS HB P0 HC
    go_loopw [3, 12] (fun v i wr => CollAt f nP wc v i wr) (fun _ i _ => nP - (intOf i).toNat)
    case atStart => exact CollAt.start f nP wc
    case round =>
      obtain ⟨i, rfl, hi, HO, HBR⟩ := hrel
      have PR := Lib.hid (P5.out.later HBR.out)
      have HSR := Lib.hid (HRW.out.later HBR.out)
      clear z2
      have y2 := PR.out.cell 2
      by_cases hin : i < nP
      · have hin' : (i : Int) < (nP : Int) := by omega
        have hi0' : (0 : Int) ≤ (i : Int) := by omega
        have hsz := HBR.out.size
        have ylt := PR.out.lt
        obtain ⟨b, off, ho1, hbB, h10, h11, h12, h13, h14, h15⟩ := HSR.out i hin
        subst ho1
        have HW5 := Lib.hid (bAl (Below.refl _ wr) (.cells #[.int .i64 (P i).kd, .int .i64 (P i).mx, .int .i64 (P i).tp, .int .i64 (P i).ob, .int .i64 (P i).op, .int .i64 (P i).ky] 23))
        have HQ : Hid (f i = decide ((P i).kd = 2)) := Lib.hid (HF.out i)
        generalize P i = q at h10 h11 h12 h13 h14 h15 HW5 HQ
        by_cases hk : q.kd = 2
        · have hk' : (q.kd == 2) = true := by rw [hk]; rfl
          have hfi : f i = true := by rw [HQ.out, decide_eq_true hk]
          clear hk HQ
          go_wp2_with (at_builtin; refine wpList_append_own_at _ rfl (.tmp 20) (.tmp 22) 28 rfl wc.heap.size 3 i0 (.int .i64 0) 1 8 Try.underlying28 hi0 hz0 hz1 hz2 rfl (by decide) _ _ _ rfl ((own_later HO.out HW5.out).alloc _) ⟨wr.heap.size + 1, 0, none⟩ 1 1 [iv i] rfl rfl ?c1 ?c2 ?c3 ?c4 ?c5 ?_; (case c1 => exact cell_one_new' _ (by simp) _ _); (case c2 => intro u hu; simp at hu; subst hu; rfl); (case c3 => have := HLN.out i; unfold maxLen; omega); (case c4 => have := HLN.out i; omega); (case c5 => have h1 := hsz; simp; omega); intro v' w3 hown3 hgrow hnil hat; have H3 := Lib.hid (And.intro hown3 hgrow); clear hown3 hgrow hnil hat)
          go_roundw
          case rel => exact CollAt.yes hfi hin HO.out HBR.out HW5.out H3.out.2 H3.out.1
          case measure => simp [intOf]; omega
        · have hk' : (q.kd == 2) = false := by rw [beq_eq_false_iff_ne]; exact hk
          have hfi : f i = false := by rw [HQ.out, decide_eq_false hk]
          clear hk HQ
          go_wp2_with fail
          go_roundw
          case rel => exact CollAt.no hfi hin HO.out HBR.out HW5.out
          case measure => simp [intOf]; omega
      · obtain rfl : i = nP := by omega
        have HO2 := HO
        have HFIN := Lib.hid (bTr HB5.out HBR.out)
        have HSZ := Lib.hid HB5.out.size
        obtain ⟨o8, c8, hv8⟩ := own_any HO.out
        have HV8 := Lib.hid hv8
        clear hv8
        go_wp2_with fail
        exact bodyPost_ret (by simp [results, Try.results34, go_sem]) rfl ⟨_, rfl, ⟨_, HO2.out, HSZ.out⟩, HFIN.out⟩
set_option maxRecDepth 100000 in
set_option maxHeartbeats 8000000 in
theorem rvpaper_any (o : Option Addr) (c : Nat) (x : Ppr) (w : World) (hs : RowP w w.heap.size o x.nP x.P) :
    Calls Try.prog 31 #[.agg (pprC o c x)] w fun e w' => e = .returned (.bool x.okB) ∧ Below w.heap.size w w' := by
  have HB := Lib.hid (bAl (Below.refl _ w) (.cells (pprC o c x) 46))
  have P0 : Hid (Blk (w.alloc (.cells (pprC o c x) 46)) w.heap.size 46 (pprC o c x)) := Lib.hid (Blk.newAt rfl)
  have HRW := Lib.hid (hs.later HB.out)
  clear hs
  have HE := Lib.hid (show x.okB = (decide x.ok && allOk x.P x.nP && decide (sumM x.P x.nP ≤ 200)) from rfl)
  have HO := Lib.hid (show x.ok ↔ (0 ≤ x.code ∧ x.code ≤ 31 ∧ 0 ≤ x.var ∧ x.var ≤ 3 ∧ 1 ≤ x.nP ∧ x.nP ≤ 24) from Iff.rfl)
  have HNO := Lib.hid (fun h : ¬ (0 ≤ x.code ∧ x.code ≤ 31 ∧ 0 ≤ x.var ∧ x.var ≤ 3 ∧ 1 ≤ x.nP ∧ x.nP ≤ 24) => (show x.okB = false by rw [HE.out, decide_eq_false (fun hc => h (HO.out.1 hc))]; rfl))
  have HYES := Lib.hid (fun h : (0 ≤ x.code ∧ x.code ≤ 31 ∧ 0 ≤ x.var ∧ x.var ≤ 3 ∧ 1 ≤ x.nP ∧ x.nP ≤ 24) => (show x.okB = (allOk x.P x.nP && decide (sumM x.P x.nP ≤ 200)) by rw [HE.out, decide_eq_true (HO.out.2 h)]; rfl))
  clear HE HO
  generalize x.okB = z at HNO HYES ⊢
  unfold pprC at HB P0 HRW ⊢
  obtain ⟨code, var, nP, P⟩ := x
  dsimp only at HB P0 HRW HNO HYES ⊢
  by_cases hh : 0 ≤ code ∧ code ≤ 31 ∧ 0 ≤ var ∧ var ≤ 3 ∧ 1 ≤ nP ∧ nP ≤ 24
  · have HZ := Lib.hid (HYES.out hh)
    clear HYES HNO
    have a1 : ¬ code < 0 := by omega
    have a2 : ¬ 31 < code := by omega
    have a3 : ¬ var < 0 := by omega
    have a4 : ¬ 4 ≤ var := by omega
    have a5 : ¬ (nP : Int) < 1 := by omega
    have a6 : ¬ (24 : Int) < (nP : Int) := by omega
    have hle : nP ≤ 24 := by omega
    clear hh
    have z2 := P0.out.cell 2
    go_enter Try.func31, Try.ntmps31
    go_wp2_with fail
    generalize w.alloc (.cells #[.int .i64 code, .int .i64 var, .slice o nP c] 46) = wc at P0 z2 HB HRW ⊢
    go_loopw [3, 4] (fun v i wr => ∃ k : Nat, i = .int .i64 k ∧ k ≤ nP ∧ v = .int .i64 (sumM P k) ∧ Hid (allOk P k = true) ∧ Hid (Below wc.heap.size wc wr)) (fun _ i _ => nP - (intOf i).toNat)
    case atStart => exact ⟨0, rfl, Nat.zero_le _, rfl, Lib.hid rfl, Lib.hid (Below.refl _ _)⟩
    case round =>
      obtain ⟨k, rfl, hk, rfl, HD, HBR⟩ := hrel
      have PR := Lib.hid (P0.out.later HBR.out)
      clear z2
      have y2 := PR.out.cell 2
      by_cases hkn : k < nP
      · have hkn' : (k : Int) < (nP : Int) := by omega
        obtain ⟨b, off, ho1, hbB, h0, h1, h2, h3, h4, h5⟩ := HRW.out.later HBR.out k hkn
        subst ho1
        have HV := Lib.hid (fun W => rvalid_any (P k) W)
        unfold ptC at HV
        cases hq : (P k).okB
        · have HF := Lib.hid (show z = false by rw [HZ.out, allOk_no hq hkn]; rfl)
          rw [hq] at HV
          clear hq
          generalize P k = q at HV h0 h1 h2 h3 h4 h5
          generalize sumM P k = s
          go_wp2_with (go_at_call 13; refine (HV.out _).mono ?_; rintro e w5 ⟨rfl, hb⟩; have HB5 := Lib.hid (bTr (bTr HB.out HBR.out) hb); clear hb)
          exact bodyPost_ret (v := .bool false) (by simp [results, Try.results31, go_sem]) rfl ⟨retB HF.out.symm, HB5.out⟩
        · have HG := Lib.hid (allOk_go HD.out hq)
          rw [hq] at HV
          clear hq
          have hx := sumM_bd2 HD.out (Nat.le_refl k) (by omega)
          have hy := sumM_bd2 HG.out (Nat.le_refl (k + 1)) (by omega)
          have HE := Lib.hid (sumM_step (P := P) k)
          rw [HE.out] at hy
          generalize P k = q at HV h0 h1 h2 h3 h4 h5 hy HE
          generalize sumM P k = s at hx hy HE ⊢
          have hwr : IntKind.i64.wrap (s + q.mx) = s + q.mx := by rw [IntKind.wrap_i64]; omega
          clear hx hy
          go_wp2_with (go_at_call 13; refine (HV.out _).mono ?_; rintro e w5 ⟨rfl, hb⟩; have HB5 := Lib.hid (bTr HBR.out hb); have P6 := Lib.hid (PR.out.later hb); have x2 := P6.out.cell 2; have k1 := (hb.cell (p := ⟨b, off + k * 6 + 1, none⟩) hbB).trans h1; clear hb)
          go_roundw
          case rel => exact ⟨k + 1, by go_num, by omega, by rw [HE.out], HG, HB5⟩
          case measure => simp [intOf]; omega
      · obtain rfl : k = nP := by omega
        have HF := Lib.hid (show z = decide (sumM P k ≤ 200) by rw [HZ.out, HD.out]; rfl)
        have HBF := Lib.hid (bTr HB.out HBR.out)
        generalize sumM P k = s at HF ⊢
        go_wp2_with fail
        exact bodyPost_ret (v := .bool (decide (s ≤ 200))) (by simp [results, Try.results31, go_sem]) rfl ⟨retB HF.out.symm, HBF.out⟩
  · have HZ := Lib.hid (HNO.out hh)
    clear HYES HNO HRW
    have hcases : code < 0 ∨ (¬ code < 0 ∧ 31 < code) ∨ (¬ code < 0 ∧ ¬ 31 < code ∧ var < 0) ∨ (¬ code < 0 ∧ ¬ 31 < code ∧ ¬ var < 0 ∧ 4 ≤ var) ∨ (¬ code < 0 ∧ ¬ 31 < code ∧ ¬ var < 0 ∧ ¬ 4 ≤ var ∧ (nP : Int) < 1) ∨ (¬ code < 0 ∧ ¬ 31 < code ∧ ¬ var < 0 ∧ ¬ 4 ≤ var ∧ ¬ (nP : Int) < 1 ∧ (24 : Int) < (nP : Int)) := by omega
    clear hh
    rcases hcases with ha | ⟨ha, hb⟩ | ⟨ha, hb, hc⟩ | ⟨ha, hb, hc, hd⟩ | ⟨ha, hb, hc, hd, he⟩ | ⟨ha, hb, hc, hd, he, hf⟩
    all_goals
      go_enter Try.func31, Try.ntmps31
      go_wp2_with fail
      go_ret
      exact ⟨retB HZ.out.symm, HB.out⟩
end Go.Proofs.Ytjciniffkdadaaa
