/-
  The reference's Choices, PaperTotal and Total.
-/
import Derived.Test.YtjciniffkdadaaaIPap2
import Derived.Test.YtjciniffkdadaaaIRCheck
namespace Go.Proofs.Ytjciniffkdadaaa
open Go.RowKit
set_option linter.unusedSimpArgs false
set_option linter.unusedVariables false

set_option maxRecDepth 100000 in
set_option maxHeartbeats 8000000 in
theorem rchoices_any (o : Option Addr) (c : Nat) (x : Ppr) (w : World) (hs : RowP w w.heap.size o x.nP x.P) :
    Calls Try.prog 35 #[.agg (pprC o c x)] w (NatR x.chs w) := by
  have HC := Lib.hid (fun W (hb : Below w.heap.size w W) => rvpaper_any o c x W (hs.later hb))
  have HS := Lib.hid hs
  have HB := Lib.hid (bAl (Below.refl _ w) (.cells (pprC o c x) 46))
  have P0 : Hid (Blk (w.alloc (.cells (pprC o c x) 46)) w.heap.size 46 (pprC o c x)) := Lib.hid (Blk.newAt rfl)
  clear hs
  have HT := Lib.hid (show x.chs = if x.okB = true then (List.range x.nP).filter (chB x.P) else [] from rfl)
  have HLE := Lib.hid (fun h => show x.nP ≤ 24 from by have := (Ppr.of_ok (x := x) h).1; unfold Ppr.ok at this; omega)
  unfold pprC at HB P0 HC ⊢
  cases hz : x.okB
  · rw [hz, if_neg (by decide)] at HT
    rw [hz] at HC
    rw [HT.out]
    clear HLE hz HT
    go_enter Try.func35, Try.ntmps35
    go_wp2_with (first | (go_at_call 31; refine (HC.out _ HB.out).mono ?_; rintro e w5 ⟨rfl, hb⟩; have HB5 := Lib.hid (bTr HB.out hb); clear hb))
    go_ret
    exact ⟨_, rfl, NatV.nil _ _, HB5.out⟩
  · rw [hz, if_pos rfl] at HT
    have hle := HLE.out hz
    rw [hz] at HC
    rw [HT.out]
    clear hz HT HLE
    obtain ⟨code, var, nP, P⟩ := x
    dsimp only at HC HS HB P0 hle ⊢
    obtain ⟨f, hf⟩ : ∃ f : Nat → Bool, f = chB P := ⟨_, rfl⟩
    rw [← hf]
    have HF := Lib.hid (fun i => (congrFun hf i : f i = decide ((P i).kd = 2)))
    have HLN := Lib.hid (filt_len f)
    clear hf
    obtain ⟨i0, hi0, hz0, hz1, hz2⟩ := info_parts int_info
    go_enter Try.func35, Try.ntmps35
    go_wp2_with (first | (go_at_call 31; refine (HC.out _ HB.out).mono ?_; rintro e wc ⟨rfl, hb⟩; have HB5 := Lib.hid (bTr HB.out hb); have P5 := Lib.hid (P0.out.later hb); have z2 := P5.out.cell 2; clear hb))
    have HRW := Lib.hid (HS.out.later HB5.out)
    clear HS HB P0 HC
    go_loopw [3, 4] (fun v i wr => CollAt f nP wc v i wr) (fun _ i _ => nP - (intOf i).toNat)
    case atStart => exact CollAt.start f nP wc
    case round =>
      obtain ⟨i, rfl, hi, HO, HBR⟩ := hrel
      have PR := Lib.hid (P5.out.later HBR.out)
      have HSR := Lib.hid (HRW.out.later HBR.out)
      clear z2
      have y2 := PR.out.cell 2
      by_cases hin : i < nP
      · have hin' : (i : Int) < (nP : Int) := by omega
        have hi0' : (0 : Int) ≤ (i : Int) := by omega
        have hsz := HBR.out.size
        have ylt := PR.out.lt
        obtain ⟨b, off, ho1, hbB, h10, h11, h12, h13, h14, h15⟩ := HSR.out i hin
        subst ho1
        have HW5 := Lib.hid (Below.refl wr.heap.size wr)
        have HQ : Hid (f i = decide ((P i).kd = 2)) := Lib.hid (HF.out i)
        generalize P i = q at h10 h11 h12 h13 h14 h15 HW5 HQ
        by_cases hk : q.kd = 2
        · have hk' : (q.kd == 2) = true := by rw [hk]; rfl
          have hfi : f i = true := by rw [HQ.out, decide_eq_true hk]
          clear hk HQ
          go_wp2_with (at_builtin; refine wpList_append_own_at _ rfl (.tmp 22) (.tmp 24) 28 rfl wc.heap.size 3 i0 (.int .i64 0) 1 8 Try.underlying28 hi0 hz0 hz1 hz2 rfl (by decide) _ _ _ rfl ((own_later HO.out HW5.out).alloc _) ⟨wr.heap.size, 0, none⟩ 1 1 [iv i] rfl rfl ?c1 ?c2 ?c3 ?c4 ?c5 ?_; (case c1 => exact cell_one_new _ _ _); (case c2 => intro u hu; simp at hu; subst hu; rfl); (case c3 => have := HLN.out i; unfold maxLen; omega); (case c4 => have := HLN.out i; omega); (case c5 => have h1 := hsz; simp; omega); intro v' w3 hown3 hgrow hnil hat; have H3 := Lib.hid (And.intro hown3 hgrow); clear hown3 hgrow hnil hat)
          go_roundw
          case rel => exact CollAt.yes hfi hin HO.out HBR.out HW5.out H3.out.2 H3.out.1
          case measure => simp [intOf]; omega
        · have hk' : (q.kd == 2) = false := by rw [beq_eq_false_iff_ne]; exact hk
          have hfi : f i = false := by rw [HQ.out, decide_eq_false hk]
          clear hk HQ
          go_wp2_with fail
          go_roundw
          case rel => exact CollAt.no hfi hin HO.out HBR.out HW5.out
          case measure => simp [intOf]; omega
      · obtain rfl : i = nP := by omega
        have HO2 := HO
        have HFIN := Lib.hid (bTr HB5.out HBR.out)
        have HSZ := Lib.hid HB5.out.size
        obtain ⟨o8, c8, hv8⟩ := own_any HO.out
        have HV8 := Lib.hid hv8
        clear hv8
        go_wp2_with fail
        exact bodyPost_ret (by simp [results, Try.results35, go_sem]) rfl ⟨_, rfl, ⟨_, HO2.out, HSZ.out⟩, HFIN.out⟩
set_option maxRecDepth 100000 in
set_option maxHeartbeats 8000000 in
theorem rptotal_any (o : Option Addr) (c : Nat) (x : Ppr) (w : World) (hs : RowP w w.heap.size o x.nP x.P) :
    Calls Try.prog 33 #[.agg (pprC o c x)] w fun e w' => e = .returned (.int .i64 x.tot) ∧ Below w.heap.size w w' := by
  have HC := Lib.hid (fun W (hb : Below w.heap.size w W) => rvpaper_any o c x W (hs.later hb))
  have HS : Hid (RowP w w.heap.size o x.nP x.P) := Lib.hid hs
  have HB := Lib.hid (bAl (Below.refl _ w) (.cells (pprC o c x) 46))
  have P0 : Hid (Blk (w.alloc (.cells (pprC o c x) 46)) w.heap.size 46 (pprC o c x)) := Lib.hid (Blk.newAt rfl)
  clear hs
  have HT := Lib.hid (show x.tot = if x.okB = true then sumM x.P x.nP else 0 from rfl)
  have HLE := Lib.hid (fun h : x.okB = true => (show x.nP ≤ 24 ∧ allOk x.P x.nP = true from ⟨by have := (Ppr.of_ok h).1; unfold Ppr.ok at this; omega, (Ppr.of_ok h).2.1⟩))
  unfold pprC at HB P0 HC ⊢
  by_cases hz : x.okB = true
  · rw [if_pos hz] at HT
    obtain ⟨hle, hok⟩ := HLE.out hz
    rw [hz] at HC
    rw [HT.out]
    clear hz HT HLE
    have HP := Lib.hid (fun k (hk : k ≤ x.nP) => sumM_bd2 hok hk (by omega))
    clear hok
    go_enter Try.func33, Try.ntmps33
    go_wp2_with (first | (go_at_call 31; refine (HC.out _ HB.out).mono ?_; rintro e wc ⟨rfl, hb⟩; have HB5 := Lib.hid (bTr HB.out hb); have P5 := Lib.hid (P0.out.later hb); have z2 := P5.out.cell 2; clear hb))
    have HRW := Lib.hid (HS.out.later HB5.out)
    clear HS HB P0 HC
    obtain ⟨code, var, nP, P⟩ := x
    dsimp only at HRW hle HP z2 ⊢
    go_loopw [3, 4] (fun v i wr => ∃ k : Nat, i = .int .i64 k ∧ k ≤ nP ∧ v = .int .i64 (sumM P k) ∧ wr = wc) (fun _ i _ => nP - (intOf i).toNat)
    case atStart => exact ⟨0, rfl, Nat.zero_le _, rfl, rfl⟩
    case round =>
      obtain ⟨k, rfl, hk, rfl, rfl⟩ := hrel
      by_cases hkn : k < nP
      · have hkn' : (k : Int) < (nP : Int) := by omega
        obtain ⟨b, off, ho1, hbB, h0, h1, h2, h3, h4, h5⟩ := HRW.out k hkn
        subst ho1
        have hx := HP.out k hk
        have hy := HP.out (k + 1) hkn
        have HE := Lib.hid (sumM_step (P := P) k)
        rw [HE.out] at hy
        generalize P k = q at h0 h1 h2 h3 h4 h5 hy HE
        generalize sumM P k = s at hx hy HE ⊢
        have hwr : IntKind.i64.wrap (s + q.mx) = s + q.mx := by rw [IntKind.wrap_i64]; omega
        clear hx hy
        go_wp2_with fail
        go_roundw
        case rel => exact ⟨k + 1, by go_num, by omega, by rw [HE.out], trivial⟩
        case measure => simp [intOf]; omega
      · obtain rfl : k = nP := by omega
        go_wp2_with fail
        exact bodyPost_ret (v := .int .i64 (sumM P k)) (by simp [results, Try.results33, go_sem]) rfl ⟨rfl, HB5.out⟩
  · rw [if_neg hz] at HT
    have hz' : x.okB = false := by simpa using hz
    rw [hz'] at HC
    clear hz'
    clear HLE hz HS
    go_enter Try.func33, Try.ntmps33
    go_wp2_with (first | (go_at_call 31; refine (HC.out _ HB.out).mono ?_; rintro e w5 ⟨rfl, hb⟩; have HB5 := Lib.hid (bTr HB.out hb); clear hb))
    go_ret
    exact ⟨ret_int HT.out.symm, HB5.out⟩
set_option maxRecDepth 100000 in
set_option maxHeartbeats 8000000 in
theorem rtotal_any (p : IPtr) (x : Itm) (w : World) (hs : ItmIn w w.heap.size p x) :
    Calls Try.prog 22 #[.agg (itmC p x)] w fun e w' => e = .returned (.int .i64 x.tot) ∧ Below w.heap.size w w' := by
  have HC := Lib.hid (fun W (hb : Below w.heap.size w W) => rcheck_any p x W (hs.later hb))
  have HS : Hid (RowP w w.heap.size p.o1 x.nP x.P) := Lib.hid hs.t
  have HB := Lib.hid (bAl (Below.refl _ w) (.cells (itmC p x) 33))
  have P0 : Hid (Blk (w.alloc (.cells (itmC p x) 33)) w.heap.size 33 (itmC p x)) := Lib.hid (Blk.newAt rfl)
  clear hs
  have HT := Lib.hid (show x.tot = if x.chk = 0 then sumM x.P x.nP else 0 from rfl)
  have HLE := Lib.hid (fun h : x.chk = 0 => (show x.nP ≤ 24 ∧ allOk x.P x.nP = true from ⟨by have := (Itm.ok h).2.1.2.1; omega, (Itm.ok h).2.2.2.2.1⟩))
  unfold itmC at HB P0 HC ⊢
  by_cases hz : x.chk = 0
  · rw [if_pos hz] at HT
    obtain ⟨hle, hok⟩ := HLE.out hz
    rw [hz] at HC
    rw [HT.out]
    clear hz HT HLE
    have HP := Lib.hid (fun k (hk : k ≤ x.nP) => sumM_bd2 hok hk (by omega))
    clear hok
    go_enter Try.func22, Try.ntmps22
    go_wp2_with (first | (go_at_call 20; refine (HC.out _ HB.out).mono ?_; rintro e wc ⟨rfl, hb⟩; have HB5 := Lib.hid (bTr HB.out hb); have P5 := Lib.hid (P0.out.later hb); have z2 := P5.out.cell 3; clear hb))
    have HRW := Lib.hid (HS.out.later HB5.out)
    clear HS HB P0 HC
    obtain ⟨o1, c1, o2, c2⟩ := p
    obtain ⟨id, ver, st, nP, P, nE, E⟩ := x
    dsimp only at HRW hle HP z2 ⊢
    go_loopw [3, 4] (fun v i wr => ∃ k : Nat, i = .int .i64 k ∧ k ≤ nP ∧ v = .int .i64 (sumM P k) ∧ wr = wc) (fun _ i _ => nP - (intOf i).toNat)
    case atStart => exact ⟨0, rfl, Nat.zero_le _, rfl, rfl⟩
    case round =>
      obtain ⟨k, rfl, hk, rfl, rfl⟩ := hrel
      by_cases hkn : k < nP
      · have hkn' : (k : Int) < (nP : Int) := by omega
        obtain ⟨b, off, ho1, hbB, h0, h1, h2, h3, h4, h5⟩ := HRW.out k hkn
        subst ho1
        have hx := HP.out k hk
        have hy := HP.out (k + 1) hkn
        have HE := Lib.hid (sumM_step (P := P) k)
        rw [HE.out] at hy
        generalize P k = q at h0 h1 h2 h3 h4 h5 hy HE
        generalize sumM P k = s at hx hy HE ⊢
        have hwr : IntKind.i64.wrap (s + q.mx) = s + q.mx := by rw [IntKind.wrap_i64]; omega
        clear hx hy
        go_wp2_with fail
        go_roundw
        case rel => exact ⟨k + 1, by go_num, by omega, by rw [HE.out], trivial⟩
        case measure => simp [intOf]; omega
      · obtain rfl : k = nP := by omega
        go_wp2_with fail
        exact bodyPost_ret (v := .int .i64 (sumM P k)) (by simp [results, Try.results22, go_sem]) rfl ⟨rfl, HB5.out⟩
  · rw [if_neg hz] at HT
    generalize x.chk = zz at HC hz
    have hz' : (zz != 0) = true := by rw [bne_iff_ne]; exact hz
    clear HLE hz HS
    go_enter Try.func22, Try.ntmps22
    go_wp2_with (first | (go_at_call 20; refine (HC.out _ HB.out).mono ?_; rintro e w5 ⟨rfl, hb⟩; have HB5 := Lib.hid (bTr HB.out hb); clear hb))
    go_ret
    exact ⟨ret_int HT.out.symm, HB5.out⟩
end Go.Proofs.Ytjciniffkdadaaa
