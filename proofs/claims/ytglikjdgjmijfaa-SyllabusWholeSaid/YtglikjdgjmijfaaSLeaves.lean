/-
  Leaves, of the program and of the reference.
-/
import Derived.Test.YtglikjdgjmijfaaSCommon
namespace Go.Proofs.Ytglikjdgjmijfaa
open Go.RowKit
set_option linter.unusedSimpArgs false
set_option linter.unusedVariables false

def Syl.lvs (S : Syl) : List Nat := if S.chk = 0 then (List.range S.nT).filter (leafB S.tp S.nT) else []
def isPar (tp : Nat → Int) (t : Int) (n : Nat) : Bool := (List.range n).any fun c => decide (tp c = t)
theorem isPar_succ (tp : Nat → Int) (t : Int) (k : Nat) : isPar tp t (k + 1) = (isPar tp t k || decide (tp k = t)) := by unfold isPar; rw [List.range_succ, List.any_append]; simp
theorem isPar_hit {tp : Nat → Int} {t : Int} {k n : Nat} (h : tp k = t) (hk : k < n) : isPar tp t n = true := List.any_eq_true.2 ⟨k, List.mem_range.2 hk, by simpa using h⟩
theorem leafB_eq (tp : Nat → Int) (n t : Nat) : leafB tp n t = !(isPar tp t n) := rfl
theorem retB {a b : Bool} (h : a = b) : Ending.returned (.bool a) = .returned (.bool b) := by rw [h]

set_option maxHeartbeats 1000000 in
theorem closure_leaf (s : ByteArray) (u t : Int) (g : Nat) (w : World) (hg : w.cell? ⟨g, 0, none⟩ = some (.int .i64 t)) (hl : g < w.heap.size) :
    Calls Try.prog 49 #[.agg #[.string s, .int .i64 u], .pointer (some ⟨g, 0, none⟩)] w fun e w' => e = .returned (.bool (decide (u = t))) ∧ Below w.heap.size w w' := by
  have HB := Lib.hid (bAl (Below.refl _ w) (.cells #[.string s, .int .i64 u] 36))
  by_cases h : u = t
  · subst h
    rw [decide_eq_true rfl]
    go_enter Try.func49, Try.ntmps49
    go_wp2_with fail
    go_ret
    exact ⟨retB (by simp), HB.out⟩
  · rw [decide_eq_false h]
    have h' : (u == t) = false := by rw [beq_eq_false_iff_ne]; exact h
    clear h
    go_enter Try.func49, Try.ntmps49
    go_wp2_with fail
    go_ret
    exact ⟨rfl, HB.out⟩
def IdxB (b : Bool) (w : World) (e : Ending) (w' : World) : Prop := ∃ r : Int, e = .returned (.int .i64 r) ∧ decide (0 ≤ r) = b ∧ Below w.heap.size w w'
set_option maxHeartbeats 2000000 in
theorem indexTop_any (o : Option Addr) (n c : Nat) (tn : Nat → ByteArray) (tp : Nat → Int) (t : Int) (g : Nat) (w : World) (hs : RowT w w.heap.size o n tn tp) (hn : n ≤ 1000) (hg : w.cell? ⟨g, 0, none⟩ = some (.int .i64 t)) (hl : g < w.heap.size) :
    Calls Try.prog 65 #[.slice o n c, .func (.func 49) #[] #[.pointer (some ⟨g, 0, none⟩)]] w (IdxB (isPar tp t n) w) := by
  have HS := Lib.hid hs
  have HG := Lib.hid hg
  clear hs hg
  go_enter Try.func65, Try.ntmps65
  go_wp2_with fail
  go_loopw [8] (fun i wr => ∃ k : Nat, i = .int .i64 k ∧ k ≤ n ∧ Hid (isPar tp t k = false) ∧ Hid (Below w.heap.size w wr)) (fun i _ => n - (intOf i).toNat)
  case atStart => exact ⟨0, rfl, Nat.zero_le _, Lib.hid rfl, Lib.hid (Below.refl _ _)⟩
  case round =>
    obtain ⟨k, rfl, hk, HD, HB⟩ := hrel
    by_cases hkn : k < n
    · have hkn' : (k : Int) < (n : Int) := by omega
      obtain ⟨b, off, rfl, hbB, h0, h1⟩ := HS.out.below HB.out (Nat.le_refl _) k hkn
      have HCL := Lib.hid (closure_leaf (tn k) (tp k) t g wr ((HB.out.cell (p := ⟨g, 0, none⟩) hl).trans HG.out) (Nat.lt_of_lt_of_le hl HB.out.size))
      by_cases he : tp k = t
      · have HF := Lib.hid (isPar_hit he hkn)
        rw [decide_eq_true he] at HCL
        clear he
        generalize tp k = u at h1 HCL
        generalize tn k = s at h0 HCL
        go_wp2_with (go_at_call 49; refine HCL.out.mono ?_; rintro e w5 ⟨rfl, hb5⟩; have HW5 := Lib.hid hb5; clear hb5)
        exact bodyPost_ret (v := .int .i64 (k : Int)) (by simp [results, Try.results65, go_sem]) rfl ⟨(k : Int), rfl, by rw [HF.out]; exact decide_eq_true (by omega), bTr HB.out HW5.out⟩
      · have HD2 := Lib.hid (show isPar tp t (k + 1) = false by rw [isPar_succ, HD.out, decide_eq_false he]; rfl)
        rw [decide_eq_false he] at HCL
        clear he
        generalize tp k = u at h1 HCL
        generalize tn k = s at h0 HCL
        go_wp2_with (go_at_call 49; refine HCL.out.mono ?_; rintro e w5 ⟨rfl, hb5⟩; have HW5 := Lib.hid hb5; clear hb5)
        go_roundw
        case rel => exact ⟨k + 1, by go_num, by omega, HD2, Lib.hid (bTr HB.out HW5.out)⟩
        case measure => simp [intOf]; omega
    · obtain rfl : k = n := by omega
      go_wp2_with fail
      exact bodyPost_ret (v := .int .i64 (-1)) (by simp [results, Try.results65, go_sem]) rfl ⟨-1, rfl, by rw [HD.out]; rfl, HB.out⟩
set_option maxHeartbeats 1000000 in
theorem containsTop_any (o : Option Addr) (n c : Nat) (tn : Nat → ByteArray) (tp : Nat → Int) (t : Int) (g : Nat) (w : World) (hs : RowT w w.heap.size o n tn tp) (hn : n ≤ 1000) (hg : w.cell? ⟨g, 0, none⟩ = some (.int .i64 t)) (hl : g < w.heap.size) :
    Calls Try.prog 48 #[.slice o n c, .func (.func 49) #[] #[.pointer (some ⟨g, 0, none⟩)]] w fun e w' => e = .returned (.bool (isPar tp t n)) ∧ Below w.heap.size w w' := by
  have HI := Lib.hid (indexTop_any o n c tn tp t g w hs hn hg hl)
  clear hs hg
  go_enter Try.func48, Try.ntmps48
  go_wp2_with fail
  refine HI.out.mono ?_
  rintro e w' ⟨r, rfl, hr, hb⟩
  have HR := Lib.hid hr
  have HB := Lib.hid hb
  clear hr hb
  go_wp2_with fail
  go_ret
  exact ⟨retB HR.out, HB.out⟩

set_option maxRecDepth 100000 in
set_option maxHeartbeats 4000000 in
theorem leaves_any (p : Ptr) (S : Syl) (w : World) (hs : SylIn w w.heap.size p S) :
    Calls Try.prog 24 #[.agg (sylC p S)] w (NatR S.lvs w) := by
  have HT := Lib.hid (fun W (hb : Below w.heap.size w W) => check_any p S W (hs.later hb))
  have HB := Lib.hid (bAl (Below.refl _ w) (.cells #[.slice p.o1 S.nT p.c1, .slice p.o2 S.nO p.c2, .slice p.o3 S.nC p.c3] 27))
  have P0 : Hid (Blk (w.alloc (.cells #[.slice p.o1 S.nT p.c1, .slice p.o2 S.nO p.c2, .slice p.o3 S.nC p.c3] 27)) w.heap.size 27 (sylC p S)) := Lib.hid (Blk.newAt rfl)
  by_cases hh : S.chk = 0
  · obtain ⟨hn, _, _, hF, _⟩ := S.ok hh
    have HL := Lib.hid (show S.lvs = (List.range S.nT).filter (leafB S.tp S.nT) by unfold Syl.lvs; rw [if_pos hh]; done)
    rw [HL.out]
    rw [hh] at HT
    clear HL hh
    obtain ⟨f, hf⟩ : ∃ f : Nat → Bool, f = leafB S.tp S.nT := ⟨_, rfl⟩
    rw [← hf]
    have HFI := Lib.hid (fun i => (show f i = !(isPar S.tp i S.nT) from congrFun hf i))
    have HRR := Lib.hid (fun W (hb : Below w.heap.size w W) i g (hg : W.cell? ⟨g, 0, none⟩ = some (.int .i64 i)) (hl : g < W.heap.size) => containsTop_any p.o1 S.nT p.c1 S.tn S.tp i g W (hs.later hb).t (by omega) hg hl)
    have HLN := Lib.hid (filt_len f)
    clear hs hf hF
    obtain ⟨o1, c1, o2, c2, o3, c3⟩ := p
    obtain ⟨nT, tn, tp, nO, on, nC, cn, cw, cm⟩ := S
    unfold sylC at HT P0 ⊢
    try unfold sylC at HRR
    dsimp only at HT HB P0 hn HRR HFI ⊢
    obtain ⟨i0, hi0, hz0, hz1, hz2⟩ := info_parts int_info
    go_enter Try.func24, Try.ntmps24
    go_wp2_with (go_at_call 13; refine (HT.out _ HB.out).mono ?_; rintro e w7 ⟨rfl, hb⟩; have HF := Lib.hid (bTr HB.out hb); have PX := Lib.hid (P0.out.later hb); have z0 : w7.cell? ⟨w.heap.size, 0, none⟩ = some (.slice o1 nT c1) := PX.out.cell 0; clear hb)
    go_loopw [3, 11] (fun v i wr => CollAt f nT w7 v i wr) (fun _ i _ => nT - (intOf i).toNat)
    case atStart => exact CollAt.start f nT w7
    case round =>
      obtain ⟨i, rfl, hi, HO, HBR⟩ := hrel
      have PR := Lib.hid (PX.out.later HBR.out)
      have y0 : wr.cell? ⟨w.heap.size, 0, none⟩ = some (.slice o1 nT c1) := PR.out.cell 0
      have y1 : wr.cell? ⟨w.heap.size, 1, none⟩ = some (.slice o2 nO c2) := PR.out.cell 1
      have y2 : wr.cell? ⟨w.heap.size, 2, none⟩ = some (.slice o3 nC c3) := PR.out.cell 2
      by_cases hin : i < nT
      · have hin' : (i : Int) < (nT : Int) := by omega
        have hi0' : (0 : Int) ≤ (i : Int) := by omega
        have hsz := HBR.out.size
        have ylt := PR.out.lt
        have HWA := Lib.hid (bAl (Below.refl _ wr) (.cells #[.int .i64 (i : Int)] 3))
        have HCC := Lib.hid (HRR.out (wr.alloc (.cells #[.int .i64 (i : Int)] 3)) (bTr (bTr HF.out HBR.out) HWA.out) (i : Int) wr.heap.size ((Blk.new _ _ _).cell 0) (by simp))
        have HQ := Lib.hid (HFI.out i)
        generalize isPar tp (i : Int) nT = q at HCC HQ
        cases hfi : f i
        · obtain rfl : q = true := by cases q with | true => rfl | false => exact absurd (hfi.symm.trans HQ.out) (by decide)
          clear HRR HQ
          go_wp2_with (go_at_call 48; refine HCC.out.mono ?_; rintro e w5 ⟨rfl, hb5⟩; have HW5 := Lib.hid (bTr HWA.out hb5); have s0 : w5.cell? ⟨wr.heap.size, 0, none⟩ = some (.int .i64 (i : Int)) := ((Blk.new wr 3 #[.int .i64 (i : Int)]).later hb5).cell 0; clear hb5)
          go_roundw
          case rel => exact CollAt.no hfi hin HO.out HBR.out HW5.out
          case measure => simp [intOf]; omega
        · obtain rfl : q = false := by cases q with | false => rfl | true => exact absurd (hfi.symm.trans HQ.out) (by decide)
          clear HRR HQ
          go_wp2_with (first | (go_at_call 48; refine HCC.out.mono ?_; rintro e w5 ⟨rfl, hb5⟩; have HW5 := Lib.hid (bTr HWA.out hb5); have s0 : w5.cell? ⟨wr.heap.size, 0, none⟩ = some (.int .i64 (i : Int)) := ((Blk.new wr 3 #[.int .i64 (i : Int)]).later hb5).cell 0; clear hb5) | (at_builtin; refine wpList_append_own_at _ rfl (.tmp 19) (.tmp 21) 22 rfl w7.heap.size 3 i0 (.int .i64 0) 1 8 Try.underlying22 hi0 hz0 hz1 hz2 rfl (by decide) _ _ _ rfl ((own_later HO.out HW5.out).alloc _) ⟨w5.heap.size, 0, none⟩ 1 1 [iv i] rfl rfl ?c1 ?c2 ?c3 ?c4 ?c5 ?_; (case c1 => exact cell_one_new _ _ _); (case c2 => intro u hu; simp at hu; subst hu; rfl); (case c3 => have := HLN.out i; unfold maxLen; omega); (case c4 => have := HLN.out i; omega); (case c5 => have := HW5.out.size; simp; omega); intro v' w3 hown3 hgrow hnil hat; have H3 := Lib.hid (And.intro hown3 hgrow); clear hown3 hgrow hnil hat))
          go_roundw
          case rel => exact CollAt.yes hfi hin HO.out HBR.out HW5.out H3.out.2 H3.out.1
          case measure => simp [intOf]; omega
      · obtain rfl : i = nT := by omega
        have HO2 := HO
        have HFIN := Lib.hid (bTr HF.out HBR.out)
        have HSZ := Lib.hid HF.out.size
        obtain ⟨o8, c8, hv8⟩ := own_any HO.out
        have HV8 := Lib.hid hv8
        clear hv8
        go_wp2_with fail
        exact bodyPost_ret (by simp [results, Try.results24, go_sem]) rfl ⟨_, rfl, ⟨_, HO2.out, HSZ.out⟩, HFIN.out⟩
  · have HL := Lib.hid (show S.lvs = [] by unfold Syl.lvs; rw [if_neg hh])
    have hx' : (S.chk != 0) = true := by rw [bne_iff_ne]; exact hh
    generalize S.chk = x at HT hx'
    rw [HL.out]
    clear HL hh hs
    obtain ⟨o1, c1, o2, c2, o3, c3⟩ := p
    obtain ⟨nT, tn, tp, nO, on, nC, cn, cw, cm⟩ := S
    unfold sylC at HT P0 ⊢
    dsimp only at HT HB P0 ⊢
    go_enter Try.func24, Try.ntmps24
    go_wp2_with (go_at_call 13; refine (HT.out _ HB.out).mono ?_; rintro e w7 ⟨rfl, hb⟩; have HF := Lib.hid (bTr HB.out hb); clear hb)
    go_ret
    exact ⟨_, rfl, NatV.nil _ _, HF.out⟩

set_option maxRecDepth 100000 in
set_option maxHeartbeats 4000000 in
theorem rleaves_any (p : Ptr) (S : Syl) (w : World) (hs : SylIn w w.heap.size p S) :
    Calls Try.prog 25 #[.agg (sylC p S)] w (NatR S.lvs w) := by
  have HT := Lib.hid (fun W (hb : Below w.heap.size w W) => rcheck_any p S W (hs.later hb))
  have HB := Lib.hid (bAl (Below.refl _ w) (.cells #[.slice p.o1 S.nT p.c1, .slice p.o2 S.nO p.c2, .slice p.o3 S.nC p.c3] 27))
  have P0 : Hid (Blk (w.alloc (.cells #[.slice p.o1 S.nT p.c1, .slice p.o2 S.nO p.c2, .slice p.o3 S.nC p.c3] 27)) w.heap.size 27 (sylC p S)) := Lib.hid (Blk.newAt rfl)
  by_cases hh : S.chk = 0
  · obtain ⟨hn, _, _, hF, _⟩ := S.ok hh
    have HL := Lib.hid (show S.lvs = (List.range S.nT).filter (leafB S.tp S.nT) by unfold Syl.lvs; rw [if_pos hh]; done)
    rw [HL.out]
    rw [hh] at HT
    have hh0 := hh
    clear HL hh
    obtain ⟨f, hf⟩ : ∃ f : Nat → Bool, f = leafB S.tp S.nT := ⟨_, rfl⟩
    rw [← hf]
    have HFI := Lib.hid (fun i (hi : i < S.nT) => ((congrFun hf i).trans (leaf_under hF hi).symm : f i = decide ((underL S.tp S.nT i).length = 1)))
    have HU := Lib.hid (fun i (hi : i < S.nT) => (show S.und ((i : Nat) : Int) = underL S.tp S.nT i by unfold Syl.und; rw [if_pos (by unfold Syl.has; exact decide_eq_true ⟨hh0, by omega, by omega⟩)]; rfl))
    have HRR := Lib.hid (fun W (hb : Below w.heap.size w W) i (hi : i < S.nT) => (show Calls _ _ #[.agg (sylC p S), .int .i64 ((i : Nat) : Int)] W (NatR (underL S.tp S.nT i) W) by rw [← HU.out i hi]; exact runder_any p S i W (hs.later hb)))
    clear HU hh0
    have HLN := Lib.hid (filt_len f)
    clear hs hf hF
    obtain ⟨o1, c1, o2, c2, o3, c3⟩ := p
    obtain ⟨nT, tn, tp, nO, on, nC, cn, cw, cm⟩ := S
    unfold sylC at HT P0 ⊢
    try unfold sylC at HRR
    dsimp only at HT HB P0 hn HRR HFI ⊢
    obtain ⟨i0, hi0, hz0, hz1, hz2⟩ := info_parts int_info
    go_enter Try.func25, Try.ntmps25
    go_wp2_with (go_at_call 14; refine (HT.out _ HB.out).mono ?_; rintro e w7 ⟨rfl, hb⟩; have HF := Lib.hid (bTr HB.out hb); have PX := Lib.hid (P0.out.later hb); have z0 : w7.cell? ⟨w.heap.size, 0, none⟩ = some (.slice o1 nT c1) := PX.out.cell 0; clear hb)
    go_loopw [3, 4] (fun v i wr => CollAt f nT w7 v i wr) (fun _ i _ => nT - (intOf i).toNat)
    case atStart => exact CollAt.start f nT w7
    case round =>
      obtain ⟨i, rfl, hi, HO, HBR⟩ := hrel
      have PR := Lib.hid (PX.out.later HBR.out)
      have y0 : wr.cell? ⟨w.heap.size, 0, none⟩ = some (.slice o1 nT c1) := PR.out.cell 0
      have y1 : wr.cell? ⟨w.heap.size, 1, none⟩ = some (.slice o2 nO c2) := PR.out.cell 1
      have y2 : wr.cell? ⟨w.heap.size, 2, none⟩ = some (.slice o3 nC c3) := PR.out.cell 2
      by_cases hin : i < nT
      · have hin' : (i : Int) < (nT : Int) := by omega
        have hi0' : (0 : Int) ≤ (i : Int) := by omega
        have hsz := HBR.out.size
        have HCC := Lib.hid (HRR.out wr (bTr HF.out HBR.out) i hin)
        have HQ := Lib.hid (HFI.out i hin)
        generalize underL tp nT i = l at HCC HQ
        cases hfi : f i
        · have hl1 : ((l.length : Int) == 1) = false := by have := HQ.out; rw [hfi] at this; rw [beq_eq_false_iff_ne]; have := of_decide_eq_false this.symm; omega
          clear HRR
          go_wp2_with (go_at_call 19; refine HCC.out.mono ?_; rintro e w5 ⟨v5, rfl, hv5, hb5⟩; obtain ⟨o5, c5, rfl, _, _, _⟩ := hv5.row; have HW5 := Lib.hid hb5; clear hb5 hv5)
          go_roundw
          case rel => exact CollAt.no hfi hin HO.out HBR.out HW5.out
          case measure => simp [intOf]; omega
        · have hl1 : ((l.length : Int) == 1) = true := by have := HQ.out; rw [hfi] at this; rw [beq_iff_eq]; have := of_decide_eq_true this.symm; omega
          clear HRR
          go_wp2_with (first | (go_at_call 19; refine HCC.out.mono ?_; rintro e w5 ⟨v5, rfl, hv5, hb5⟩; obtain ⟨o5, c5, rfl, _, _, _⟩ := hv5.row; have HW5 := Lib.hid hb5; clear hb5 hv5) | (at_builtin; refine wpList_append_own_at _ rfl (.tmp 20) (.tmp 22) 22 rfl w7.heap.size 3 i0 (.int .i64 0) 1 8 Try.underlying22 hi0 hz0 hz1 hz2 rfl (by decide) _ _ _ rfl ((own_later HO.out HW5.out).alloc _) ⟨w5.heap.size, 0, none⟩ 1 1 [iv i] rfl rfl ?c1 ?c2 ?c3 ?c4 ?c5 ?_; (case c1 => exact cell_one_new _ _ _); (case c2 => intro u hu; simp at hu; subst hu; rfl); (case c3 => have := HLN.out i; unfold maxLen; omega); (case c4 => have := HLN.out i; omega); (case c5 => have := HW5.out.size; simp; omega); intro v' w3 hown3 hgrow hnil hat; have H3 := Lib.hid (And.intro hown3 hgrow); clear hown3 hgrow hnil hat))
          go_roundw
          case rel => exact CollAt.yes hfi hin HO.out HBR.out HW5.out H3.out.2 H3.out.1
          case measure => simp [intOf]; omega
      · obtain rfl : i = nT := by omega
        have HO2 := HO
        have HFIN := Lib.hid (bTr HF.out HBR.out)
        have HSZ := Lib.hid HF.out.size
        obtain ⟨o8, c8, hv8⟩ := own_any HO.out
        have HV8 := Lib.hid hv8
        clear hv8
        go_wp2_with fail
        exact bodyPost_ret (by simp [results, Try.results25, go_sem]) rfl ⟨_, rfl, ⟨_, HO2.out, HSZ.out⟩, HFIN.out⟩
  · have HL := Lib.hid (show S.lvs = [] by unfold Syl.lvs; rw [if_neg hh])
    have hx' : (S.chk != 0) = true := by rw [bne_iff_ne]; exact hh
    generalize S.chk = x at HT hx'
    rw [HL.out]
    clear HL hh hs
    obtain ⟨o1, c1, o2, c2, o3, c3⟩ := p
    obtain ⟨nT, tn, tp, nO, on, nC, cn, cw, cm⟩ := S
    unfold sylC at HT P0 ⊢
    dsimp only at HT HB P0 ⊢
    go_enter Try.func25, Try.ntmps25
    go_wp2_with (go_at_call 14; refine (HT.out _ HB.out).mono ?_; rintro e w7 ⟨rfl, hb⟩; have HF := Lib.hid (bTr HB.out hb); clear hb)
    go_ret
    exact ⟨_, rfl, NatV.nil _ _, HF.out⟩
end Go.Proofs.Ytglikjdgjmijfaa
