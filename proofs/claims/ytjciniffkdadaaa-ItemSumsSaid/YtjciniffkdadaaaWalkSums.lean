/-
  The walk of the statement on the total of an item and of its paper.
-/
import Derived.Test.YtjciniffkdadaaaIKit
import Derived.Test.YtjciniffkdadaaaIDraw
import Derived.Test.YtjciniffkdadaaaIPap3
namespace Go.Proofs.Ytjciniffkdadaaa
open Go.RowKit
set_option linter.unusedSimpArgs false
set_option linter.unusedVariables false

theorem natAt_old (l : List Nat) (x : Nat) {k : Nat} (h : k < l.length) : natAt (l ++ [x]) k = natAt l k := by
  unfold natAt
  rw [List.getD_eq_getElem?_getD, List.getD_eq_getElem?_getD, List.getElem?_append_left h]
theorem natAt_new (l : List Nat) (x : Nat) : natAt (l ++ [x]) l.length = x := by
  unfold natAt
  rw [List.getD_eq_getElem?_getD, List.getElem?_append_right (Nat.le_refl _)]
  simp
theorem filt_at {f : Nat → Bool} {i : Nat} (hf : f i = true) : ∀ {n : Nat}, i < n → natAt ((List.range n).filter f) ((List.range i).filter f).length = i ∧ ((List.range i).filter f).length < ((List.range n).filter f).length
  | 0, h => absurd h (Nat.not_lt_zero _)
  | n + 1, h => by
    rcases Nat.lt_succ_iff_lt_or_eq.1 h with h1 | h1
    · obtain ⟨ih1, ih2⟩ := filt_at hf h1
      cases hn : f n
      · rw [filt_no hn]; exact ⟨ih1, ih2⟩
      · rw [filt_yes hn]
        exact ⟨(natAt_old _ _ ih2).trans ih1, by rw [List.length_append]; omega⟩
    · subst h1
      rw [filt_yes hf]
      exact ⟨natAt_new _ _, by rw [List.length_append]; show _ < _ + 1; omega⟩
theorem sums_math {x : Itm} (h : x.chk = 0) (h3 : x.nP ≤ 3) : (⟨0, 0, x.nP, x.P⟩ : Ppr).chs = (List.range x.nP).filter (chB x.P) ∧ x.tot = sumM x.P x.nP ∧ (⟨0, 0, x.nP, x.P⟩ : Ppr).tot = sumM x.P x.nP ∧ 0 < sumM x.P x.nP := by
  obtain ⟨_, _, _, hn, ha, _⟩ := Itm.ok h
  have hb := sumM_bd ha
  have hok : (⟨0, 0, x.nP, x.P⟩ : Ppr).okB = true := by
    unfold Ppr.okB
    rw [decide_eq_true (show (⟨0, 0, x.nP, x.P⟩ : Ppr).ok from by unfold Ppr.ok; dsimp only; omega)]
    show (true && allOk x.P x.nP && decide (sumM x.P x.nP ≤ 200)) = true
    rw [ha, decide_eq_true (by omega)]
    rfl
  exact ⟨if_pos hok, if_pos h, if_pos hok, by omega⟩
set_option maxRecDepth 100000 in
set_option maxHeartbeats 4000000 in
theorem walkItemSums (o : Option Addr) (n c : Nat) (zs : List Int) (w : World) (h0 : IsRow .i64 w o n c zs) :
    Calls Try.prog 10 #[.slice o n c] w fun e w' => e = .returned (.bool true) ∧ Below w.heap.size w w' := by
  obtain ⟨hr, h1, h2, h3⟩ := row_of h0
  go_enter Try.func10, Try.ntmps10
  go_wp2_with fail
  refine (tape_new hr h1 h2 h3).mono ?_
  rintro e w1 ⟨g, n9, rfl, ht1, hb1, hg⟩
  have T1 := Lib.hid ht1
  have HB1 := Lib.hid hb1
  have HG := Lib.hid hg
  clear ht1 hb1 hg hr h1 h2 h3
  go_wp2_with fail
  refine (item_any 0 1 1 (by omega) (by omega) (by omega) (by omega) T1.out).mono ?_
  rintro e w4 ⟨p, x, rfl, hS, _, ht4, hg4, _, _, _, hx0⟩
  obtain ⟨hchk, hx1, hx2, hx3⟩ := hx0 rfl
  clear hx1 hx2
  have HMA := Lib.hid (sums_math hchk hx3)
  have HB2 := Lib.hid (HB1.out.trans (bGr hg4 HG.out HB1.out.size))
  have hb3 := bAl (Below.refl _ w4) (.cells (itmC p x) 33)
  have hb4 := bAl hb3 (.cells (pprC p.o1 p.c1 ⟨0, 0, x.nP, x.P⟩) 46)
  have P3 := Lib.hid ((Blk.new w4 33 (itmC p x)).alloc (.cells (pprC p.o1 p.c1 ⟨0, 0, x.nP, x.P⟩) 46))
  have P4 : Hid (Blk ((w4.alloc (.cells (itmC p x) 33)).alloc (.cells (pprC p.o1 p.c1 ⟨0, 0, x.nP, x.P⟩) 46)) (w4.heap.size + 1) 46 (pprC p.o1 p.c1 ⟨0, 0, x.nP, x.P⟩)) := Lib.hid (Blk.newAt (by simp))
  have HS3 := Lib.hid (hS.later hb4)
  have HB3 := Lib.hid (bTr HB2.out hb4)
  clear HB1 T1 HG hS ht4 hg4 hb3 hb4 HB2 hx0 hchk
  have HCH := Lib.hid (fun W (hX : ItmIn W W.heap.size p x) => choices_any p.o1 p.c1 ⟨0, 0, x.nP, x.P⟩ W hX.t)
  have HT := Lib.hid (fun W (hX : ItmIn W W.heap.size p x) => itotal_any p x W hX)
  have HU := Lib.hid (fun W (hX : ItmIn W W.heap.size p x) => ptotal_any p.o1 p.c1 ⟨0, 0, x.nP, x.P⟩ W hX.t)
  rw [HMA.out.1] at HCH
  rw [HMA.out.2.1] at HT
  rw [HMA.out.2.2.1] at HU
  have hpos := HMA.out.2.2.2
  clear HMA
  generalize sumM x.P x.nP = s at HT HU hpos
  unfold itmC pprC at P3 P4 HS3 HB3
  unfold itmC at HT ⊢
  unfold pprC at HCH HU
  dsimp only at P3 P4 HS3 HB3 HCH HU
  go_wp2_with fail
  generalize (w4.alloc _).alloc _ = w5 at P3 P4 HS3 HB3 ⊢
  refine (HCH.out w5 HS3.out).mono ?_
  rintro e w6 ⟨v6, rfl, hv6, hb6⟩
  obtain ⟨o6, c6, rfl, _, _, hrow6⟩ := hv6.row
  have HR6 := Lib.hid hrow6
  have HB6 := Lib.hid (bTr HB3.out hb6)
  have HS6 := Lib.hid (HS3.out.later hb6)
  have P36 := Lib.hid (P3.out.later hb6)
  have P46 := Lib.hid (P4.out.later hb6)
  clear hv6 hrow6 hb6 HS3 HB3 P3 P4 HCH
  obtain ⟨f, hf⟩ : ∃ f : Nat → Bool, f = chB x.P := ⟨_, rfl⟩
  rw [← hf] at HR6 ⊢
  have HF := Lib.hid (fun i => (congrFun hf i : f i = decide ((x.P i).kd = 2)))
  have HAT := Lib.hid (fun i (h : f i = true) (hi : i < x.nP) => filt_at (f := f) h hi)
  clear hf
  obtain ⟨m, hm⟩ : ∃ m, ((List.range x.nP).filter f).length = m := ⟨_, rfl⟩
  rw [hm] at HR6 ⊢
  have HM := Lib.hid hm
  have hml : m ≤ 100 := by have := filt_len f x.nP; omega
  clear hm
  have z3 := P36.out.cell 3
  go_wp2_with fail
  go_loopw [6, 7] (fun v i wr => ∃ k : Nat, i = .int .i64 k ∧ k ≤ x.nP ∧ v = .int .i64 (((List.range k).filter f).length : Int) ∧ wr = w6) (fun _ i _ => x.nP - (intOf i).toNat)
  case atStart => exact ⟨0, rfl, Nat.zero_le _, rfl, rfl⟩
  case round =>
    obtain ⟨k, rfl, hk, rfl, rfl⟩ := hrel
    by_cases hkn : k < x.nP
    · have hkn' : (k : Int) < (x.nP : Int) := by omega
      obtain ⟨b, off, ho1, hbB, h10, h11, h12, h13, h14, h15⟩ := HS6.out.t k hkn
      have HO1 := Lib.hid ho1
      rw [ho1] at z3 ⊢
      clear ho1
      have HQ : Hid (f k = decide ((x.P k).kd = 2)) := Lib.hid (HF.out k)
      generalize x.P k = q at h10 h11 h12 h13 h14 h15 HQ
      by_cases hq : q.kd = 2
      · have hk' : (q.kd == 2) = true := by rw [hq]; rfl
        have hfi : f k = true := by rw [HQ.out, decide_eq_true hq]
        obtain ⟨ha1, ha2⟩ := HAT.out k hfi hkn
        rw [HM.out] at ha2
        have HY := Lib.hid (show (((List.range (k + 1)).filter f).length : Int) = (((List.range k).filter f).length : Int) + 1 by rw [filt_yes hfi, List.length_append]; rfl)
        clear hq HQ hfi
        generalize ((List.range k).filter f).length = j at ha1 ha2 HY ⊢
        obtain ⟨b6, off6, ho6, hb6B, hc6⟩ := HR6.out j ha2
        rw [ha1] at hc6
        clear ha1
        subst ho6
        have g1 : ¬ (m : Int) ≤ (j : Int) := by omega
        have g2 : (j : Int) < (m : Int) := by omega
        have g3 : (0 : Int) ≤ (j : Int) := by omega
        have hjj : ((k : Int) != (k : Int)) = false := by simp
        have hwr : IntKind.i64.wrap ((j : Int) + 1) = (j : Int) + 1 := by rw [IntKind.wrap_i64]; omega
        go_wp2_with fail
        go_roundw
        case rel => exact ⟨k + 1, by go_num, by omega, by rw [HY.out], trivial⟩
        case measure => simp [intOf]; omega
      · have hk' : (q.kd == 2) = false := by rw [beq_eq_false_iff_ne]; exact hq
        have hfi : f k = false := by rw [HQ.out, decide_eq_false hq]
        have HY := Lib.hid (show (((List.range (k + 1)).filter f).length : Int) = (((List.range k).filter f).length : Int) by rw [filt_no hfi])
        clear hq HQ hfi
        go_wp2_with fail
        go_roundw
        case rel => exact ⟨k + 1, by go_num, by omega, by rw [HY.out], trivial⟩
        case measure => simp [intOf]; omega
    · obtain rfl : k = x.nP := by omega
      rw [HM.out]
      go_wp2_with fail
      have q0 : ∀ q : BelowOf wr, q.to.cell? ⟨w4.heap.size, 0, none⟩ = some (.int .i64 x.id) := bq_cell P36.out.lt (P36.out.cell 0)
      have q1 : ∀ q : BelowOf wr, q.to.cell? ⟨w4.heap.size, 1, none⟩ = some (.int .i64 x.ver) := bq_cell P36.out.lt (P36.out.cell 1)
      have q2 : ∀ q : BelowOf wr, q.to.cell? ⟨w4.heap.size, 2, none⟩ = some (.string x.st) := bq_cell P36.out.lt (P36.out.cell 2)
      have q3 : ∀ q : BelowOf wr, q.to.cell? ⟨w4.heap.size, 3, none⟩ = some (.slice p.o1 x.nP p.c1) := bq_cell P36.out.lt (P36.out.cell 3)
      have q4 : ∀ q : BelowOf wr, q.to.cell? ⟨w4.heap.size, 4, none⟩ = some (.slice p.o2 x.nE p.c2) := bq_cell P36.out.lt (P36.out.cell 4)
      have q5 : ∀ q : BelowOf wr, q.to.cell? ⟨w4.heap.size + 1, 0, none⟩ = some (.int .i64 0) := bq_cell P46.out.lt (P46.out.cell 0)
      have q6 : ∀ q : BelowOf wr, q.to.cell? ⟨w4.heap.size + 1, 1, none⟩ = some (.int .i64 0) := bq_cell P46.out.lt (P46.out.cell 1)
      have q7 : ∀ q : BelowOf wr, q.to.cell? ⟨w4.heap.size + 1, 2, none⟩ = some (.slice p.o1 x.nP p.c1) := bq_cell P46.out.lt (P46.out.cell 2)
      have HT' := Lib.hid (fun q : BelowOf wr => HT.out q.to (HS6.out.later q.h))
      have HU' := Lib.hid (fun q : BelowOf wr => HU.out q.to (HS6.out.later q.h))
      have hss : (s == s) = true := by simp
      have hmm : ((m : Int) == (m : Int)) = true := by simp
      refine wp_region_below (by kernel_rfl) (by kernel_rfl) ?_
      repeat (go_big_quiet_step ((first | (go_at_call 21; exact bq_call (HT'.out _)) | (go_at_call 32; exact bq_call (HU'.out _)) | (go_at_call 14; exact bq_call (awake_any _)))))
      refine wpQuiet_nil ?_
      intro w8 hw'
      have HX := Lib.hid (show Below wr.heap.size wr w8 by obtain ⟨pw, h⟩ := hw'; exact h ▸ pw.h)
      clear hw' q0 q1 q2 q3 q4 q5 q6 q7
      go_wp2_with fail
      exact bodyPost_ret (v := .bool true) (by simp [results, Try.results10, go_sem]) rfl ⟨rfl, bTr HB6.out HX.out⟩
end Go.Proofs.Ytjciniffkdadaaa
