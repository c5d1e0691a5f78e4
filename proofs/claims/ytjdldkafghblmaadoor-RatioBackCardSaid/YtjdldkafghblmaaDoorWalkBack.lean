/-
  The walk of the statement on Format and Parse.
-/
import Derived.Test.YtjdldkafghblmaaDoorBkG
import Derived.Test.YtjdldkafghblmaaDoorBkM
namespace Go.Proofs.YtjdldkafghblmaaDoor
open Go.RowKit Go.Lib
set_option linter.unusedSimpArgs false
set_option linter.unusedVariables false

theorem fmtT_yes {N D : Int} (h : Frac.valid N D = true) : let s : ByteArray := ⟨(fmtT N D).toArray⟩; s.size ≤ 1000 ∧ parN s = N ∧ parD s = D ∧ parE s = 0 := by
  have e : fmtT N D = fmtL N D := by unfold fmtT; rw [if_pos h]; rfl
  rw [e]
  exact ⟨by rw [text_size]; exact fmt_size h, par_back h⟩
theorem fmtT_no {N D : Int} (h : Frac.valid N D = false) : let s : ByteArray := ⟨(fmtT N D).toArray⟩; s.size ≤ 1000 ∧ parN s = 0 ∧ parD s = 0 ∧ parE s = 7 := by
  have e : fmtT N D = [] := by unfold fmtT; rw [h]; rfl
  rw [e]
  exact ⟨by decide, par_empty.2.1, par_empty.2.2, par_empty.1⟩

set_option maxRecDepth 100000 in
set_option maxHeartbeats 8000000 in
theorem walkRatioBack (o : Option Addr) (n c : Nat) (zs : List Int) (w : World) (h : IsRow .i64 w o n c zs) (HT : Tab w) :
    Calls Tryd.prog 3 #[.slice o n c] w fun e w' => e = .returned (.bool true) ∧ Below w.heap.size w w' := by
  obtain ⟨hr, h1, h2, h3⟩ := row_of h
  clear h
  go_enter Tryd.func3, Tryd.ntmps3
  go_wp2_with fail
  refine (tape_new hr h1 h2 h3).mono ?_
  rintro e w1 ⟨g, n', rfl, ht, hb1, hg⟩
  clear hr h1 h2 h3
  go_wp2_with fail
  refine (tape_loose ht).mono ?_
  rintro e w2 ⟨N, D, ⟨hN, hD⟩, rfl, ht2, hg2⟩
  have HB2 := Lib.hid (hb1.trans (bGr hg2 hg hb1.size))
  have HT2 := Lib.hid (tab_later HT HB2.out (Nat.le_refl _))
  clear ht ht2 hg2 hb1 hg HT
  have H3 := Lib.hid ((Held.nil w2).add N D)
  have B3 := Lib.hid (bAl (Below.refl w2.heap.size w2) (.cells #[.int .i64 N, .int .i64 D] 24))
  have HT3 := Lib.hid (Tab.later HT2.out B3.out)
  have HF := Lib.hid (fun w (hw : Tab w) => format_any N D hN hD hw)
  have HG := Lib.hid (fun w => rformat_any N D hN hD w)
  have HV := Lib.hid (fun w => r_valid N D hN.1 hN.2 hD.1 hD.2 w)
  have heq : ∀ p q W, (binOp .eql 24 (.agg #[.int .i64 p, .int .i64 q]) (.agg #[.int .i64 p, .int .i64 q])).run Tryd.prog W = .ok (.bool true) W := fun p q W => by rw [eqlR, decide_eq_true rfl]
  by_cases hv : Frac.valid N D = true
  · obtain ⟨hs, p1, p2, p3⟩ := fmtT_yes hv
    rw [hv] at HV
    clear hv hN hD
    generalize (⟨(fmtT N D).toArray⟩ : ByteArray) = s at *
    have HP := Lib.hid (fun w => parse_any s hs w)
    simp only [p1, p2, p3] at HP
    clear p1 p2 p3 hs
    go_wp2_with fail
    refine (HF.out _ HT3.out).mono ?_
    rintro e w4 ⟨rfl, hb⟩
    have H4 := Lib.hid (H3.out.later hb)
    have B4 := Lib.hid (bTr B3.out hb)
    clear hb H3 B3 HT3 HF
    obtain ⟨⟨c0, c1⟩, -, hlt⟩ := H4.out.at_ (g := w2.heap.size) (p := N) (q := D) (by simp)
    go_wp2_with fail
    refine (HG.out _).mono ?_
    rintro e w5 ⟨rfl, hb⟩
    have H5 := Lib.hid (H4.out.later hb)
    have B5 := Lib.hid (bTr B4.out hb)
    clear hb H4 B4 HG c0 c1 hlt
    go_wp2_with fail
    refine (HP.out _).mono ?_
    rintro e w6 ⟨rfl, hb⟩
    have H6 := Lib.hid ((H5.out.later hb).add N D)
    have B6 := Lib.hid (bAl (bTr B5.out hb) (.cells #[.int .i64 N, .int .i64 D] 24))
    clear hb H5 B5 HP
    obtain ⟨⟨c0, c1⟩, -, hlt⟩ := H6.out.at_ (g := w2.heap.size) (p := N) (q := D) (by simp)
    go_wp2_with fail
    refine (HV.out _).mono ?_
    rintro e w7 ⟨rfl, hb⟩
    have H7 := Lib.hid (H6.out.later hb)
    have B7 := Lib.hid (bTr B6.out hb)
    clear hb H6 B6 HV c0 c1 hlt
    obtain ⟨⟨c0, c1⟩, -, hlt⟩ := H7.out.at_ (g := w2.heap.size) (p := N) (q := D) (by simp)
    obtain ⟨⟨d0, d1⟩, -, hlt2⟩ := H7.out.at_ (g := w6.heap.size) (p := N) (q := D) (by simp)
    go_wp2_with fail
    refine (awake_any _).mono ?_
    rintro e w8 ⟨rfl, hb⟩
    have BF := Lib.hid (HB2.out.trans ((bTr B7.out hb).mono HB2.out.size))
    clear hb
    go_wp2
    go_ret
    exact ⟨rfl, BF.out⟩
  · have hv' : Frac.valid N D = false := by simpa using hv
    obtain ⟨hs, p1, p2, p3⟩ := fmtT_no hv'
    rw [hv'] at HV
    clear hv hv' hN hD
    generalize (⟨(fmtT N D).toArray⟩ : ByteArray) = s at *
    have HP := Lib.hid (fun w => parse_any s hs w)
    simp only [p1, p2, p3] at HP
    clear p1 p2 p3 hs
    go_wp2_with fail
    refine (HF.out _ HT3.out).mono ?_
    rintro e w4 ⟨rfl, hb⟩
    have H4 := Lib.hid (H3.out.later hb)
    have B4 := Lib.hid (bTr B3.out hb)
    clear hb H3 B3 HT3 HF
    obtain ⟨⟨c0, c1⟩, -, hlt⟩ := H4.out.at_ (g := w2.heap.size) (p := N) (q := D) (by simp)
    go_wp2_with fail
    refine (HG.out _).mono ?_
    rintro e w5 ⟨rfl, hb⟩
    have H5 := Lib.hid (H4.out.later hb)
    have B5 := Lib.hid (bTr B4.out hb)
    clear hb H4 B4 HG c0 c1 hlt
    go_wp2_with fail
    refine (HP.out _).mono ?_
    rintro e w6 ⟨rfl, hb⟩
    have H6 := Lib.hid ((H5.out.later hb).add 0 0)
    have B6 := Lib.hid (bAl (bTr B5.out hb) (.cells #[.int .i64 0, .int .i64 0] 24))
    clear hb H5 B5 HP
    obtain ⟨⟨c0, c1⟩, -, hlt⟩ := H6.out.at_ (g := w2.heap.size) (p := N) (q := D) (by simp)
    go_wp2_with fail
    refine (HV.out _).mono ?_
    rintro e w7 ⟨rfl, hb⟩
    have B7 := Lib.hid (bTr B6.out hb)
    clear hb H6 B6 HV c0 c1 hlt
    go_wp2_with fail
    refine (awake_any _).mono ?_
    rintro e w8 ⟨rfl, hb⟩
    have BF := Lib.hid (HB2.out.trans ((bTr B7.out hb).mono HB2.out.size))
    clear hb
    go_wp2
    go_ret
    exact ⟨rfl, BF.out⟩
end Go.Proofs.YtjdldkafghblmaaDoor
