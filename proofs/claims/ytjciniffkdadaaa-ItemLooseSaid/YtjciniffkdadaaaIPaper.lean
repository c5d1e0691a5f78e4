/-
  ValidPaper and PaperTotal of package item.
-/
import Derived.Test.YtjciniffkdadaaaICheck
namespace Go.Proofs.Ytjciniffkdadaaa
open Go.RowKit
set_option linter.unusedSimpArgs false
set_option linter.unusedVariables false

def pprC (o : Option Addr) (c : Nat) (x : Ppr) : Array Value := #[.int .i64 x.code, .int .i64 x.var, .slice o x.nP c]
set_option maxRecDepth 100000 in
set_option maxHeartbeats 8000000 in
theorem vpaper_any (o : Option Addr) (c : Nat) (x : Ppr) (w : World) (hs : RowP w w.heap.size o x.nP x.P) :
    Calls Try.prog 30 #[.agg (pprC o c x)] w fun e w' => e = .returned (.bool x.okB) ∧ Below w.heap.size w w' := by
  have HB := Lib.hid (bAl (Below.refl _ w) (.cells (pprC o c x) 46))
  have P0 : Hid (Blk (w.alloc (.cells (pprC o c x) 46)) w.heap.size 46 (pprC o c x)) := Lib.hid (Blk.newAt rfl)
  have HV := Lib.hid (fun W (hb : Below w.heap.size w W) (hn : x.nP ≤ 24) => allValid_any o x.nP c x.P W (hs.later hb) (by omega))
  have HM := Lib.hid (fun W (hb : Below w.heap.size w W) (hn : x.nP ≤ 24) (ha : allOk x.P x.nP = true) => marks_any o x.nP c x.P W (hs.later hb) (by omega) ha)
  clear hs
  have HE := Lib.hid (show x.okB = (decide x.ok && allOk x.P x.nP && decide (sumM x.P x.nP ≤ 200)) from rfl)
  have HO := Lib.hid (show x.ok ↔ (0 ≤ x.code ∧ x.code ≤ 31 ∧ 0 ≤ x.var ∧ x.var ≤ 3 ∧ 1 ≤ x.nP ∧ x.nP ≤ 24) from Iff.rfl)
  have HNO := Lib.hid (fun h : ¬ (0 ≤ x.code ∧ x.code ≤ 31 ∧ 0 ≤ x.var ∧ x.var ≤ 3 ∧ 1 ≤ x.nP ∧ x.nP ≤ 24) => (show x.okB = false by rw [HE.out, decide_eq_false (fun hc => h (HO.out.1 hc))]; rfl))
  have HYES := Lib.hid (fun h : (0 ≤ x.code ∧ x.code ≤ 31 ∧ 0 ≤ x.var ∧ x.var ≤ 3 ∧ 1 ≤ x.nP ∧ x.nP ≤ 24) => (show x.okB = (allOk x.P x.nP && decide (sumM x.P x.nP ≤ 200)) by rw [HE.out, decide_eq_true (HO.out.2 h)]; rfl))
  clear HE HO
  generalize x.okB = z at HNO HYES ⊢
  unfold pprC at HB P0 ⊢
  obtain ⟨code, var, nP, P⟩ := x
  dsimp only at HB P0 HV HM HNO HYES ⊢
  by_cases h1 : 0 ≤ code ∧ code ≤ 31
  · have H1 := Lib.hid (within_yes h1)
    by_cases h2 : 0 ≤ var ∧ var ≤ 3
    · have H2 := Lib.hid (within_yes h2)
      by_cases h3 : (1 : Int) ≤ (nP : Int) ∧ (nP : Int) ≤ 24
      · have H3 := Lib.hid (within_yes h3)
        have HZ := Lib.hid (HYES.out (by omega))
        have HV' := Lib.hid (fun W hb => HV.out W hb (by omega))
        have HM' := Lib.hid (fun W hb ha => HM.out W hb (by omega) ha)
        clear h1 h2 h3 HYES HNO HV HM
        cases hok : allOk P nP
        · rw [hok] at HZ HV'
          clear hok HM'
          go_enter Try.func30, Try.ntmps30
          go_wp2_with (first | (go_at_call 36; first | (refine (H1.out _).mono ?_; rintro e w' ⟨rfl, hw'⟩; obtain rfl := hw'.symm; clear H1) | (refine (H2.out _).mono ?_; rintro e w' ⟨rfl, hw'⟩; obtain rfl := hw'.symm; clear H2) | (refine (H3.out _).mono ?_; rintro e w' ⟨rfl, hw'⟩; obtain rfl := hw'.symm; clear H3)) | (go_at_call 44; refine (HV'.out _ HB.out).mono ?_; rintro e w5 ⟨rfl, hb⟩; have HB5 := Lib.hid (bTr HB.out hb); clear hb))
          go_ret
          exact ⟨retB HZ.out.symm, HB5.out⟩
        · have HM2 := Lib.hid (fun W hb => HM'.out W hb hok)
          rw [hok] at HZ HV'
          clear hok HM'
          generalize sumM P nP = s at HZ HM2
          go_enter Try.func30, Try.ntmps30
          go_wp2_with (first | (go_at_call 36; first | (refine (H1.out _).mono ?_; rintro e w' ⟨rfl, hw'⟩; obtain rfl := hw'.symm; clear H1) | (refine (H2.out _).mono ?_; rintro e w' ⟨rfl, hw'⟩; obtain rfl := hw'.symm; clear H2) | (refine (H3.out _).mono ?_; rintro e w' ⟨rfl, hw'⟩; obtain rfl := hw'.symm; clear H3)) | (go_at_call 44; refine (HV'.out _ HB.out).mono ?_; rintro e w5 ⟨rfl, hb⟩; have HB5 := Lib.hid (bTr HB.out hb); have P5 := Lib.hid (P0.out.later hb); have z2 := P5.out.cell 2; clear hb) | (go_at_call 46; refine (HM2.out _ HB5.out).mono ?_; rintro e w6 ⟨rfl, hb⟩; have HB6 := Lib.hid (bTr HB5.out hb); clear hb))
          go_ret
          exact ⟨retB (by rw [HZ.out]; simp), HB6.out⟩
      · have H3 := Lib.hid (within_no h3)
        have HZ := Lib.hid (HNO.out (by omega))
        clear h1 h2 h3 HYES HNO HV HM
        go_enter Try.func30, Try.ntmps30
        go_wp2_with (first | (go_at_call 36; first | (refine (H1.out _).mono ?_; rintro e w' ⟨rfl, hw'⟩; obtain rfl := hw'.symm; clear H1) | (refine (H2.out _).mono ?_; rintro e w' ⟨rfl, hw'⟩; obtain rfl := hw'.symm; clear H2) | (refine (H3.out _).mono ?_; rintro e w' ⟨rfl, hw'⟩; obtain rfl := hw'.symm; clear H3)))
        go_ret
        exact ⟨retB HZ.out.symm, HB.out⟩
    · have H2 := Lib.hid (within_no h2)
      have HZ := Lib.hid (HNO.out (by omega))
      clear h1 h2 HYES HNO HV HM
      go_enter Try.func30, Try.ntmps30
      go_wp2_with (first | (go_at_call 36; first | (refine (H1.out _).mono ?_; rintro e w' ⟨rfl, hw'⟩; obtain rfl := hw'.symm; clear H1) | (refine (H2.out _).mono ?_; rintro e w' ⟨rfl, hw'⟩; obtain rfl := hw'.symm; clear H2)))
      go_ret
      exact ⟨retB HZ.out.symm, HB.out⟩
  · have H1 := Lib.hid (within_no h1)
    have HZ := Lib.hid (HNO.out (by omega))
    clear h1 HYES HNO HV HM
    go_enter Try.func30, Try.ntmps30
    go_wp2_with (first | (go_at_call 36; (refine (H1.out _).mono ?_; rintro e w' ⟨rfl, hw'⟩; obtain rfl := hw'.symm; clear H1)))
    go_ret
    exact ⟨retB HZ.out.symm, HB.out⟩
set_option maxHeartbeats 4000000 in
theorem ptotal_any (o : Option Addr) (c : Nat) (x : Ppr) (w : World) (hs : RowP w w.heap.size o x.nP x.P) :
    Calls Try.prog 32 #[.agg (pprC o c x)] w fun e w' => e = .returned (.int .i64 x.tot) ∧ Below w.heap.size w w' := by
  have HC := Lib.hid (fun W (hb : Below w.heap.size w W) => vpaper_any o c x W (hs.later hb))
  have HM := Lib.hid (fun W (hb : Below w.heap.size w W) (hx : x.okB = true) => marks_any o x.nP c x.P W (hs.later hb) (by have := (Ppr.of_ok hx).1; unfold Ppr.ok at this; omega) (Ppr.of_ok hx).2.1)
  have HB := Lib.hid (bAl (Below.refl _ w) (.cells (pprC o c x) 46))
  have P0 : Hid (Blk (w.alloc (.cells (pprC o c x) 46)) w.heap.size 46 (pprC o c x)) := Lib.hid (Blk.newAt rfl)
  clear hs
  have HT := Lib.hid (show x.tot = if x.okB = true then sumM x.P x.nP else 0 from rfl)
  unfold pprC at HB P0 HC ⊢
  cases hz : x.okB
  · rw [hz, if_neg (by decide)] at HT
    rw [hz] at HC
    clear HM hz
    go_enter Try.func32, Try.ntmps32
    go_wp2_with (first | (go_at_call 30; refine (HC.out _ HB.out).mono ?_; rintro e w5 ⟨rfl, hb⟩; have HB5 := Lib.hid (bTr HB.out hb); clear hb))
    go_ret
    exact ⟨ret_int HT.out.symm, HB5.out⟩
  · rw [hz, if_pos rfl] at HT
    have HM' := Lib.hid (fun W hb => HM.out W hb hz)
    rw [hz] at HC
    clear HM hz
    go_enter Try.func32, Try.ntmps32
    go_wp2_with (first | (go_at_call 30; refine (HC.out _ HB.out).mono ?_; rintro e w5 ⟨rfl, hb⟩; have HB5 := Lib.hid (bTr HB.out hb); have P5 := Lib.hid (P0.out.later hb); clear hb; have z3 := P5.out.cell 2) | (go_at_call 46; refine (HM'.out _ HB5.out).mono ?_; rintro e w6 ⟨rfl, hb⟩; have HB6 := Lib.hid (bTr HB5.out hb); clear hb))
    go_ret
    exact ⟨ret_int HT.out.symm, HB6.out⟩
end Go.Proofs.Ytjciniffkdadaaa
