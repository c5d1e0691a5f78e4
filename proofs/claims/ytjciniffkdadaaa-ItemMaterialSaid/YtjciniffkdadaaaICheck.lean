/-
  Check and Total of package item.
-/
import Derived.Test.YtjciniffkdadaaaIList
namespace Go.Proofs.Ytjciniffkdadaaa
open Go.RowKit
set_option linter.unusedSimpArgs false
set_option linter.unusedVariables false

theorem Itm.chk_rng {x : Itm} (h : ¬ x.rng) : x.chk = 2 := if_pos h
theorem Itm.chk_lim {x : Itm} (h1 : x.rng) (h : ¬ x.lim) : x.chk = 3 := by unfold Itm.chk; rw [if_neg (fun hc => hc h1), if_pos h]
theorem Itm.chk_stem {x : Itm} (h1 : x.rng) (h2 : x.lim) (h : stemB x.st = false) : x.chk = 7 := by unfold Itm.chk; rw [if_neg (fun hc => hc h1), if_neg (fun hc => hc h2), if_pos h]
theorem Itm.chk_none {x : Itm} (h1 : x.rng) (h2 : x.lim) (h3 : stemB x.st = true) (h : x.nP = 0) : x.chk = 10 := by unfold Itm.chk; rw [if_neg (fun hc => hc h1), if_neg (fun hc => hc h2), if_neg (by rw [h3]; decide), if_pos h]
theorem Itm.chk_inv {x : Itm} (h1 : x.rng) (h2 : x.lim) (h3 : stemB x.st = true) (h4 : x.nP ≠ 0) (h : allOk x.P x.nP = false) : x.chk = 1 := by unfold Itm.chk; rw [if_neg (fun hc => hc h1), if_neg (fun hc => hc h2), if_neg (by rw [h3]; decide), if_neg h4, if_pos h]
theorem Itm.chk_con {x : Itm} (h1 : x.rng) (h2 : x.lim) (h3 : stemB x.st = true) (h4 : x.nP ≠ 0) (h5 : allOk x.P x.nP = true) (h : canE x.E x.id x.nE = false) : x.chk = 9 := by unfold Itm.chk; rw [if_neg (fun hc => hc h1), if_neg (fun hc => hc h2), if_neg (by rw [h3]; decide), if_neg h4, if_neg (by rw [h5]; decide), if_pos h]

/-- where an item lies: its two slices -/
structure IPtr where
  o1 : Option Addr
  c1 : Nat
  o2 : Option Addr
  c2 : Nat
def itmC (p : IPtr) (x : Itm) : Array Value := #[.int .i64 x.id, .int .i64 x.ver, .string x.st, .slice p.o1 x.nP p.c1, .slice p.o2 x.nE p.c2]
structure ItmIn (w : World) (B : Nat) (p : IPtr) (x : Itm) : Prop where
  t : RowP w B p.o1 x.nP x.P
  e : RowI w B p.o2 x.nE x.E
  h1 : x.nP ≤ p.c1
  h2 : x.nE ≤ p.c2
theorem ItmIn.below {w w' : World} {B B' : Nat} {p : IPtr} {x : Itm} (h : ItmIn w B p x) (hb : Below B' w w') (hB : B ≤ B') : ItmIn w' B p x :=
  ⟨h.t.below hb hB, h.e.below hb hB, h.h1, h.h2⟩
theorem ItmIn.more {w : World} {B B' : Nat} {p : IPtr} {x : Itm} (h : ItmIn w B p x) (hB : B ≤ B') : ItmIn w B' p x :=
  ⟨h.t.more hB, h.e.more hB, h.h1, h.h2⟩
/-- behind work that leaves what was there -/
theorem ItmIn.later {w w' : World} {p : IPtr} {x : Itm} (h : ItmIn w w.heap.size p x) (hb : Below w.heap.size w w') : ItmIn w' w'.heap.size p x :=
  (h.below hb (Nat.le_refl _)).more hb.size

set_option maxRecDepth 100000 in
set_option maxHeartbeats 8000000 in
theorem icheck_any (p : IPtr) (x : Itm) (w : World) (hs : ItmIn w w.heap.size p x) :
    Calls Try.prog 19 #[.agg (itmC p x)] w fun e w' => e = .returned (.int .i64 x.chk) ∧ Below w.heap.size w w' := by
  have HV := Lib.hid (fun W (hb : Below w.heap.size w W) (hn : x.nP ≤ 6) => allValid_any p.o1 x.nP p.c1 x.P W (hs.later hb).t (by omega))
  have HE := Lib.hid (fun W (hb : Below w.heap.size w W) (hn : x.nE ≤ 8) => canHave_any x.id p.o2 x.nE p.c2 x.E W (hs.later hb).e (by omega))
  have HT := Lib.hid (fun W (hn : x.st.size ≤ 40) => stem_any x.st W (by omega))
  have HB := Lib.hid (bAl (Below.refl _ w) (.cells (itmC p x) 33))
  have P0 : Hid (Blk (w.alloc (.cells (itmC p x) 33)) w.heap.size 33 (itmC p x)) := Lib.hid (Blk.newAt rfl)
  clear hs
  have C1 := Lib.hid (fun h => Itm.chk_rng (x := x) h)
  have C2 := Lib.hid (fun h1 h => Itm.chk_lim (x := x) h1 h)
  have C3 := Lib.hid (fun h1 h2 h => Itm.chk_stem (x := x) h1 h2 h)
  have C4 := Lib.hid (fun h1 h2 h3 h => Itm.chk_none (x := x) h1 h2 h3 h)
  have C5 := Lib.hid (fun h1 h2 h3 h4 h => Itm.chk_inv (x := x) h1 h2 h3 h4 h)
  have C6 := Lib.hid (fun h1 h2 h3 h4 h5 h => Itm.chk_con (x := x) h1 h2 h3 h4 h5 h)
  have C7 := Lib.hid (fun h1 h2 h3 h4 h5 h => Itm.good (x := x) h1 h2 h3 h4 h5 h)
  generalize x.chk = z at C1 C2 C3 C4 C5 C6 C7 ⊢
  unfold Itm.rng at C1 C2 C3 C4 C5 C6 C7
  unfold Itm.lim at C2 C3 C4 C5 C6 C7
  unfold itmC at HB P0 ⊢
  obtain ⟨o1, c1, o2, c2⟩ := p
  obtain ⟨id, ver, st, nP, P, nE, E⟩ := x
  dsimp only at HV HE HT HB P0 C1 C2 C3 C4 C5 C6 C7 ⊢
  by_cases h1 : 0 ≤ id ∧ id ≤ 9999
  · have H1 := Lib.hid (within_yes h1)
    by_cases h2 : 1 ≤ ver ∧ ver ≤ 8
    · have H2 := Lib.hid (within_yes h2)
      have hr : 0 ≤ id ∧ id ≤ 9999 ∧ 1 ≤ ver ∧ ver ≤ 8 := by omega
      have HR := Lib.hid hr
      clear h1 h2 hr
      by_cases hl : st.size ≤ 40 ∧ nP ≤ 6 ∧ nE ≤ 8
      · have HL := Lib.hid hl
        have l1 : ¬ (40 : Int) < (st.size : Int) := by omega
        have l2 : ¬ (6 : Int) < (nP : Int) := by omega
        have l3 : ¬ (8 : Int) < (nE : Int) := by omega
        have HT' := Lib.hid (fun W => HT.out W hl.1)
        have HV' := Lib.hid (fun W hb => HV.out W hb hl.2.1)
        have HE' := Lib.hid (fun W hb => HE.out W hb hl.2.2)
        clear hl HT HV HE C1 C2
        cases hst : stemB st
        · have HZ := Lib.hid (C3.out HR.out HL.out hst)
          rw [hst] at HT'
          clear hst
          go_enter Try.func19, Try.ntmps19
          go_wp2_with (first | (go_at_call 36; first | (refine (H1.out _).mono ?_; rintro e w' ⟨rfl, hw'⟩; obtain rfl := hw'.symm; clear H1) | (refine (H2.out _).mono ?_; rintro e w' ⟨rfl, hw'⟩; obtain rfl := hw'.symm; clear H2)) | (go_at_call 43; refine (HT'.out _).mono ?_; rintro e w' ⟨rfl, hw'⟩; obtain rfl := hw'.symm))
          go_ret
          exact ⟨ret_int HZ.out.symm, HB.out⟩
        · have HST := Lib.hid hst
          rw [hst] at HT'
          clear hst C3
          by_cases hn : nP = 0
          · have HZ := Lib.hid (C4.out HR.out HL.out HST.out hn)
            clear C4 C5 C6 C7 HV' HE'
            subst hn
            go_enter Try.func19, Try.ntmps19
            go_wp2_with (first | (go_at_call 36; first | (refine (H1.out _).mono ?_; rintro e w' ⟨rfl, hw'⟩; obtain rfl := hw'.symm; clear H1) | (refine (H2.out _).mono ?_; rintro e w' ⟨rfl, hw'⟩; obtain rfl := hw'.symm; clear H2)) | (go_at_call 43; refine (HT'.out _).mono ?_; rintro e w' ⟨rfl, hw'⟩; obtain rfl := hw'.symm))
            go_ret
            exact ⟨ret_int HZ.out.symm, HB.out⟩
          · have hn0 : ((nP : Int) == 0) = false := by rw [beq_eq_false_iff_ne]; omega
            have HN := Lib.hid hn
            clear hn
            cases hok : allOk P nP
            · have HZ := Lib.hid (C5.out HR.out HL.out HST.out HN.out hok)
              rw [hok] at HV'
              clear hok C4 C5 C6 C7 HE'
              go_enter Try.func19, Try.ntmps19
              go_wp2_with (first | (go_at_call 36; first | (refine (H1.out _).mono ?_; rintro e w' ⟨rfl, hw'⟩; obtain rfl := hw'.symm; clear H1) | (refine (H2.out _).mono ?_; rintro e w' ⟨rfl, hw'⟩; obtain rfl := hw'.symm; clear H2)) | (go_at_call 43; refine (HT'.out _).mono ?_; rintro e w' ⟨rfl, hw'⟩; obtain rfl := hw'.symm) | (go_at_call 44; refine (HV'.out _ HB.out).mono ?_; rintro e w5 ⟨rfl, hb⟩; have HB5 := Lib.hid (bTr HB.out hb); clear hb))
              go_ret
              exact ⟨ret_int HZ.out.symm, HB5.out⟩
            · have HOK := Lib.hid hok
              rw [hok] at HV'
              clear hok
              have HZZ := Lib.hid (show z = if canE E id nE = false then 9 else 0 by
                cases hc : canE E id nE
                · rw [if_pos rfl]; exact C6.out HR.out HL.out HST.out HN.out HOK.out hc
                · rw [if_neg (by decide)]; exact C7.out HR.out HL.out HST.out HN.out HOK.out hc)
              clear C4 C5 C6 C7
              cases hc : canE E id nE
              all_goals
                rw [hc] at HE' HZZ
                clear hc
                go_enter Try.func19, Try.ntmps19
                go_wp2_with (first | (go_at_call 36; first | (refine (H1.out _).mono ?_; rintro e w' ⟨rfl, hw'⟩; obtain rfl := hw'.symm; clear H1) | (refine (H2.out _).mono ?_; rintro e w' ⟨rfl, hw'⟩; obtain rfl := hw'.symm; clear H2)) | (go_at_call 43; refine (HT'.out _).mono ?_; rintro e w' ⟨rfl, hw'⟩; obtain rfl := hw'.symm) | (go_at_call 44; refine (HV'.out _ HB.out).mono ?_; rintro e w5 ⟨rfl, hb⟩; have HB5 := Lib.hid (bTr HB.out hb); have P5 := Lib.hid (P0.out.later hb); clear hb; have z0 := P5.out.cell 0; have z4 := P5.out.cell 4) | (go_at_call 45; refine (HE'.out _ HB5.out).mono ?_; rintro e w' ⟨rfl, hw'⟩; obtain rfl := hw'.symm))
                go_ret
                exact ⟨ret_int HZZ.out.symm, HB5.out⟩
      · have HZ := Lib.hid (C2.out HR.out hl)
        clear C1 C2 C3 C4 C5 C6 C7 HV HE HT
        have hcases : (40 : Int) < (st.size : Int) ∨ (¬ (40 : Int) < (st.size : Int) ∧ (6 : Int) < (nP : Int)) ∨ (¬ (40 : Int) < (st.size : Int) ∧ ¬ (6 : Int) < (nP : Int) ∧ (8 : Int) < (nE : Int)) := by omega
        clear hl
        rcases hcases with ha | ⟨ha, hb⟩ | ⟨ha, hb, hc⟩
        all_goals
          go_enter Try.func19, Try.ntmps19
          go_wp2_with (first | (go_at_call 36; first | (refine (H1.out _).mono ?_; rintro e w' ⟨rfl, hw'⟩; obtain rfl := hw'.symm; clear H1) | (refine (H2.out _).mono ?_; rintro e w' ⟨rfl, hw'⟩; obtain rfl := hw'.symm; clear H2)))
          go_ret
          exact ⟨ret_int HZ.out.symm, HB.out⟩
    · have H2 := Lib.hid (within_no h2)
      have HZ := Lib.hid (C1.out (by omega))
      clear h1 h2 C1 C2 C3 C4 C5 C6 C7 HV HE HT
      go_enter Try.func19, Try.ntmps19
      go_wp2_with (first | (go_at_call 36; first | (refine (H1.out _).mono ?_; rintro e w' ⟨rfl, hw'⟩; obtain rfl := hw'.symm; clear H1) | (refine (H2.out _).mono ?_; rintro e w' ⟨rfl, hw'⟩; obtain rfl := hw'.symm; clear H2)))
      go_ret
      exact ⟨ret_int HZ.out.symm, HB.out⟩
  · have H1 := Lib.hid (within_no h1)
    have HZ := Lib.hid (C1.out (by omega))
    clear h1 C1 C2 C3 C4 C5 C6 C7 HV HE HT
    go_enter Try.func19, Try.ntmps19
    go_wp2_with (first | (go_at_call 36; first | (refine (H1.out _).mono ?_; rintro e w' ⟨rfl, hw'⟩; obtain rfl := hw'.symm; clear H1)))
    go_ret
    exact ⟨ret_int HZ.out.symm, HB.out⟩
set_option maxHeartbeats 4000000 in
theorem itotal_any (p : IPtr) (x : Itm) (w : World) (hs : ItmIn w w.heap.size p x) :
    Calls Try.prog 21 #[.agg (itmC p x)] w fun e w' => e = .returned (.int .i64 x.tot) ∧ Below w.heap.size w w' := by
  have HC := Lib.hid (fun W (hb : Below w.heap.size w W) => icheck_any p x W (hs.later hb))
  have HM := Lib.hid (fun W (hb : Below w.heap.size w W) (hx : x.chk = 0) => marks_any p.o1 x.nP p.c1 x.P W (hs.later hb).t (by have := (Itm.ok hx).2.1.2.1; omega) (Itm.ok hx).2.2.2.2.1)
  have HB := Lib.hid (bAl (Below.refl _ w) (.cells (itmC p x) 33))
  have P0 : Hid (Blk (w.alloc (.cells (itmC p x) 33)) w.heap.size 33 (itmC p x)) := Lib.hid (Blk.newAt rfl)
  clear hs
  have HT := Lib.hid (show x.tot = if x.chk = 0 then sumM x.P x.nP else 0 from rfl)
  unfold itmC at HB P0 HC ⊢
  by_cases hz : x.chk = 0
  · rw [if_pos hz] at HT
    have HM' := Lib.hid (fun W hb => HM.out W hb hz)
    rw [hz] at HC
    clear HM hz
    go_enter Try.func21, Try.ntmps21
    go_wp2_with (first | (go_at_call 19; refine (HC.out _ HB.out).mono ?_; rintro e w5 ⟨rfl, hb⟩; have HB5 := Lib.hid (bTr HB.out hb); have P5 := Lib.hid (P0.out.later hb); clear hb; have z3 := P5.out.cell 3) | (go_at_call 46; refine (HM'.out _ HB5.out).mono ?_; rintro e w6 ⟨rfl, hb⟩; have HB6 := Lib.hid (bTr HB5.out hb); clear hb))
    go_ret
    exact ⟨ret_int HT.out.symm, HB6.out⟩
  · rw [if_neg hz] at HT
    generalize x.chk = z at HC hz
    have hz' : (z != 0) = true := by rw [bne_iff_ne]; exact hz
    clear HM hz
    go_enter Try.func21, Try.ntmps21
    go_wp2_with (first | (go_at_call 19; refine (HC.out _ HB.out).mono ?_; rintro e w5 ⟨rfl, hb⟩; have HB5 := Lib.hid (bTr HB.out hb); clear hb))
    go_ret
    exact ⟨ret_int HT.out.symm, HB5.out⟩
end Go.Proofs.Ytjciniffkdadaaa
