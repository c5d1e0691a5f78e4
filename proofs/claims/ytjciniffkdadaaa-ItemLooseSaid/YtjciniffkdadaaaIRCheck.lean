/-
  The reference's Check of package item.
-/
import Derived.Test.YtjciniffkdadaaaICheck
import Derived.Test.YtjciniffkdadaaaQuietTail
namespace Go.Proofs.Ytjciniffkdadaaa
open Go.RowKit
set_option linter.unusedSimpArgs false
set_option linter.unusedVariables false

set_option maxRecDepth 100000 in
set_option maxHeartbeats 4000000 in
theorem rcheck_any (p : IPtr) (x : Itm) (w : World) (hs : ItmIn w w.heap.size p x) :
    Calls Try.prog 20 #[.agg (itmC p x)] w fun e w' => e = .returned (.int .i64 x.chk) ∧ Below w.heap.size w w' := by
  have HS := Lib.hid hs
  have HB := Lib.hid (bAl (Below.refl _ w) (.cells (itmC p x) 33))
  have P0 : Hid (Blk (w.alloc (.cells (itmC p x) 33)) w.heap.size 33 (itmC p x)) := Lib.hid (Blk.newAt rfl)
  have HSW := Lib.hid (HS.out.later HB.out)
  clear hs HS
  have C1 := Lib.hid (fun h => Itm.chk_rng (x := x) h)
  have C2 := Lib.hid (fun h1 h => Itm.chk_lim (x := x) h1 h)
  have C3 := Lib.hid (fun h1 h2 h => Itm.chk_stem (x := x) h1 h2 h)
  have C4 := Lib.hid (fun h1 h2 h3 h => Itm.chk_none (x := x) h1 h2 h3 h)
  have C5 := Lib.hid (fun h1 h2 h3 h4 h => Itm.chk_inv (x := x) h1 h2 h3 h4 h)
  have C6 := Lib.hid (fun h1 h2 h3 h4 h5 h => Itm.chk_con (x := x) h1 h2 h3 h4 h5 h)
  have C7 := Lib.hid (fun h1 h2 h3 h4 h5 h => Itm.good (x := x) h1 h2 h3 h4 h5 h)
  generalize x.chk = z at C1 C2 C3 C4 C5 C6 C7 ⊢
  unfold Itm.rng at C1 C2 C3 C4 C5 C6 C7
  unfold Itm.lim at C2 C3 C4 C5 C6 C7
  unfold itmC at HB P0 HSW ⊢
  obtain ⟨o1, c1, o2, c2⟩ := p
  obtain ⟨id, ver, st, nP, P, nE, E⟩ := x
  have HRW : Hid (RowP _ _ o1 nP P) := Lib.hid HSW.out.t
  have HEW : Hid (RowI _ _ o2 nE E) := Lib.hid HSW.out.e
  clear HSW
  dsimp only at HB P0 C1 C2 C3 C4 C5 C6 C7 ⊢
  by_cases hr : 0 ≤ id ∧ id ≤ 9999 ∧ 1 ≤ ver ∧ ver ≤ 8
  · have HR := Lib.hid hr
    have a1 : ¬ id < 0 := by omega
    have a2 : ¬ 9999 < id := by omega
    have a3 : ¬ ver < 1 := by omega
    have a4 : ¬ 8 < ver := by omega
    clear hr
    by_cases hl : st.size ≤ 40 ∧ nP ≤ 6 ∧ nE ≤ 8
    · have HL := Lib.hid hl
      have l1 : ¬ (40 : Int) < (st.size : Int) := by omega
      have l2 : ¬ (6 : Int) < (nP : Int) := by omega
      have l3 : ¬ (8 : Int) < (nE : Int) := by omega
      clear hl C1 C2
      replace C3 := Lib.hid (C3.out HR.out HL.out)
      replace C4 := Lib.hid (C4.out HR.out HL.out)
      replace C5 := Lib.hid (C5.out HR.out HL.out)
      replace C6 := Lib.hid (C6.out HR.out HL.out)
      replace C7 := Lib.hid (C7.out HR.out HL.out)
      have HST := Lib.hid (show stemB st = (decide (st.size ≠ 0) && prB st st.size) from rfl)
      have hemp := empty_size st
      by_cases h0 : st.size = 0
      · have HZ := Lib.hid (C3.out (by rw [HST.out, decide_eq_false (by omega)]; rfl))
        rw [decide_eq_true h0] at hemp
        clear C3 C4 C5 C6 C7 h0 HST
        go_enter Try.func20, Try.ntmps20
        go_wp2_with fail
        go_ret
        exact ⟨ret_int HZ.out.symm, HB.out⟩
      · rw [decide_eq_false h0] at hemp
        have HNE := Lib.hid (show decide (st.size ≠ 0) = true from decide_eq_true h0)
        clear h0
        have z0 := P0.out.cell 0
        have z1 := P0.out.cell 1
        have z2 := P0.out.cell 2
        have z3 := P0.out.cell 3
        have z4 := P0.out.cell 4
        go_enter Try.func20, Try.ntmps20
        go_wp2_with fail
        generalize w.alloc (.cells #[.int .i64 id, .int .i64 ver, .string st, .slice o1 nP c1, .slice o2 nE c2] 33) = wc at P0 z0 z1 z2 z3 z4 HB HRW HEW ⊢
        go_loopw [3] (fun i wr => ∃ k : Nat, i = .int .i64 k ∧ k ≤ st.size ∧ Hid (prB st k = true) ∧ wr = wc) (fun i _ => st.size - (intOf i).toNat)
        case atStart => exact ⟨0, rfl, Nat.zero_le _, Lib.hid rfl, rfl⟩
        case round =>
          obtain ⟨k, rfl, hk, HD, rfl⟩ := hrel
          by_cases hkn : k < st.size
          · have hkn' : (k : Int) < (st.size : Int) := by omega
            have hx := byteAt_at st k hkn
            have hxb := byteAt_bd st k
            have HDS := Lib.hid (show prB st (k + 1) = (prB st k && decide (32 ≤ byteAt st k ∧ byteAt st k ≤ 126)) from rfl)
            have HNO := Lib.hid (fun h => prB_no (s := st) (k := k) h hkn)
            generalize byteAt st k = x at hx hxb HDS HNO
            by_cases h1 : x < 32
            · have HZ := Lib.hid (C3.out (by rw [HST.out, HNO.out (by omega), Bool.and_false]))
              go_wp2_with fail
              exact bodyPost_ret (v := .int .i64 7) (by simp [results, Try.results20, go_sem]) rfl ⟨ret_int HZ.out.symm, HB.out⟩
            · by_cases h2 : 126 < x
              · have HZ := Lib.hid (C3.out (by rw [HST.out, HNO.out (by omega), Bool.and_false]))
                go_wp2_with fail
                exact bodyPost_ret (v := .int .i64 7) (by simp [results, Try.results20, go_sem]) rfl ⟨ret_int HZ.out.symm, HB.out⟩
              · have HD2 := Lib.hid (show prB st (k + 1) = true by rw [HDS.out, HD.out, decide_eq_true (show 32 ≤ x ∧ x ≤ 126 by omega)]; rfl)
                go_wp2_with fail
                go_roundw
                case rel => exact ⟨k + 1, by go_num, by omega, HD2, trivial⟩
                case measure => simp [intOf]; omega
          · obtain rfl : k = st.size := by omega
            have HSB := Lib.hid (show stemB st = true by rw [HST.out, HD.out, HNE.out]; rfl)
            replace C4 := Lib.hid (C4.out HSB.out)
            replace C5 := Lib.hid (C5.out HSB.out)
            replace C6 := Lib.hid (C6.out HSB.out)
            replace C7 := Lib.hid (C7.out HSB.out)
            clear C3
            by_cases hn : nP = 0
            · have HZ := Lib.hid (C4.out hn)
              clear C4 C5 C6 C7
              have hn0 : ((nP : Int) == 0) = true := by rw [hn]; rfl
              clear hn
              go_wp2_with fail
              exact bodyPost_ret (v := .int .i64 10) (by simp [results, Try.results20, go_sem]) rfl ⟨ret_int HZ.out.symm, HB.out⟩
            · have hn0 : ((nP : Int) == 0) = false := by rw [beq_eq_false_iff_ne]; omega
              replace C5 := Lib.hid (C5.out hn)
              replace C6 := Lib.hid (C6.out hn)
              replace C7 := Lib.hid (C7.out hn)
              clear C4 hn
              go_wp2_with fail
              generalize wr = wc at P0 z0 z1 z2 z3 z4 HB HRW HEW ⊢
              go_loopw [4] (fun i wr => ∃ k : Nat, i = .int .i64 k ∧ k ≤ nP ∧ Hid (allOk P k = true) ∧ Hid (Below wc.heap.size wc wr)) (fun i _ => nP - (intOf i).toNat)
              case atStart => exact ⟨0, rfl, Nat.zero_le _, Lib.hid rfl, Lib.hid (Below.refl _ _)⟩
              case round =>
                obtain ⟨k, rfl, hk, HD, HBW⟩ := hrel
                have PW := Lib.hid (P0.out.later HBW.out)
                clear z0 z1 z2 z3 z4
                have z0 := PW.out.cell 0
                have z1 := PW.out.cell 1
                have z2 := PW.out.cell 2
                have z3 := PW.out.cell 3
                have z4 := PW.out.cell 4
                by_cases hkn : k < nP
                · have hkn' : (k : Int) < (nP : Int) := by omega
                  obtain ⟨b, off, rfl, hbB, h0, h1, h2, h3, h4, h5⟩ := HRW.out.later HBW.out k hkn
                  have HV := Lib.hid (fun W => rvalid_any (P k) W)
                  unfold ptC at HV
                  cases hq : (P k).okB
                  · have HZ := Lib.hid (C5.out (allOk_no hq hkn))
                    rw [hq] at HV
                    clear hq
                    generalize P k = q at HV h0 h1 h2 h3 h4 h5
                    go_wp2_with (go_at_call 13; refine (HV.out _).mono ?_; rintro e w5 ⟨rfl, hb⟩; have HB5 := Lib.hid (bTr (bTr HB.out HBW.out) hb); clear hb)
                    exact bodyPost_ret (v := .int .i64 1) (by simp [results, Try.results20, go_sem]) rfl ⟨ret_int HZ.out.symm, HB5.out⟩
                  · have HG := Lib.hid (allOk_go HD.out hq)
                    rw [hq] at HV
                    clear hq
                    generalize P k = q at HV h0 h1 h2 h3 h4 h5
                    go_wp2_with (go_at_call 13; refine (HV.out _).mono ?_; rintro e w5 ⟨rfl, hb⟩; have HB5 := Lib.hid (bTr HBW.out hb); clear hb)
                    go_roundw
                    case rel => exact ⟨k + 1, by go_num, by omega, HG, HB5⟩
                    case measure => simp [intOf]; omega
                · obtain rfl : k = nP := by omega
                  replace C6 := Lib.hid (C6.out HD.out)
                  replace C7 := Lib.hid (C7.out HD.out)
                  have HB5 := Lib.hid (bTr HB.out HBW.out)
                  have HS5 := Lib.hid (HEW.out.later HBW.out)
                  go_wp2_with fail
                  generalize wr = wq at PW z0 z1 z2 z3 z4 HB5 HS5 ⊢
                  go_loopw [5] (fun i wr => ∃ k : Nat, i = .int .i64 k ∧ k ≤ nE ∧ Hid (canE E id k = true) ∧ Hid (Below wq.heap.size wq wr)) (fun i _ => nE - (intOf i).toNat)
                  case atStart => exact ⟨0, rfl, Nat.zero_le _, Lib.hid rfl, Lib.hid (Below.refl _ _)⟩
                  case round =>
                    obtain ⟨k, rfl, hk, HD, HBR⟩ := hrel
                    have PR := Lib.hid (PW.out.later HBR.out)
                    have HBF := Lib.hid (bTr HB5.out HBR.out)
                    clear z0 z1 z2 z3 z4
                    have z4 := PR.out.cell 4
                    by_cases hkn : k < nE
                    · have hkn' : (k : Int) < (nE : Int) := by omega
                      have HSR := Lib.hid (HS5.out.later HBR.out)
                      have HSK := HSR.out k hkn
                      obtain ⟨b, off, rfl, hbB, hc⟩ := HSK
                      have HY := Lib.hid (badE_ref HD.out)
                      have qc := hc
                      clear hc
                      have z0 := PR.out.cell 0
                      go_wp2_with fail
                      by_cases hbad : badE E id k
                      · have HZ := Lib.hid (C6.out (canE_no hbad hkn))
                        have hb' := HY.out.1 hbad
                        clear HY hbad
                        generalize hx : E k = x at qc hb'
                        have HX := Lib.hid hx
                        clear hx
                        by_cases g1 : x < 0
                        · skip
                          go_quiet (fail)
                          have HX6 := Lib.hid (bDr (Below.refl wr.heap.size wr) nq)
                          go_wp2_with fail
                          exact bodyPost_ret (v := .int .i64 9) (by simp [results, Try.results20, go_sem]) rfl ⟨ret_int HZ.out.symm, bTr HBF.out HX6.out⟩
                        · by_cases g2 : 9999 < x
                          · skip
                            go_quiet (fail)
                            have HX6 := Lib.hid (bDr (Below.refl wr.heap.size wr) nq)
                            go_wp2_with fail
                            exact bodyPost_ret (v := .int .i64 9) (by simp [results, Try.results20, go_sem]) rfl ⟨ret_int HZ.out.symm, bTr HBF.out HX6.out⟩
                          · by_cases g3 : x = id
                            · have g3' : (x == id) = true := by rw [g3]; simp
                              clear hb' g3
                              go_quiet (fail)
                              have HX6 := Lib.hid (bDr (Below.refl wr.heap.size wr) nq)
                              go_wp2_with fail
                              exact bodyPost_ret (v := .int .i64 9) (by simp [results, Try.results20, go_sem]) rfl ⟨ret_int HZ.out.symm, bTr HBF.out HX6.out⟩
                            · have g3' : (x == id) = false := by rw [beq_eq_false_iff_ne]; exact g3
                              have g4 : 0 < k ∧ x ≤ E (k - 1) := by omega
                              clear hb' g3
                              obtain ⟨g5, g6⟩ := g4
                              obtain ⟨b2, off2, ho2, hb2B, hc2⟩ := HSR.out (k - 1) (by omega)
                              injection ho2 with ho2
                              injection ho2 with e1 e2 _
                              subst e1
                              subst e2
                              have hk1 : IntKind.i64.wrap ((k : Int) - 1) = ((k - 1 : Nat) : Int) := by rw [IntKind.wrap_i64]; omega
                              have hk2 : ((k - 1 : Nat) : Int) < (nE : Int) := by omega
                              have hk3 : (0 : Int) ≤ ((k - 1 : Nat) : Int) := by omega
                              have hk4 : (0 : Int) < (k : Int) := by omega
                              have qd := hc2
                              clear hc2
                              generalize E (k - 1) = y at qd g6
                              generalize k - 1 = m at qd hk1 hk2 hk3
                              go_quiet (fail)
                              have HX6 := Lib.hid (bDr (Below.refl wr.heap.size wr) nq)
                              go_wp2_with fail
                              exact bodyPost_ret (v := .int .i64 9) (by simp [results, Try.results20, go_sem]) rfl ⟨ret_int HZ.out.symm, bTr HBF.out HX6.out⟩
                      · have HG := Lib.hid (canE_go HD.out hbad)
                        have hb' : ¬ (E k < 0 ∨ 9999 < E k ∨ E k = id ∨ (0 < k ∧ E k ≤ E (k - 1))) := fun h => hbad (HY.out.2 h)
                        clear HY hbad
                        generalize hx : E k = x at qc hb'
                        have HX := Lib.hid hx
                        clear hx
                        have g1 : ¬ x < 0 := by omega
                        have g2 : ¬ 9999 < x := by omega
                        have g3' : (x == id) = false := by rw [beq_eq_false_iff_ne]; omega
                        by_cases hk0 : k = 0
                        · have hk4 : ¬ (0 : Int) < (k : Int) := by omega
                          have g5 : ¬ 0 < k := by omega
                          clear hb' hk0
                          go_quiet (fail)
                          have HX6 := Lib.hid (bDr (Below.refl wr.heap.size wr) nq)
                          go_wp2_with fail
                          go_roundw
                          case rel => exact ⟨k + 1, by go_num, by omega, HG, Lib.hid (bTr HBR.out HX6.out)⟩
                          case measure => simp [intOf]; omega
                        · have g6 : ¬ x ≤ E (k - 1) := by omega
                          have g5 : 0 < k := by omega
                          obtain ⟨b2, off2, ho2, hb2B, hc2⟩ := HSR.out (k - 1) (by omega)
                          injection ho2 with ho2
                          injection ho2 with e1 e2 _
                          subst e1
                          subst e2
                          have hk1 : IntKind.i64.wrap ((k : Int) - 1) = ((k - 1 : Nat) : Int) := by rw [IntKind.wrap_i64]; omega
                          have hk2 : ((k - 1 : Nat) : Int) < (nE : Int) := by omega
                          have hk3 : (0 : Int) ≤ ((k - 1 : Nat) : Int) := by omega
                          have hk4 : (0 : Int) < (k : Int) := by omega
                          have qd := hc2
                          clear hb' hc2
                          generalize E (k - 1) = y at qd g6
                          generalize k - 1 = m at qd hk1 hk2 hk3
                          go_quiet (fail)
                          have HX6 := Lib.hid (bDr (Below.refl wr.heap.size wr) nq)
                          go_wp2_with fail
                          go_roundw
                          case rel => exact ⟨k + 1, by go_num, by omega, HG, Lib.hid (bTr HBR.out HX6.out)⟩
                          case measure => simp [intOf]; omega
                    · obtain rfl : k = nE := by omega
                      have HZ := Lib.hid (C7.out HD.out)
                      go_wp2_with fail
                      exact bodyPost_ret (v := .int .i64 0) (by simp [results, Try.results20, go_sem]) rfl ⟨ret_int HZ.out.symm, HBF.out⟩
    · have HZ := Lib.hid (C2.out HR.out hl)
      clear C1 C2 C3 C4 C5 C6 C7
      have hcases : (40 : Int) < (st.size : Int) ∨ (¬ (40 : Int) < (st.size : Int) ∧ (6 : Int) < (nP : Int)) ∨ (¬ (40 : Int) < (st.size : Int) ∧ ¬ (6 : Int) < (nP : Int) ∧ (8 : Int) < (nE : Int)) := by omega
      clear hl
      rcases hcases with ha | ⟨ha, hb⟩ | ⟨ha, hb, hc⟩
      all_goals
        go_enter Try.func20, Try.ntmps20
        go_wp2_with fail
        go_ret
        exact ⟨ret_int HZ.out.symm, HB.out⟩
  · have HZ := Lib.hid (C1.out hr)
    clear C1 C2 C3 C4 C5 C6 C7
    have hcases : id < 0 ∨ (¬ id < 0 ∧ 9999 < id) ∨ (¬ id < 0 ∧ ¬ 9999 < id ∧ ver < 1) ∨ (¬ id < 0 ∧ ¬ 9999 < id ∧ ¬ ver < 1 ∧ 8 < ver) := by omega
    clear hr
    rcases hcases with ha | ⟨ha, hb⟩ | ⟨ha, hb, hc⟩ | ⟨ha, hb, hc, hd⟩
    all_goals
      go_enter Try.func20, Try.ntmps20
      go_wp2_with fail
      go_ret
      exact ⟨ret_int HZ.out.symm, HB.out⟩
end Go.Proofs.Ytjciniffkdadaaa
