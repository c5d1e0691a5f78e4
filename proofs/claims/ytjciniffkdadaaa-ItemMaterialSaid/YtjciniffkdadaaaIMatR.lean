/-
  Material, of the reference.
-/
import Derived.Test.YtjciniffkdadaaaIMatB
namespace Go.Proofs.Ytjciniffkdadaaa
open Go.RowKit
set_option linter.unusedSimpArgs false
set_option linter.unusedVariables false

set_option maxRecDepth 100000 in
set_option maxHeartbeats 8000000 in
theorem rmat_any (p q : IPtr) (x y : Itm) (w : World) (hs : ItmIn w w.heap.size p x) (hs2 : ItmIn w w.heap.size q y) (hn : x.nP ≤ 100) (hn2 : y.nP ≤ 100) :
    Calls Try.prog 26 #[.agg (itmC p x), .agg (itmC q y)] w (NatR (matL x y) w) := by
  have HB := Lib.hid (bAl (bAl (Below.refl _ w) (.cells (itmC p x) 33)) (.cells (itmC q y) 33))
  have P0 : Hid (Blk ((w.alloc (.cells (itmC p x) 33)).alloc (.cells (itmC q y) 33)) w.heap.size 33 (itmC p x)) := Lib.hid ((Blk.new _ _ _).alloc _)
  have P1 : Hid (Blk ((w.alloc (.cells (itmC p x) 33)).alloc (.cells (itmC q y) 33)) (w.heap.size + 1) 33 (itmC q y)) := Lib.hid (Blk.newAt (by simp))
  have HR1 := Lib.hid (hs.t.later HB.out)
  have HR2 := Lib.hid (hs2.t.later HB.out)
  have HL := Lib.hid (show matL x y = (List.range (max x.nP y.nP)).filter (difB x.nP y.nP x.P y.P) from rfl)
  rw [HL.out]
  clear hs hs2 HL
  unfold itmC at HB P0 P1 HR1 HR2 ⊢
  obtain ⟨o1, c1, o2, c2⟩ := p
  obtain ⟨o3, c3, o4, c4⟩ := q
  obtain ⟨id, ver, st, nP, P, nE, E⟩ := x
  obtain ⟨id2, ver2, st2, nQ, Q, nF, F⟩ := y
  have HRW : Hid (RowP _ _ o1 nP P) := Lib.hid HR1.out
  have HRV : Hid (RowP _ _ o3 nQ Q) := Lib.hid HR2.out
  clear HR1 HR2
  dsimp only at HB P0 P1 HRW HRV hn hn2 ⊢
  obtain ⟨i0, hi0, hz0, hz1, hz2⟩ := info_parts int_info
  obtain ⟨f, hf⟩ : ∃ f : Nat → Bool, f = difB nP nQ P Q := ⟨_, rfl⟩
  rw [← hf]
  have HF := Lib.hid (fun i => (congrFun hf i : f i = difB nP nQ P Q i))
  have HLN := Lib.hid (filt_len f)
  clear hf
  by_cases hlt : nP < nQ
  · rw [Nat.max_eq_right (by omega)]
    have hlt1 : (nP : Int) < (nQ : Int) := by omega
    have z0 := P0.out.cell 3
    have z1 := P1.out.cell 3
    go_enter Try.func26, Try.ntmps26
    go_wp2_with fail
    generalize (w.alloc _).alloc _ = wc at P0 P1 z0 z1 HB HRW HRV ⊢
    go_loopw [5, 6] (fun v i wr => CollAt f nQ wc v i wr) (fun _ i _ => nQ - (intOf i).toNat)
    case atStart => exact CollAt.start f nQ wc
    case round =>
      obtain ⟨i, rfl, hi, HO, HBR⟩ := hrel
      have PR := Lib.hid (P0.out.later HBR.out)
      have PS := Lib.hid (P1.out.later HBR.out)
      have HSR := Lib.hid (HRW.out.later HBR.out)
      have HSS := Lib.hid (HRV.out.later HBR.out)
      clear z0 z1
      have y0 := PR.out.cell 3
      have y1 := PS.out.cell 3
      by_cases hin : i < nQ
      · have hin' : (i : Int) < (nQ : Int) := by omega
        have hi0' : (0 : Int) ≤ (i : Int) := by omega
        have hsz := HBR.out.size
        have ylt := PR.out.lt
        go_wp2_with fail
        have HD := Lib.hid (HF.out i)
        by_cases g1 : nP ≤ i
        · have g1' : (nP : Int) ≤ (i : Int) := by omega
          have hfi : f i = true := by rw [HD.out]; unfold difB; rw [decide_eq_false (show ¬ i < nP by omega)]; rfl
          go_quiet (fail)
          have HW5 := Lib.hid (bDr (Below.refl wr.heap.size wr) nq)
          obtain ⟨w5, hw5⟩ : ∃ w5, wr.drewN nq = w5 := ⟨_, rfl⟩
          rw [hw5] at HW5 ⊢
          clear hw5
          go_wp2_with ((at_builtin; refine wpList_append_own_at _ rfl (.tmp 43) (.tmp 45) 28 rfl wc.heap.size 3 i0 (.int .i64 0) 1 8 Try.underlying28 hi0 hz0 hz1 hz2 rfl (by decide) _ _ _ rfl ((own_later HO.out HW5.out).alloc _) ⟨w5.heap.size, 0, none⟩ 1 1 [iv i] rfl rfl ?c1 ?c2 ?c3 ?c4 ?c5 ?_; (case c1 => exact cell_one_new _ _ _); (case c2 => intro u hu; simp at hu; subst hu; rfl); (case c3 => have := HLN.out i; unfold maxLen; omega); (case c4 => have := HLN.out i; omega); (case c5 => have := HW5.out.size; simp; omega); intro v' w3 hown3 hgrow hnil hat; have H3 := Lib.hid (And.intro hown3 hgrow); clear hown3 hgrow hnil hat))
          go_roundw
          case rel => exact CollAt.yes hfi hin HO.out HBR.out HW5.out H3.out.2 H3.out.1
          case measure => simp [intOf]; omega
        · have g1' : ¬ (nP : Int) ≤ (i : Int) := by omega
          by_cases g2 : nQ ≤ i
          · have g2' : (nQ : Int) ≤ (i : Int) := by omega
            exact absurd hin (by omega)
          · have g2' : ¬ (nQ : Int) ≤ (i : Int) := by omega
            have g3 : (i : Int) < (nP : Int) := by omega
            have g4 : (i : Int) < (nQ : Int) := by omega
            obtain ⟨b, off, ho1, hbB, h10, h11, h12, h13, h14, h15⟩ := HSR.out i (by omega)
            obtain ⟨b2, off2, ho2, hbB2, h20, h21, h22, h23, h24, h25⟩ := HSS.out i (by omega)
            subst ho1
            subst ho2
            have HEQ := Lib.hid (show f i = !decide (P i = Q i) by rw [HD.out]; unfold difB; rw [decide_eq_true (show i < nP by omega), decide_eq_true (show i < nQ by omega)]; rfl)
            clear HD
            have HPQ := Lib.hid (show P i ≠ Q i → f i = true from fun h => by rw [HEQ.out, decide_eq_false h]; rfl)
            have HPE := Lib.hid (show P i = Q i → f i = false from fun h => by rw [HEQ.out, decide_eq_true h]; rfl)
            clear HEQ
            generalize P i = pp at h10 h11 h12 h13 h14 h15 HPQ HPE
            generalize Q i = qq at h20 h21 h22 h23 h24 h25 HPQ HPE
            obtain ⟨a0, a1, a2, a3, a4, a5⟩ := pp
            obtain ⟨d0, d1, d2, d3, d4, d5⟩ := qq
            dsimp only at h10 h11 h12 h13 h14 h15 h20 h21 h22 h23 h24 h25
            by_cases e0 : a0 = d0
            · subst e0
              by_cases e1 : a1 = d1
              · subst e1
                by_cases e2 : a2 = d2
                · subst e2
                  by_cases e3 : a3 = d3
                  · subst e3
                    by_cases e4 : a4 = d4
                    · subst e4
                      by_cases e5 : a5 = d5
                      · subst e5
                        have hfi : f i = false := HPE.out rfl
                        go_quiet (fail)
                        have HW5 := Lib.hid (bDr (Below.refl wr.heap.size wr) nq)
                        obtain ⟨w5, hw5⟩ : ∃ w5, wr.drewN nq = w5 := ⟨_, rfl⟩
                        rw [hw5] at HW5 ⊢
                        clear hw5
                        go_wp2_with fail
                        go_roundw
                        case rel => exact CollAt.no hfi hin HO.out HBR.out HW5.out
                        case measure => simp [intOf]; omega
                      · have hfi : f i = true := HPQ.out (fun h => e5 (congrArg Pt.ky h))
                        go_quiet (fail)
                        have HW5 := Lib.hid (bDr (Below.refl wr.heap.size wr) nq)
                        obtain ⟨w5, hw5⟩ : ∃ w5, wr.drewN nq = w5 := ⟨_, rfl⟩
                        rw [hw5] at HW5 ⊢
                        clear hw5
                        go_wp2_with ((at_builtin; refine wpList_append_own_at _ rfl (.tmp 43) (.tmp 45) 28 rfl wc.heap.size 3 i0 (.int .i64 0) 1 8 Try.underlying28 hi0 hz0 hz1 hz2 rfl (by decide) _ _ _ rfl ((own_later HO.out HW5.out).alloc _) ⟨w5.heap.size, 0, none⟩ 1 1 [iv i] rfl rfl ?c1 ?c2 ?c3 ?c4 ?c5 ?_; (case c1 => exact cell_one_new _ _ _); (case c2 => intro u hu; simp at hu; subst hu; rfl); (case c3 => have := HLN.out i; unfold maxLen; omega); (case c4 => have := HLN.out i; omega); (case c5 => have := HW5.out.size; simp; omega); intro v' w3 hown3 hgrow hnil hat; have H3 := Lib.hid (And.intro hown3 hgrow); clear hown3 hgrow hnil hat))
                        go_roundw
                        case rel => exact CollAt.yes hfi hin HO.out HBR.out HW5.out H3.out.2 H3.out.1
                        case measure => simp [intOf]; omega
                    · have hfi : f i = true := HPQ.out (fun h => e4 (congrArg Pt.op h))
                      go_quiet (fail)
                      have HW5 := Lib.hid (bDr (Below.refl wr.heap.size wr) nq)
                      obtain ⟨w5, hw5⟩ : ∃ w5, wr.drewN nq = w5 := ⟨_, rfl⟩
                      rw [hw5] at HW5 ⊢
                      clear hw5
                      go_wp2_with ((at_builtin; refine wpList_append_own_at _ rfl (.tmp 43) (.tmp 45) 28 rfl wc.heap.size 3 i0 (.int .i64 0) 1 8 Try.underlying28 hi0 hz0 hz1 hz2 rfl (by decide) _ _ _ rfl ((own_later HO.out HW5.out).alloc _) ⟨w5.heap.size, 0, none⟩ 1 1 [iv i] rfl rfl ?c1 ?c2 ?c3 ?c4 ?c5 ?_; (case c1 => exact cell_one_new _ _ _); (case c2 => intro u hu; simp at hu; subst hu; rfl); (case c3 => have := HLN.out i; unfold maxLen; omega); (case c4 => have := HLN.out i; omega); (case c5 => have := HW5.out.size; simp; omega); intro v' w3 hown3 hgrow hnil hat; have H3 := Lib.hid (And.intro hown3 hgrow); clear hown3 hgrow hnil hat))
                      go_roundw
                      case rel => exact CollAt.yes hfi hin HO.out HBR.out HW5.out H3.out.2 H3.out.1
                      case measure => simp [intOf]; omega
                  · have hfi : f i = true := HPQ.out (fun h => e3 (congrArg Pt.ob h))
                    go_quiet (fail)
                    have HW5 := Lib.hid (bDr (Below.refl wr.heap.size wr) nq)
                    obtain ⟨w5, hw5⟩ : ∃ w5, wr.drewN nq = w5 := ⟨_, rfl⟩
                    rw [hw5] at HW5 ⊢
                    clear hw5
                    go_wp2_with ((at_builtin; refine wpList_append_own_at _ rfl (.tmp 43) (.tmp 45) 28 rfl wc.heap.size 3 i0 (.int .i64 0) 1 8 Try.underlying28 hi0 hz0 hz1 hz2 rfl (by decide) _ _ _ rfl ((own_later HO.out HW5.out).alloc _) ⟨w5.heap.size, 0, none⟩ 1 1 [iv i] rfl rfl ?c1 ?c2 ?c3 ?c4 ?c5 ?_; (case c1 => exact cell_one_new _ _ _); (case c2 => intro u hu; simp at hu; subst hu; rfl); (case c3 => have := HLN.out i; unfold maxLen; omega); (case c4 => have := HLN.out i; omega); (case c5 => have := HW5.out.size; simp; omega); intro v' w3 hown3 hgrow hnil hat; have H3 := Lib.hid (And.intro hown3 hgrow); clear hown3 hgrow hnil hat))
                    go_roundw
                    case rel => exact CollAt.yes hfi hin HO.out HBR.out HW5.out H3.out.2 H3.out.1
                    case measure => simp [intOf]; omega
                · have hfi : f i = true := HPQ.out (fun h => e2 (congrArg Pt.tp h))
                  go_quiet (fail)
                  have HW5 := Lib.hid (bDr (Below.refl wr.heap.size wr) nq)
                  obtain ⟨w5, hw5⟩ : ∃ w5, wr.drewN nq = w5 := ⟨_, rfl⟩
                  rw [hw5] at HW5 ⊢
                  clear hw5
                  go_wp2_with ((at_builtin; refine wpList_append_own_at _ rfl (.tmp 43) (.tmp 45) 28 rfl wc.heap.size 3 i0 (.int .i64 0) 1 8 Try.underlying28 hi0 hz0 hz1 hz2 rfl (by decide) _ _ _ rfl ((own_later HO.out HW5.out).alloc _) ⟨w5.heap.size, 0, none⟩ 1 1 [iv i] rfl rfl ?c1 ?c2 ?c3 ?c4 ?c5 ?_; (case c1 => exact cell_one_new _ _ _); (case c2 => intro u hu; simp at hu; subst hu; rfl); (case c3 => have := HLN.out i; unfold maxLen; omega); (case c4 => have := HLN.out i; omega); (case c5 => have := HW5.out.size; simp; omega); intro v' w3 hown3 hgrow hnil hat; have H3 := Lib.hid (And.intro hown3 hgrow); clear hown3 hgrow hnil hat))
                  go_roundw
                  case rel => exact CollAt.yes hfi hin HO.out HBR.out HW5.out H3.out.2 H3.out.1
                  case measure => simp [intOf]; omega
              · have hfi : f i = true := HPQ.out (fun h => e1 (congrArg Pt.mx h))
                go_quiet (fail)
                have HW5 := Lib.hid (bDr (Below.refl wr.heap.size wr) nq)
                obtain ⟨w5, hw5⟩ : ∃ w5, wr.drewN nq = w5 := ⟨_, rfl⟩
                rw [hw5] at HW5 ⊢
                clear hw5
                go_wp2_with ((at_builtin; refine wpList_append_own_at _ rfl (.tmp 43) (.tmp 45) 28 rfl wc.heap.size 3 i0 (.int .i64 0) 1 8 Try.underlying28 hi0 hz0 hz1 hz2 rfl (by decide) _ _ _ rfl ((own_later HO.out HW5.out).alloc _) ⟨w5.heap.size, 0, none⟩ 1 1 [iv i] rfl rfl ?c1 ?c2 ?c3 ?c4 ?c5 ?_; (case c1 => exact cell_one_new _ _ _); (case c2 => intro u hu; simp at hu; subst hu; rfl); (case c3 => have := HLN.out i; unfold maxLen; omega); (case c4 => have := HLN.out i; omega); (case c5 => have := HW5.out.size; simp; omega); intro v' w3 hown3 hgrow hnil hat; have H3 := Lib.hid (And.intro hown3 hgrow); clear hown3 hgrow hnil hat))
                go_roundw
                case rel => exact CollAt.yes hfi hin HO.out HBR.out HW5.out H3.out.2 H3.out.1
                case measure => simp [intOf]; omega
            · have hfi : f i = true := HPQ.out (fun h => e0 (congrArg Pt.kd h))
              go_quiet (fail)
              have HW5 := Lib.hid (bDr (Below.refl wr.heap.size wr) nq)
              obtain ⟨w5, hw5⟩ : ∃ w5, wr.drewN nq = w5 := ⟨_, rfl⟩
              rw [hw5] at HW5 ⊢
              clear hw5
              go_wp2_with ((at_builtin; refine wpList_append_own_at _ rfl (.tmp 43) (.tmp 45) 28 rfl wc.heap.size 3 i0 (.int .i64 0) 1 8 Try.underlying28 hi0 hz0 hz1 hz2 rfl (by decide) _ _ _ rfl ((own_later HO.out HW5.out).alloc _) ⟨w5.heap.size, 0, none⟩ 1 1 [iv i] rfl rfl ?c1 ?c2 ?c3 ?c4 ?c5 ?_; (case c1 => exact cell_one_new _ _ _); (case c2 => intro u hu; simp at hu; subst hu; rfl); (case c3 => have := HLN.out i; unfold maxLen; omega); (case c4 => have := HLN.out i; omega); (case c5 => have := HW5.out.size; simp; omega); intro v' w3 hown3 hgrow hnil hat; have H3 := Lib.hid (And.intro hown3 hgrow); clear hown3 hgrow hnil hat))
              go_roundw
              case rel => exact CollAt.yes hfi hin HO.out HBR.out HW5.out H3.out.2 H3.out.1
              case measure => simp [intOf]; omega
      · obtain rfl : i = nQ := by omega
        have HO2 := HO
        have HFIN := Lib.hid (bTr HB.out HBR.out)
        have HSZ := Lib.hid HB.out.size
        obtain ⟨o8, c8, hv8⟩ := own_any HO.out
        have HV8 := Lib.hid hv8
        clear hv8
        go_wp2_with fail
        exact bodyPost_ret (by simp [results, Try.results26, go_sem]) rfl ⟨_, rfl, ⟨_, HO2.out, HSZ.out⟩, HFIN.out⟩
  · rw [Nat.max_eq_left (by omega)]
    have hlt1 : ¬ (nP : Int) < (nQ : Int) := by omega
    have z0 := P0.out.cell 3
    have z1 := P1.out.cell 3
    go_enter Try.func26, Try.ntmps26
    go_wp2_with fail
    generalize (w.alloc _).alloc _ = wc at P0 P1 z0 z1 HB HRW HRV ⊢
    go_loopw [5, 6] (fun v i wr => CollAt f nP wc v i wr) (fun _ i _ => nP - (intOf i).toNat)
    case atStart => exact CollAt.start f nP wc
    case round =>
      obtain ⟨i, rfl, hi, HO, HBR⟩ := hrel
      have PR := Lib.hid (P0.out.later HBR.out)
      have PS := Lib.hid (P1.out.later HBR.out)
      have HSR := Lib.hid (HRW.out.later HBR.out)
      have HSS := Lib.hid (HRV.out.later HBR.out)
      clear z0 z1
      have y0 := PR.out.cell 3
      have y1 := PS.out.cell 3
      by_cases hin : i < nP
      · have hin' : (i : Int) < (nP : Int) := by omega
        have hi0' : (0 : Int) ≤ (i : Int) := by omega
        have hsz := HBR.out.size
        have ylt := PR.out.lt
        go_wp2_with fail
        have HD := Lib.hid (HF.out i)
        by_cases g1 : nP ≤ i
        · have g1' : (nP : Int) ≤ (i : Int) := by omega
          exact absurd hin (by omega)
        · have g1' : ¬ (nP : Int) ≤ (i : Int) := by omega
          by_cases g2 : nQ ≤ i
          · have g2' : (nQ : Int) ≤ (i : Int) := by omega
            have hfi : f i = true := by rw [HD.out]; unfold difB; rw [decide_eq_false (show ¬ i < nQ by omega)]; simp
            go_quiet (fail)
            have HW5 := Lib.hid (bDr (Below.refl wr.heap.size wr) nq)
            obtain ⟨w5, hw5⟩ : ∃ w5, wr.drewN nq = w5 := ⟨_, rfl⟩
            rw [hw5] at HW5 ⊢
            clear hw5
            go_wp2_with ((at_builtin; refine wpList_append_own_at _ rfl (.tmp 43) (.tmp 45) 28 rfl wc.heap.size 3 i0 (.int .i64 0) 1 8 Try.underlying28 hi0 hz0 hz1 hz2 rfl (by decide) _ _ _ rfl ((own_later HO.out HW5.out).alloc _) ⟨w5.heap.size, 0, none⟩ 1 1 [iv i] rfl rfl ?c1 ?c2 ?c3 ?c4 ?c5 ?_; (case c1 => exact cell_one_new _ _ _); (case c2 => intro u hu; simp at hu; subst hu; rfl); (case c3 => have := HLN.out i; unfold maxLen; omega); (case c4 => have := HLN.out i; omega); (case c5 => have := HW5.out.size; simp; omega); intro v' w3 hown3 hgrow hnil hat; have H3 := Lib.hid (And.intro hown3 hgrow); clear hown3 hgrow hnil hat))
            go_roundw
            case rel => exact CollAt.yes hfi hin HO.out HBR.out HW5.out H3.out.2 H3.out.1
            case measure => simp [intOf]; omega
          · have g2' : ¬ (nQ : Int) ≤ (i : Int) := by omega
            have g3 : (i : Int) < (nP : Int) := by omega
            have g4 : (i : Int) < (nQ : Int) := by omega
            obtain ⟨b, off, ho1, hbB, h10, h11, h12, h13, h14, h15⟩ := HSR.out i (by omega)
            obtain ⟨b2, off2, ho2, hbB2, h20, h21, h22, h23, h24, h25⟩ := HSS.out i (by omega)
            subst ho1
            subst ho2
            have HEQ := Lib.hid (show f i = !decide (P i = Q i) by rw [HD.out]; unfold difB; rw [decide_eq_true (show i < nP by omega), decide_eq_true (show i < nQ by omega)]; rfl)
            clear HD
            have HPQ := Lib.hid (show P i ≠ Q i → f i = true from fun h => by rw [HEQ.out, decide_eq_false h]; rfl)
            have HPE := Lib.hid (show P i = Q i → f i = false from fun h => by rw [HEQ.out, decide_eq_true h]; rfl)
            clear HEQ
            generalize P i = pp at h10 h11 h12 h13 h14 h15 HPQ HPE
            generalize Q i = qq at h20 h21 h22 h23 h24 h25 HPQ HPE
            obtain ⟨a0, a1, a2, a3, a4, a5⟩ := pp
            obtain ⟨d0, d1, d2, d3, d4, d5⟩ := qq
            dsimp only at h10 h11 h12 h13 h14 h15 h20 h21 h22 h23 h24 h25
            by_cases e0 : a0 = d0
            · subst e0
              by_cases e1 : a1 = d1
              · subst e1
                by_cases e2 : a2 = d2
                · subst e2
                  by_cases e3 : a3 = d3
                  · subst e3
                    by_cases e4 : a4 = d4
                    · subst e4
                      by_cases e5 : a5 = d5
                      · subst e5
                        have hfi : f i = false := HPE.out rfl
                        go_quiet (fail)
                        have HW5 := Lib.hid (bDr (Below.refl wr.heap.size wr) nq)
                        obtain ⟨w5, hw5⟩ : ∃ w5, wr.drewN nq = w5 := ⟨_, rfl⟩
                        rw [hw5] at HW5 ⊢
                        clear hw5
                        go_wp2_with fail
                        go_roundw
                        case rel => exact CollAt.no hfi hin HO.out HBR.out HW5.out
                        case measure => simp [intOf]; omega
                      · have hfi : f i = true := HPQ.out (fun h => e5 (congrArg Pt.ky h))
                        go_quiet (fail)
                        have HW5 := Lib.hid (bDr (Below.refl wr.heap.size wr) nq)
                        obtain ⟨w5, hw5⟩ : ∃ w5, wr.drewN nq = w5 := ⟨_, rfl⟩
                        rw [hw5] at HW5 ⊢
                        clear hw5
                        go_wp2_with ((at_builtin; refine wpList_append_own_at _ rfl (.tmp 43) (.tmp 45) 28 rfl wc.heap.size 3 i0 (.int .i64 0) 1 8 Try.underlying28 hi0 hz0 hz1 hz2 rfl (by decide) _ _ _ rfl ((own_later HO.out HW5.out).alloc _) ⟨w5.heap.size, 0, none⟩ 1 1 [iv i] rfl rfl ?c1 ?c2 ?c3 ?c4 ?c5 ?_; (case c1 => exact cell_one_new _ _ _); (case c2 => intro u hu; simp at hu; subst hu; rfl); (case c3 => have := HLN.out i; unfold maxLen; omega); (case c4 => have := HLN.out i; omega); (case c5 => have := HW5.out.size; simp; omega); intro v' w3 hown3 hgrow hnil hat; have H3 := Lib.hid (And.intro hown3 hgrow); clear hown3 hgrow hnil hat))
                        go_roundw
                        case rel => exact CollAt.yes hfi hin HO.out HBR.out HW5.out H3.out.2 H3.out.1
                        case measure => simp [intOf]; omega
                    · have hfi : f i = true := HPQ.out (fun h => e4 (congrArg Pt.op h))
                      go_quiet (fail)
                      have HW5 := Lib.hid (bDr (Below.refl wr.heap.size wr) nq)
                      obtain ⟨w5, hw5⟩ : ∃ w5, wr.drewN nq = w5 := ⟨_, rfl⟩
                      rw [hw5] at HW5 ⊢
                      clear hw5
                      go_wp2_with ((at_builtin; refine wpList_append_own_at _ rfl (.tmp 43) (.tmp 45) 28 rfl wc.heap.size 3 i0 (.int .i64 0) 1 8 Try.underlying28 hi0 hz0 hz1 hz2 rfl (by decide) _ _ _ rfl ((own_later HO.out HW5.out).alloc _) ⟨w5.heap.size, 0, none⟩ 1 1 [iv i] rfl rfl ?c1 ?c2 ?c3 ?c4 ?c5 ?_; (case c1 => exact cell_one_new _ _ _); (case c2 => intro u hu; simp at hu; subst hu; rfl); (case c3 => have := HLN.out i; unfold maxLen; omega); (case c4 => have := HLN.out i; omega); (case c5 => have := HW5.out.size; simp; omega); intro v' w3 hown3 hgrow hnil hat; have H3 := Lib.hid (And.intro hown3 hgrow); clear hown3 hgrow hnil hat))
                      go_roundw
                      case rel => exact CollAt.yes hfi hin HO.out HBR.out HW5.out H3.out.2 H3.out.1
                      case measure => simp [intOf]; omega
                  · have hfi : f i = true := HPQ.out (fun h => e3 (congrArg Pt.ob h))
                    go_quiet (fail)
                    have HW5 := Lib.hid (bDr (Below.refl wr.heap.size wr) nq)
                    obtain ⟨w5, hw5⟩ : ∃ w5, wr.drewN nq = w5 := ⟨_, rfl⟩
                    rw [hw5] at HW5 ⊢
                    clear hw5
                    go_wp2_with ((at_builtin; refine wpList_append_own_at _ rfl (.tmp 43) (.tmp 45) 28 rfl wc.heap.size 3 i0 (.int .i64 0) 1 8 Try.underlying28 hi0 hz0 hz1 hz2 rfl (by decide) _ _ _ rfl ((own_later HO.out HW5.out).alloc _) ⟨w5.heap.size, 0, none⟩ 1 1 [iv i] rfl rfl ?c1 ?c2 ?c3 ?c4 ?c5 ?_; (case c1 => exact cell_one_new _ _ _); (case c2 => intro u hu; simp at hu; subst hu; rfl); (case c3 => have := HLN.out i; unfold maxLen; omega); (case c4 => have := HLN.out i; omega); (case c5 => have := HW5.out.size; simp; omega); intro v' w3 hown3 hgrow hnil hat; have H3 := Lib.hid (And.intro hown3 hgrow); clear hown3 hgrow hnil hat))
                    go_roundw
                    case rel => exact CollAt.yes hfi hin HO.out HBR.out HW5.out H3.out.2 H3.out.1
                    case measure => simp [intOf]; omega
                · have hfi : f i = true := HPQ.out (fun h => e2 (congrArg Pt.tp h))
                  go_quiet (fail)
                  have HW5 := Lib.hid (bDr (Below.refl wr.heap.size wr) nq)
                  obtain ⟨w5, hw5⟩ : ∃ w5, wr.drewN nq = w5 := ⟨_, rfl⟩
                  rw [hw5] at HW5 ⊢
                  clear hw5
                  go_wp2_with ((at_builtin; refine wpList_append_own_at _ rfl (.tmp 43) (.tmp 45) 28 rfl wc.heap.size 3 i0 (.int .i64 0) 1 8 Try.underlying28 hi0 hz0 hz1 hz2 rfl (by decide) _ _ _ rfl ((own_later HO.out HW5.out).alloc _) ⟨w5.heap.size, 0, none⟩ 1 1 [iv i] rfl rfl ?c1 ?c2 ?c3 ?c4 ?c5 ?_; (case c1 => exact cell_one_new _ _ _); (case c2 => intro u hu; simp at hu; subst hu; rfl); (case c3 => have := HLN.out i; unfold maxLen; omega); (case c4 => have := HLN.out i; omega); (case c5 => have := HW5.out.size; simp; omega); intro v' w3 hown3 hgrow hnil hat; have H3 := Lib.hid (And.intro hown3 hgrow); clear hown3 hgrow hnil hat))
                  go_roundw
                  case rel => exact CollAt.yes hfi hin HO.out HBR.out HW5.out H3.out.2 H3.out.1
                  case measure => simp [intOf]; omega
              · have hfi : f i = true := HPQ.out (fun h => e1 (congrArg Pt.mx h))
                go_quiet (fail)
                have HW5 := Lib.hid (bDr (Below.refl wr.heap.size wr) nq)
                obtain ⟨w5, hw5⟩ : ∃ w5, wr.drewN nq = w5 := ⟨_, rfl⟩
                rw [hw5] at HW5 ⊢
                clear hw5
                go_wp2_with ((at_builtin; refine wpList_append_own_at _ rfl (.tmp 43) (.tmp 45) 28 rfl wc.heap.size 3 i0 (.int .i64 0) 1 8 Try.underlying28 hi0 hz0 hz1 hz2 rfl (by decide) _ _ _ rfl ((own_later HO.out HW5.out).alloc _) ⟨w5.heap.size, 0, none⟩ 1 1 [iv i] rfl rfl ?c1 ?c2 ?c3 ?c4 ?c5 ?_; (case c1 => exact cell_one_new _ _ _); (case c2 => intro u hu; simp at hu; subst hu; rfl); (case c3 => have := HLN.out i; unfold maxLen; omega); (case c4 => have := HLN.out i; omega); (case c5 => have := HW5.out.size; simp; omega); intro v' w3 hown3 hgrow hnil hat; have H3 := Lib.hid (And.intro hown3 hgrow); clear hown3 hgrow hnil hat))
                go_roundw
                case rel => exact CollAt.yes hfi hin HO.out HBR.out HW5.out H3.out.2 H3.out.1
                case measure => simp [intOf]; omega
            · have hfi : f i = true := HPQ.out (fun h => e0 (congrArg Pt.kd h))
              go_quiet (fail)
              have HW5 := Lib.hid (bDr (Below.refl wr.heap.size wr) nq)
              obtain ⟨w5, hw5⟩ : ∃ w5, wr.drewN nq = w5 := ⟨_, rfl⟩
              rw [hw5] at HW5 ⊢
              clear hw5
              go_wp2_with ((at_builtin; refine wpList_append_own_at _ rfl (.tmp 43) (.tmp 45) 28 rfl wc.heap.size 3 i0 (.int .i64 0) 1 8 Try.underlying28 hi0 hz0 hz1 hz2 rfl (by decide) _ _ _ rfl ((own_later HO.out HW5.out).alloc _) ⟨w5.heap.size, 0, none⟩ 1 1 [iv i] rfl rfl ?c1 ?c2 ?c3 ?c4 ?c5 ?_; (case c1 => exact cell_one_new _ _ _); (case c2 => intro u hu; simp at hu; subst hu; rfl); (case c3 => have := HLN.out i; unfold maxLen; omega); (case c4 => have := HLN.out i; omega); (case c5 => have := HW5.out.size; simp; omega); intro v' w3 hown3 hgrow hnil hat; have H3 := Lib.hid (And.intro hown3 hgrow); clear hown3 hgrow hnil hat))
              go_roundw
              case rel => exact CollAt.yes hfi hin HO.out HBR.out HW5.out H3.out.2 H3.out.1
              case measure => simp [intOf]; omega
      · obtain rfl : i = nP := by omega
        have HO2 := HO
        have HFIN := Lib.hid (bTr HB.out HBR.out)
        have HSZ := Lib.hid HB.out.size
        obtain ⟨o8, c8, hv8⟩ := own_any HO.out
        have HV8 := Lib.hid hv8
        clear hv8
        go_wp2_with fail
        exact bodyPost_ret (by simp [results, Try.results26, go_sem]) rfl ⟨_, rfl, ⟨_, HO2.out, HSZ.out⟩, HFIN.out⟩
end Go.Proofs.Ytjciniffkdadaaa
