/-
  The walk of the statement on StampTwice.
-/
import Derived.Test.YtdggmnhddoejhaaLawKit
import Derived.Test.YtdggmnhddoejhaaTwiceMath
import Derived.Test.YtdggmnhddoejhaaCounts
import Derived.Test.YtdggmnhddoejhaaRefDis
import Derived.Laws.StructEq
namespace Go.Proofs.Ytdggmnhddoejhaa
open Go.RowKit
set_option linter.unusedSimpArgs false
set_option linter.unusedVariables false

theorem stamp_valid_b {t s q : Int} {v : Bool} (h : vld (t, s, q) = v) (w : World) :
    Calls Try.prog 12 #[.agg #[.int .i64 t, .int .i64 s, .int .i64 q]] w fun e w' => e = .returned (.bool v) ∧ Gro w w' := h ▸ stamp_valid t s q w
theorem stamp_compare_b {t s q t' s' q' v : Int} (h : cmp3 (t, s, q) (t', s', q') = v) (w : World) :
    Calls Try.prog 14 #[.agg #[.int .i64 t, .int .i64 s, .int .i64 q], .agg #[.int .i64 t', .int .i64 s', .int .i64 q']] w fun e w' => e = .returned (.int .i64 v) ∧ Gro w w' := h ▸ stamp_compare t s q t' s' q' w
theorem nDr (W : World) (B : Nat) (l : List Value) (h : News W B l) : News W.drew B l := fun j u hu => h j u hu
theorem Mt.drew {w : World} {vm vc va : Value} {ls : List St} {cs zs : List Int} {w1 : World} (h : Mt w vm vc va ls cs zs w1) : Mt w vm vc va ls cs zs w1.drew := ⟨h.rl, h.rc, h.ra, h.ap, h.pa, ⟨h.bl.os, h.bl.tape, h.bl.output, h.bl.size, h.bl.block⟩⟩
def upTo (k : Nat) : List Int := (List.range k).map fun (j : Nat) => (j : Int)
theorem upTo_snoc (k : Nat) : upTo (k + 1) = upTo k ++ [(k : Int)] := by unfold upTo; rw [List.range_succ, List.map_append]; rfl
theorem upTo_len (k : Nat) : (upTo k).length = k := by unfold upTo; simp
theorem upTo_at {k i : Nat} (h : i < k) : csF (upTo k) i = (i : Int) := by unfold csF upTo; rw [List.getD_eq_getElem?_getD, List.getElem?_map, List.getElem?_range h]; rfl
theorem RowI.to {w : World} {B n : Nat} {o : Option Addr} {C D : Nat → Int} (h : RowI w B o n C) (e : ∀ i, i < n → C i = D i) : RowI w B o n D := fun i hi => by rw [← e i hi]; exact h i hi
def TAt (L : Nat → St) (C : Nat → Int) (a : List Nat) (w : World) (vm vc va i : Value) (wr : World) : Prop :=
  ∃ k : Nat, i = .int .i64 k ∧ k ≤ a.length ∧ Mt w vm vc va ((a.take k).map L) ((a.take k).map C) (upTo k) wr
set_option maxRecDepth 100000 in
set_option maxHeartbeats 16000000 in
theorem walkStampTwice (o : Option Addr) (n c : Nat) (zs : List Int) (w : World) (h0 : IsRow .i64 w o n c zs) :
    Calls Try.prog 10 #[.slice o n c] w fun e w' => e = .returned (.bool true) ∧ Below w.heap.size w w' := by
  have mixed : Try.prog.follows .mixedOrders = true := by kernel_rfl
  obtain ⟨hr, h1, h2, h3⟩ := row_of h0
  go_enter Try.func10, Try.ntmps10
  go_wp2_with fail
  refine (tape_new hr h1 h2 h3).mono ?_
  rintro e w1 ⟨g, n9, rfl, ht1, hb1, hg⟩
  have HB1 := Lib.hid hb1
  clear hb1 hr h1 h2 h3
  go_wp2_with fail
  refine (events_any 12 8 (by omega) (by omega) (by omega) (by omega) ht1).mono ?_
  rintro e w2 ⟨vl, vc, ls, cs, rfl, hev, hlm⟩
  have HEV := Lib.hid hev
  have HB2 := Lib.hid (HB1.out.trans (grown_below hev.gr hg HB1.out.size))
  obtain ⟨pl, capl, hvl, -⟩ := own_any hev.rl
  obtain ⟨pc, capc, hvc, -⟩ := own_any hev.rc
  rw [hev.len] at hvc
  subst hvl
  subst hvc
  clear hev ht1
  obtain ⟨hrs, -, hcl⟩ := rowS_own HEV.out.rl
  obtain ⟨hrc, -, hcc⟩ := rowI_own HEV.out.rc
  rw [HEV.out.len] at hrc
  have HRS := Lib.hid hrs
  have HRC := Lib.hid hrc
  have hl14 : ls.length ≤ 100 := by omega
  clear hrs hrc
  go_wp2_with fail
  refine (canon_any pl pc ls.length capl capc (lsF ls) (csF cs) _ HRS.out HRC.out (by omega)).mono ?_
  rintro e w3 ⟨v, code, rfl, hv⟩
  have hv0 := hv
  obtain ⟨outa, hoa, -, -⟩ := hv0
  obtain ⟨rfl, pa, ca, rfl, hda⟩ := hv.eq outa hoa (by have := hoa.len; omega)
  have HB3 := Lib.hid (HB2.out.trans (hv.below.mono HB2.out.size))
  have HRS3 := Lib.hid ((HRS.out.below hv.below (Nat.le_refl _)).more hv.below.size)
  have HRC3 := Lib.hid ((HRC.out.below hv.below (Nat.le_refl _)).more hv.below.size)
  have HDA3 := Lib.hid hda
  have HOA := Lib.hid hoa
  have hla : outa.length ≤ 100 := by have := hoa.len; omega
  clear hv hda hoa HRS HRC HEV
  go_wp2_with fail
  go_loopw [7, 8, 9, 10] (fun vm vc va i wr => TAt (lsF ls) (csF cs) outa w3 vm vc va i wr) (fun _ _ _ i _ => outa.length - (intOf i).toNat)
  case atStart => exact ⟨0, rfl, Nat.zero_le _, World.ownsRow_nil _ _ _ _, World.ownsRow_nil _ _ _ _, World.ownsRow_nil _ _ _ _, .inl rfl, .inl rfl, RowKit.Below.refl _ _⟩
  case round =>
    obtain ⟨k, rfl, hk, hm⟩ := hrel
    have HM := Lib.hid hm
    clear hm
    by_cases hkn : k < outa.length
    · have hkn' : (k : Int) < (outa.length : Int) := by omega
      obtain ⟨ba, oa, rfl, hbaB, ga0⟩ := HDA3.out k hkn
      have ga : w3.cell? ⟨ba, oa + k, none⟩ = some (.int .i64 ((outa.getD k 0 : Nat) : Int)) := ga0
      clear ga0
      obtain ⟨hxn, hxc⟩ := canon_mem HOA.out hkn
      have HLT := Lib.hid (fun (j : Nat) (h : j < k) => And.intro (canon_lt HOA.out h hkn) (canon_other HOA.out h hkn))
      have HXX := Lib.hid (getD_at hkn)
      generalize outa.getD k 0 = x at ga hxn hxc HLT HXX
      have hxi : (x : Int) < (ls.length : Int) := by omega
      have hx0 : decide ((x : Int) < 0) = false := decide_eq_false (by omega)
      have hx2 : decide ((ls.length : Int) ≤ (x : Int)) = false := decide_eq_false (by omega)
      have hx3 : decide (ls.length ≤ x) = false := decide_eq_false (by omega)
      have hvx0 := ((cnts_iff _ _ _ _).1 hxc).1
      have hvx : vld ((lsF ls x).1, (lsF ls x).2.1, (lsF ls x).2.2) = true := hvx0
      obtain ⟨b, off, rfl, hbB, a0, a1, a2⟩ := HRS3.out x hxn
      obtain ⟨g', go, rfl, hgB, a3⟩ := HRC3.out x hxn
      have HKEEP := Lib.hid (show ∀ W, RowKit.Below w3.heap.size w3 W → _ from fun W hW => show (W.cell? ⟨ba, oa + k, none⟩ = some (.int .i64 (x : Int)) ∧ W.cell? ⟨b, off + x * 3, none⟩ = some (.int .i64 (lsF ls x).1) ∧ W.cell? ⟨b, off + x * 3 + 1, none⟩ = some (.int .i64 (lsF ls x).2.1) ∧ W.cell? ⟨b, off + x * 3 + 2, none⟩ = some (.int .i64 (lsF ls x).2.2) ∧ W.cell? ⟨g', go + x, none⟩ = some (.int .i64 (csF cs x))) from
        ⟨(hW.cell (p := ⟨ba, oa + k, none⟩) hbaB).trans ga, (hW.cell (p := ⟨b, off + x * 3, none⟩) hbB).trans a0, (hW.cell (p := ⟨b, off + x * 3 + 1, none⟩) hbB).trans a1, (hW.cell (p := ⟨b, off + x * 3 + 2, none⟩) hbB).trans a2, (hW.cell (p := ⟨g', go + x, none⟩) hgB).trans a3⟩)
      clear ga a0 a1 a2 a3 hvx0 hxc
      have hzA := HM.out.bl.size
      obtain ⟨k0, k1, k2, k3, k4⟩ := HKEEP.out _ HM.out.bl
      go_wp2_with (go_at_call 12; refine (stamp_valid_b hvx _).mono ?_; rintro e w5 ⟨rfl, hb⟩; have HQ := Lib.hid hb; clear hb)
      have HM5 := Lib.hid (HM.out.later HQ.out)
      clear HQ HM hzA k0 k1 k2 k3 k4
      obtain ⟨pm, capm, hvm, -⟩ := own_any HM5.out.rl
      have hlk : ((outa.take k).map (lsF ls)).length = k := by simp; omega
      rw [hlk] at hvm
      subst hvm
      obtain ⟨hrm, -, -⟩ := rowS_own HM5.out.rl
      rw [hlk] at hrm
      have HRM := Lib.hid (show RowS w5 w5.heap.size pm k (fun j => lsF ls (outa.getD j 0)) from fun j hj => by
        have e : lsF ((outa.take k).map (lsF ls)) j = lsF ls (outa.getD j 0) := by
          conv => lhs; unfold lsF
          rw [List.getD_eq_getElem?_getD, List.getElem?_map, List.getElem?_take, if_pos hj, getD_at (by omega)]; rfl
        have := hrm j hj
        rw [e] at this; exact this)
      clear hrm hlk
      go_wp2_with fail
      go_loopw [11] (fun v wr => ∃ j : Nat, v = .int .i64 j ∧ j ≤ k ∧ Gro w5 wr) (fun v _ => k - (intOf v).toNat)
      case atStart => exact ⟨0, rfl, Nat.zero_le _, Gro.refl _⟩
      case round =>
        obtain ⟨j, rfl, hj, hb⟩ := hrel
        have HBz := Lib.hid hb
        have HM6 := Lib.hid (HM5.out.later hb)
        obtain ⟨w6, hw6⟩ : ∃ w6 : World, w6 = wr := ⟨_, rfl⟩
        subst hw6
        by_cases hjk : j < k
        · have hjk' : (j : Int) < (k : Int) := by omega
          obtain ⟨hlt, hot⟩ := HLT.out j hjk
          obtain ⟨bm, om, rfl, hbm, m0, m1, m2⟩ := HRM.out.below hb.below (Nat.le_refl _) j hjk
          simp only [] at m0 m1 m2
          generalize lsF ls (outa.getD j 0) = y at m0 m1 m2 hlt hot
          obtain ⟨k0, k1, k2, k3, k4⟩ := HKEEP.out _ HM6.out.bl
          have hzA := HM6.out.bl.size
          have hzb := hb.size
          have c0 := cell_grown (by simp; omega) k0
          have c1 := cell_grown (by simp; omega) k1
          have c2 := cell_grown (by simp; omega) k2
          have c3 := cell_grown (by simp; omega) k3
          have d0 := cell_grown (by simp; omega) m0
          have d1 := cell_grown (by simp; omega) m1
          have d2 := cell_grown (by simp; omega) m2
          clear k0 k1 k2 k3 k4 m0 m1 m2
          obtain ⟨cv, hcv⟩ : ∃ cv, cmp3 (y.1, y.2.1, y.2.2) ((lsF ls x).1, (lsF ls x).2.1, (lsF ls x).2.2) = cv := ⟨_, rfl⟩
          have hcl : cv < 0 := by rw [← hcv]; exact (cmp3_lt y (lsF ls x)).2 hlt
          have hc1 : decide ((0 : Int) ≤ cv) = false := decide_eq_false (by omega)
          clear hlt hb hcl
          by_cases he : y.2.1 = (lsF ls x).2.1
          · have he1 : (y.2.1 == (lsF ls x).2.1) = true := by rw [beq_iff_eq]; exact he
            have he2 : (y.2.2 == (lsF ls x).2.2) = false := by rw [beq_eq_false_iff_ne]; exact fun h => hot (Prod.ext he h)
            clear he hot
            go_wp2_with fail
            refine wp_region_quiet_grown mixed (by kernel_rfl) ?_
            repeat (go_big_quiet_step ((go_at_call 14; exact Calls.grown_of (stamp_compare_b hcv _))))
            refine wpQuiet_nil ?_
            intro w7 hw'
            have HQ := Lib.hid (show Gro w6 w7 by obtain ⟨pp, h⟩ := hw'; exact ⟨pp.n, pp.os, h⟩)
            clear hw'
            go_wp2
            go_roundw
            case rel => exact ⟨j + 1, by go_num, by omega, HBz.out.trans HQ.out⟩
            case measure => simp [intOf]; omega
          · have he1 : (y.2.1 == (lsF ls x).2.1) = false := by rw [beq_eq_false_iff_ne]; exact he
            clear he hot
            go_wp2_with fail
            refine wp_region_quiet_grown mixed (by kernel_rfl) ?_
            repeat (go_big_quiet_step ((go_at_call 14; exact Calls.grown_of (stamp_compare_b hcv _))))
            refine wpQuiet_nil ?_
            intro w7 hw'
            have HQ := Lib.hid (show Gro w6 w7 by obtain ⟨pp, h⟩ := hw'; exact ⟨pp.n, pp.os, h⟩)
            clear hw'
            go_wp2
            go_roundw
            case rel => exact ⟨j + 1, by go_num, by omega, HBz.out.trans HQ.out⟩
            case measure => simp [intOf]; omega
        · have HM10 := HM6
          have HL1 := Lib.hid (show ((outa.take k).map (lsF ls)).length ≤ 1000 by simp; omega)
          have HL2 := Lib.hid (show ((outa.take k).map (csF cs)).length ≤ 1000 by simp; omega)
          have HL3 := Lib.hid (show (upTo k).length ≤ 1000 by rw [upTo_len]; omega)
          clear hb HBz HM6 HM5 HRM
          have HK6 := Lib.hid (HKEEP.out _ HM10.out.bl)
          obtain ⟨k0, k1, k2, k3, k4⟩ := HKEEP.out _ HM10.out.bl
          clear HK6
          go_wp2_with fail
          go_region_held3 (fun w' => w'.cell? ⟨ba, oa + k, none⟩ = some (.int .i64 (x : Int)) ∧ w'.cell? ⟨b, off + x * 3, none⟩ = some (.int .i64 (lsF ls x).1) ∧ w'.cell? ⟨b, off + x * 3 + 1, none⟩ = some (.int .i64 (lsF ls x).2.1) ∧ w'.cell? ⟨b, off + x * 3 + 2, none⟩ = some (.int .i64 (lsF ls x).2.2) ∧ w'.cell? ⟨g', go + x, none⟩ = some (.int .i64 (csF cs x))) (first | (refine HKEEP.out _ (Mt.bl (w := w3) (vm := (.slice pm k capm)) (vc := u8) (va := u9) (ls := ((outa.take k).map (lsF ls))) (cs := ((outa.take k).map (csF cs))) (zs := (upTo k)) ?_); (repeat (first | with_reducible exact HM10.out | with_reducible refine Mt.drew ?_ | with_reducible refine Mt.alloc ?_ _)); done) | (refine HKEEP.out _ (Mt.bl (w := w3) (vm := vm11) (vc := u8) (va := u9) (ls := ((outa.take k).map (lsF ls) ++ [lsF ls x])) (cs := ((outa.take k).map (csF cs))) (zs := (upTo k)) ?_); (repeat (first | with_reducible exact HM11.out | with_reducible refine Mt.drew ?_ | with_reducible refine Mt.alloc ?_ _)); done) | (refine HKEEP.out _ (Mt.bl (w := w3) (vm := vm11) (vc := vc12) (va := u9) (ls := ((outa.take k).map (lsF ls) ++ [lsF ls x])) (cs := ((outa.take k).map (csF cs) ++ [csF cs x])) (zs := (upTo k)) ?_); (repeat (first | with_reducible exact HM12.out | with_reducible refine Mt.drew ?_ | with_reducible refine Mt.alloc ?_ _)); done) | (refine HKEEP.out _ (Mt.bl (w := w3) (vm := vm11) (vc := vc12) (va := va13) (ls := ((outa.take k).map (lsF ls) ++ [lsF ls x])) (cs := ((outa.take k).map (csF cs) ++ [csF cs x])) (zs := (upTo k ++ [(k : Int)])) ?_); (repeat (first | with_reducible exact HM13.out | with_reducible refine Mt.drew ?_ | with_reducible refine Mt.alloc ?_ _)); done) | go_keep) (first | (refine tstepL (w0 := w3) (vm := (.slice pm k capm)) (vc := u8) (va := u9) (ls := ((outa.take k).map (lsF ls))) (cs := ((outa.take k).map (csF cs))) (zs := (upTo k)) _ (by rfl) (.tmp 109) (.tmp 117) (by rfl) ?_ HL1.out (by rfl) _ _ (lsF ls x) (by rfl) ?_ ?_; (repeat (first | with_reducible exact HM10.out | with_reducible refine Mt.drew ?_ | with_reducible refine Mt.alloc ?_ _)); (repeat (first | (with_reducible refine nDr _ _ _ ?_) | ((with_reducible refine nAt2 _ _ _ _ _ ?_ ?_); (first | rfl | (focus (simp; done))); rfl) | ((with_reducible refine nUp _ _ _ _ ?_ ?_); (first | (focus (simp; done)) | omega | (focus (simp; omega)))))); intro vm11 w11 hm11 hg11; have HM11 := Lib.hid hm11; have hz11 := hg11.size; (try simp at hz11); clear hm11) | (refine tstepC (w0 := w3) (vm := vm11) (vc := u8) (va := u9) (ls := ((outa.take k).map (lsF ls) ++ [lsF ls x])) (cs := ((outa.take k).map (csF cs))) (zs := (upTo k)) _ (by rfl) (.tmp 119) (.tmp 127) (by rfl) ?_ HL2.out (by rfl) _ _ (csF cs x) (by rfl) ?_ ?_; (repeat (first | with_reducible exact HM11.out | with_reducible refine Mt.drew ?_ | with_reducible refine Mt.alloc ?_ _)); (repeat (first | (with_reducible refine nDr _ _ _ ?_) | ((with_reducible refine nFar hg11 _ _ ?_ ?_ ?_); (first | (focus (simp; done)) | (focus (simp; omega)) | omega); (intro e; have := (HM10.out.rl.lt _ e.symm).2; first | omega | (focus (simp at this; done)) | (focus (simp at this; omega)))) | ((with_reducible refine nAt2 _ _ _ _ _ ?_ ?_); (first | rfl | (focus (simp; done))); rfl) | ((with_reducible refine nUp _ _ _ _ ?_ ?_); (first | (focus (simp; done)) | omega | (focus (simp; omega)))))); intro vc12 w12 hm12 hg12; have HM12 := Lib.hid hm12; have hz12 := hg12.size; (try simp at hz12); clear hm12) | (refine tstepA (w0 := w3) (vm := vm11) (vc := vc12) (va := u9) (ls := ((outa.take k).map (lsF ls) ++ [lsF ls x])) (cs := ((outa.take k).map (csF cs) ++ [csF cs x])) (zs := (upTo k)) _ (by rfl) (.tmp 129) (.tmp 131) (by rfl) ?_ HL3.out (by rfl) _ _ (k : Int) (by rfl) ?_ ?_; (repeat (first | with_reducible exact HM12.out | with_reducible refine Mt.drew ?_ | with_reducible refine Mt.alloc ?_ _)); (repeat (first | (with_reducible refine nDr _ _ _ ?_) | ((with_reducible refine nFar hg12 _ _ ?_ ?_ ?_); (first | (focus (simp; done)) | (focus (simp; omega)) | omega); (intro e; have := (HM10.out.rc.lt _ e.symm).2; first | omega | (focus (simp at this; done)) | (focus (simp at this; omega)))) | ((with_reducible refine nFar hg11 _ _ ?_ ?_ ?_); (first | (focus (simp; done)) | (focus (simp; omega)) | omega); (intro e; have := (HM10.out.rl.lt _ e.symm).2; first | omega | (focus (simp at this; done)) | (focus (simp at this; omega)))) | ((with_reducible refine nAt2 _ _ _ _ _ ?_ ?_); (first | rfl | (focus (simp; done))); rfl) | ((with_reducible refine nUp _ _ _ _ ?_ ?_); (first | (focus (simp; done)) | omega | (focus (simp; omega)))))); intro va13 w13 hm13 hg13; have HM13 := Lib.hid hm13; clear hm13 hg11 hg12 hg13))
          all_goals (go_wp2; go_roundw; (case rel => exact ⟨k + 1, by go_num, by omega, by rw [List.take_add_one, HXX.out, upTo_snoc]; simpa using HM13.out⟩); (case measure => simp [intOf]; omega))
    · obtain rfl : outa.length = k := by omega
      have HM4 := Lib.hid (show Mt w3 u7 u8 u9 (outa.map (lsF ls)) (outa.map (csF cs)) (upTo outa.length) wr by have := HM.out; rw [List.take_length] at this; exact this)
      obtain ⟨pm, capm, hvm, -⟩ := own_any HM4.out.rl
      obtain ⟨pn, capn, hvn, -⟩ := own_any HM4.out.rc
      obtain ⟨po, capo, hvo, -⟩ := own_any HM4.out.ra
      rw [List.length_map] at hvm hvn
      rw [upTo_len] at hvo
      subst hvm
      subst hvn
      subst hvo
      obtain ⟨hrm, -, -⟩ := rowS_own HM4.out.rl
      obtain ⟨hrn, -, -⟩ := rowI_own HM4.out.rc
      obtain ⟨hro, -, -⟩ := rowI_own HM4.out.ra
      rw [List.length_map] at hrm hrn
      rw [upTo_len] at hro
      have HMM := Lib.hid hrm
      have HNN := Lib.hid hrn
      have HO := Lib.hid hro
      have HB4 := Lib.hid (HB3.out.trans (HM4.out.bl.mono HB3.out.size))
      clear hrm hrn hro HM4 HM HRS3 HRC3 HDA3
      go_wp2_with fail
      refine (canon_any pm pn outa.length capm capn (lsF (outa.map (lsF ls))) (csF (outa.map (csF cs))) _ HMM.out HNN.out (by omega)).mono ?_
      rintro e w6 ⟨v, code, rfl, hv⟩
      obtain ⟨rfl, pb, cb, hvb, hdb⟩ := hv.eq (List.range outa.length) (canon_twice HOA.out) (by simp; omega)
      rw [List.length_range] at hvb hdb
      subst hvb
      have HB6 := Lib.hid (HB4.out.trans (hv.below.mono HB4.out.size))
      have HO6 := Lib.hid (((HO.out.below hv.below (Nat.le_refl _)).more hv.below.size).to (D := fun i => (i : Int)) (fun i hi => upTo_at hi))
      have HD6 := Lib.hid (hdb.to (D := fun i => (i : Int)) (fun i hi => by rw [List.getD_eq_getElem?_getD, List.getElem?_range hi]; rfl))
      clear hv hdb HMM HNN HO
      go_wp2_with fail
      refine (same_yes pb po outa.length cb capo _ _ (fun i => (i : Int)) _ HD6.out HO6.out (by omega)).mono ?_
      rintro e w7 ⟨rfl, k7, hk7⟩
      have HB7 := Lib.hid (HB6.out.trans ((show Below w6.heap.size w6 w7 by rw [hk7]; exact bDr (Below.refl _ _) k7).mono HB6.out.size))
      clear hk7
      go_wp2_with fail
      refine (awake_any _).mono ?_
      rintro e w8 ⟨rfl, hb8⟩
      have HB8 := Lib.hid (HB7.out.trans (hb8.mono HB7.out.size))
      clear hb8
      go_wp2
      go_ret
      exact ⟨rfl, HB8.out⟩
end Go.Proofs.Ytdggmnhddoejhaa
