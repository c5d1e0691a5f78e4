/-
  The walk of the statement on StampAnyOrder.
-/
import Derived.Test.YtdhjmnehjmoilaaLawKit
import Derived.Test.YtdhjmnehjmoilaaWalkGrows
import Derived.Test.YtdhjmnehjmoilaaAnyMath
import Derived.Test.YtdhjmnehjmoilaaMixed
import Derived.Laws.StructEq
import Derived.Deep.AppendLies
namespace Go.Proofs.Ytdhjmnehjmoilaa
open Go.RowKit
set_option linter.unusedSimpArgs false
set_option linter.unusedVariables false

/-- the two rows that the first loop fills -/
structure Mc (w : World) (vm vc : Value) (ls : List St) (cs : List Int) (wr : World) : Prop where
  rl : wr.ownsRow w.heap.size 23 3 vm ls.length (stCells ls)
  rc : wr.ownsRow w.heap.size 3 1 vc cs.length (cs.map (Value.int .i64))
  bl : RowKit.Below w.heap.size w wr
theorem Mc.alloc {w : World} {vm vc : Value} {ls : List St} {cs : List Int} {w1 : World} (h : Mc w vm vc ls cs w1) (x : Obj) : Mc w vm vc ls cs (w1.alloc x) := ⟨h.rl.alloc x, h.rc.alloc x, h.bl.alloc h.bl.size x⟩
theorem Mc.drew {w : World} {vm vc : Value} {ls : List St} {cs : List Int} {w1 : World} (h : Mc w vm vc ls cs w1) : Mc w vm vc ls cs w1.drew := ⟨h.rl, h.rc, ⟨h.bl.os, h.bl.tape, h.bl.output, h.bl.size, h.bl.block⟩⟩
theorem Mc.putL {w : World} {vm vc vm' : Value} {ls : List St} {cs : List Int} {x : St} {w1 w2 : World} (h : Mc w vm vc ls cs w1)
    (h1 : w2.ownsRow w.heap.size 23 3 vm' (ls.length + 1) (stCells ls ++ [.int .i64 x.1, .int .i64 x.2.1, .int .i64 x.2.2])) (g1 : w1.grownBy w2 vm.ownBlock) : Mc w vm' vc (ls ++ [x]) cs w2 :=
  ⟨by rw [stCells_snoc]; simpa using h1, h.rc.kept g1 (own_apart h.rc h.rl (by decide)), h.bl.grown g1 h.bl.size (fun j hj => (h.rl.lt j hj).1)⟩
theorem Mc.putC {w : World} {vm vc vc' : Value} {ls : List St} {cs : List Int} {d : Int} {w1 w2 : World} (h : Mc w vm vc ls cs w1)
    (h1 : w2.ownsRow w.heap.size 3 1 vc' (cs.length + 1) (cs.map (Value.int .i64) ++ [.int .i64 d])) (g1 : w1.grownBy w2 vc.ownBlock) : Mc w vm vc' ls (cs ++ [d]) w2 :=
  ⟨h.rl.kept g1 (own_apart h.rl h.rc (by decide)), by simpa using h1, h.bl.grown g1 h.bl.size (fun j hj => (h.rc.lt j hj).1)⟩
theorem cell_three_old (w : World) (x y z : Value) (t : TypeId) (o : Obj) : ∀ j u, [x, y, z][j]? = some u → ((w.alloc (.cells #[x, y, z] t)).alloc o).cell? ((⟨w.heap.size, 0, none⟩ : Addr).add j) = some u := by
  intro j u hj
  have hb : ((⟨w.heap.size, 0, none⟩ : Addr).add j).block = w.heap.size := by unfold Addr.add; split <;> rfl
  rw [((RowKit.Below.refl (w.alloc (.cells #[x, y, z] t)).heap.size _).alloc (Nat.le_refl _) o).cell (by rw [hb]; simp)]
  exact cell_three_new w x y z t j u hj
theorem cell_three_at (w : World) (x y z : Value) (t : TypeId) (B : Nat) (hB : B = w.heap.size) : ∀ j u, [x, y, z][j]? = some u → (w.alloc (.cells #[x, y, z] t)).cell? ((⟨B, 0, none⟩ : Addr).add j) = some u := by subst hB; exact cell_three_new w x y z t
theorem one_kept {W w' : World} {row : Option Nat} (hg : W.grownBy w' row) (b : Nat) (v : Value) (hb : b < W.heap.size) (hn : some b ≠ row) (hc : W.cell? ⟨b, 0, none⟩ = some v) : ∀ j u, [v][j]? = some u → w'.cell? ((⟨b, 0, none⟩ : Addr).add j) = some u := by
  intro j u hj
  match j, hj with
  | 0, hj => simp at hj; subst hj; exact (hg.cell_far ⟨b, 0, none⟩ hb hn).trans hc
theorem step_putL (w : World) {ops : Array Oper} {o : Oper} {a : Act} {K : Act → World → Prop} {Q : Exit → Act → World → Prop} {E : Prop} (hgd : o.guard = none) (s x : Operand)
    (ho : o.op = .call { callee := .builtin .append, args := #[s, x], argTypes := #[31, 31] }) {w0 : World} {vm vc : Value} {ls : List St} {cs : List Int} (hm : Mc w0 vm vc ls cs w) (hl : ls.length ≤ 1000)
    (hs : a.eval s = vm) (ad : Addr) (c : Nat) (y : St) (hx : a.eval x = .slice (some ad) 1 c) (hnews : ∀ j u, [Value.int .i64 y.1, .int .i64 y.2.1, .int .i64 y.2.2][j]? = some u → w.cell? (ad.add j) = some u)
    (h : ∀ v' w', Mc w0 v' vc (ls ++ [y]) cs w' → w.grownBy w' vm.ownBlock → K (a.put o.dst v') w') : if Region.wanted o (yielded ops a.tmps) = true then Oper.wp Try.prog o a w K Q else E := by
  obtain ⟨j0, hj0, hy0, hy1, hy2⟩ := info_parts st_info
  exact step_append_lies w hgd s x _ ho w0.heap.size 23 j0 (.agg #[.int .i64 0, .int .i64 0, .int .i64 0]) 3 24 Try.underlying31 hj0 hy0 hy1 hy2 rfl (by decide) _ _ _ hs hm.rl ad 1 c _ hx rfl hnews three_one (by decide) (by unfold maxLen; omega) (by omega) hm.bl.size _ rfl
    fun g cap w' h1 h2 _ _ => h _ _ (hm.putL h1 h2) h2
theorem step_putC (w : World) {ops : Array Oper} {o : Oper} {a : Act} {K : Act → World → Prop} {Q : Exit → Act → World → Prop} {E : Prop} (hgd : o.guard = none) (s x : Operand)
    (ho : o.op = .call { callee := .builtin .append, args := #[s, x], argTypes := #[28, 28] }) {w0 : World} {vm vc : Value} {ls : List St} {cs : List Int} (hm : Mc w0 vm vc ls cs w) (hl : cs.length ≤ 1000)
    (hs : a.eval s = vc) (ad : Addr) (c : Nat) (y : Int) (hx : a.eval x = .slice (some ad) 1 c) (hnews : ∀ j u, [Value.int .i64 y][j]? = some u → w.cell? (ad.add j) = some u)
    (h : ∀ v' w', Mc w0 vm v' ls (cs ++ [y]) w' → w.grownBy w' vc.ownBlock → K (a.put o.dst v') w') : if Region.wanted o (yielded ops a.tmps) = true then Oper.wp Try.prog o a w K Q else E := by
  obtain ⟨i0, hi0, hz0, hz1, hz2⟩ := info_parts int_info
  exact step_append_lies w hgd s x _ ho w0.heap.size 3 i0 (.int .i64 0) 1 8 Try.underlying28 hi0 hz0 hz1 hz2 rfl (by decide) _ _ _ hs hm.rc ad 1 c _ hx rfl hnews (by intro u hu; simp at hu; subst hu; rfl) (by decide) (by unfold maxLen; omega) (by omega) hm.bl.size _ rfl
    fun g cap w' h1 h2 _ _ => h _ _ (hm.putC h1 h2) h2
set_option linter.unnecessarySimpa false
def AAt (L : Nat → St) (C : Nat → Int) (zs : List Nat) (w : World) (vm vc i : Value) (wr : World) : Prop :=
  ∃ k : Nat, i = .int .i64 k ∧ k ≤ zs.length ∧ Mc w vm vc ((zs.take k).map L) ((zs.take k).map C) wr
set_option maxRecDepth 100000 in
set_option maxHeartbeats 8000000 in
theorem walkStampAnyOrder (o : Option Addr) (n c : Nat) (zs : List Int) (w : World) (h0 : IsRow .i64 w o n c zs) :
    Calls Try.prog 9 #[.slice o n c] w fun e w' => e = .returned (.bool true) ∧ Below w.heap.size w w' := by
  obtain ⟨i0, hi0, hz0, hz1, hz2⟩ := info_parts int_info
  obtain ⟨j0, hj0, hy0, hy1, hy2⟩ := info_parts st_info
  obtain ⟨hr, h1, h2, h3⟩ := row_of h0
  go_enter Try.func9, Try.ntmps9
  go_wp2_with fail
  refine (tape_new hr h1 h2 h3).mono ?_
  rintro e w1 ⟨g, n9, rfl, ht1, hb1, hg⟩
  have HB1 := Lib.hid hb1
  clear hb1 hr h1 h2 h3
  go_wp2_with fail
  refine (events_any 10 8 (by omega) (by omega) (by omega) (by omega) ht1).mono ?_
  rintro e w2 ⟨vl, vc, ls, cs, rfl, hev, hlm⟩
  have HEV := Lib.hid hev
  have HB2 := Lib.hid (HB1.out.trans (grown_below hev.gr hg HB1.out.size))
  obtain ⟨pl, capl, hvl, -⟩ := own_any hev.rl
  obtain ⟨pc, capc, hvc, -⟩ := own_any hev.rc
  rw [hev.len] at hvc
  subst hvl
  subst hvc
  clear hev ht1
  obtain ⟨hrs, -, hcl⟩ := rowS_own HEV.out.rl
  obtain ⟨hrc, -, hcc⟩ := rowI_own HEV.out.rc
  rw [HEV.out.len] at hrc
  have HRS := Lib.hid hrs
  have HRC := Lib.hid hrc
  have hl14 : ls.length ≤ 100 := by omega
  clear hrs hrc
  go_wp2_with fail
  refine (tape_mixed ls.length (by omega) HEV.out.tp).mono ?_
  rintro e w3 ⟨vo, ord, ⟨hol, hom⟩, rfl, hoo, ht3, hg3⟩
  have HEV3 := Lib.hid (HEV.out.on ht3 hg3)
  obtain ⟨po, capo, hvo, hpo⟩ := own_form hoo
  subst hvo
  have HOO := Lib.hid hoo
  have HPO := Lib.hid hpo
  have HOM := Lib.hid hom
  have HB3 := Lib.hid (HB1.out.trans (grown_below HEV3.out.gr hg HB1.out.size))
  clear ht3 hg3 HRS HRC HEV HB2 hoo hpo hom
  obtain ⟨hrs, -, -⟩ := rowS_own HEV3.out.rl
  obtain ⟨hrc, -, -⟩ := rowI_own HEV3.out.rc
  rw [HEV3.out.len] at hrc
  have HRS3 := Lib.hid hrs
  have HRC3 := Lib.hid hrc
  clear hrs hrc
  go_wp2_with fail
  go_loopw [7, 8, 9] (fun vm vc i wr => AAt (lsF ls) (csF cs) ord w3 vm vc i wr) (fun _ _ i _ => ord.length - (intOf i).toNat)
  case atStart => exact ⟨0, rfl, Nat.zero_le _, World.ownsRow_nil _ _ _ _, World.ownsRow_nil _ _ _ _, RowKit.Below.refl _ _⟩
  case round =>
    obtain ⟨k, rfl, hk, hm⟩ := hrel
    have HM := Lib.hid hm
    clear hm
    by_cases hkn : k < ord.length
    · have hkn' : (k : Int) < (ord.length : Int) := by omega
      obtain ⟨x, hx⟩ : ∃ x, ord[k]? = some x := ⟨_, List.getElem?_eq_getElem hkn⟩
      have hxn : x < ls.length := (HOM.out x).1 (List.mem_of_getElem? hx)
      have hxi : (x : Int) < (ls.length : Int) := by omega
      obtain ⟨qo, rfl, hqo, hqol, hox⟩ := HPO.out k x hx
      obtain ⟨b, off, rfl, hbB, a0, a1, a2⟩ := HRS3.out x hxn
      obtain ⟨g', go, rfl, hgB, a3⟩ := HRC3.out x hxn
      have hoxx := hox
      have b0 := a0
      have b1 := a1
      have b2 := a2
      have b3 := a3
      have hox := (HM.out.bl.cell (p := ⟨qo, k, none⟩) hqol).trans hox
      have a0 := (HM.out.bl.cell (p := ⟨b, off + x * 3, none⟩) hbB).trans a0
      have a1 := (HM.out.bl.cell (p := ⟨b, off + x * 3 + 1, none⟩) hbB).trans a1
      have a2 := (HM.out.bl.cell (p := ⟨b, off + x * 3 + 2, none⟩) hbB).trans a2
      have a3 := (HM.out.bl.cell (p := ⟨g', go + x, none⟩) hgB).trans a3
      have HXX := Lib.hid hx
      have HWZ := Lib.hid HM.out.bl.size
      have HKEEP := Lib.hid (show ∀ W, RowKit.Below w3.heap.size w3 W → _ from fun W hW => show (W.cell? ⟨qo, k, none⟩ = some (.int .i64 (x : Int)) ∧ W.cell? ⟨b, off + x * 3, none⟩ = some (.int .i64 (lsF ls x).1) ∧ W.cell? ⟨b, off + x * 3 + 1, none⟩ = some (.int .i64 (lsF ls x).2.1) ∧ W.cell? ⟨b, off + x * 3 + 2, none⟩ = some (.int .i64 (lsF ls x).2.2) ∧ W.cell? ⟨g', go + x, none⟩ = some (.int .i64 (csF cs x))) from
        ⟨(hW.cell (p := ⟨qo, k, none⟩) hqol).trans hoxx, (hW.cell (p := ⟨b, off + x * 3, none⟩) hbB).trans b0, (hW.cell (p := ⟨b, off + x * 3 + 1, none⟩) hbB).trans b1, (hW.cell (p := ⟨b, off + x * 3 + 2, none⟩) hbB).trans b2, (hW.cell (p := ⟨g', go + x, none⟩) hgB).trans b3⟩)
      have HL1 := Lib.hid (show ((ord.take k).map (lsF ls)).length ≤ 1000 by simp; omega)
      have HL2 := Lib.hid (show ((ord.take k).map (csF cs)).length ≤ 1000 by simp; omega)
      clear hx hoxx b0 b1 b2 b3
      go_wp2_with fail
      go_region_held3 (fun w' => w'.cell? ⟨qo, k, none⟩ = some (.int .i64 (x : Int)) ∧ w'.cell? ⟨b, off + x * 3, none⟩ = some (.int .i64 (lsF ls x).1) ∧ w'.cell? ⟨b, off + x * 3 + 1, none⟩ = some (.int .i64 (lsF ls x).2.1) ∧ w'.cell? ⟨b, off + x * 3 + 2, none⟩ = some (.int .i64 (lsF ls x).2.2) ∧ w'.cell? ⟨g', go + x, none⟩ = some (.int .i64 (csF cs x))) (first | exact HKEEP.out _ HM.out.bl | exact HKEEP.out _ (HM.out.alloc _).bl | exact HKEEP.out _ ((HM.out.alloc _).alloc _).bl | exact HKEEP.out _ HM10.out.bl | exact HKEEP.out _ (HM10.out.alloc _).bl | exact HKEEP.out _ HM11.out.bl | go_keep) (first | (refine step_putL _ (by rfl) (.tmp 32) (.tmp 40) (by rfl) (by first | exact HM.out.alloc _ | exact (HM.out.alloc _).alloc _ | exact (HM.out.alloc _).drew | exact ((HM.out.alloc _).alloc _).drew | exact HM.out) HL1.out (by rfl) _ _ (lsF ls x) (by rfl) (by first | exact cell_three_new _ _ _ _ _ | exact cell_three_old _ _ _ _ _ _ | exact cell_three_at _ _ _ _ _ _ (by simp)) ?_; intro vm10 w10 hm10 hg10; have HM10 := Lib.hid hm10; have hs10 := hm10.bl.size; clear hm10) | (refine step_putC _ (by rfl) (.tmp 42) (.tmp 50) (by rfl) (by first | exact HM10.out | exact HM10.out.alloc _ | exact HM10.out.drew | exact (HM10.out.alloc _).drew) HL2.out (by rfl) _ _ (csF cs x) (by rfl) (by first | exact cell_one_new _ _ _ | exact one_kept hg10 _ _ (by first | (simp; done) | (simp; omega)) (fun e => by have := (HM.out.rl.lt _ e.symm).2; first | omega | (simp at this; done) | (simp at this; omega)) (by first | (simpa using (Blk.new (wr.alloc _) 3 #[.int .i64 (csF cs x)]).cell 0) | exact (((RowKit.Below.refl _ _).alloc (Nat.le_refl _) _).cell (p := ⟨wr.heap.size, 0, none⟩) (by simp)).trans ((Blk.new wr 3 #[.int .i64 (csF cs x)]).cell 0))) ?_; intro vc11 w11 hm11 hg11; have HM11 := Lib.hid hm11; clear hm11 hg10 hg11))
      all_goals (go_wp2; go_roundw; (case rel => exact ⟨k + 1, by go_num, by omega, by rw [List.take_add_one, HXX.out]; simpa using HM11.out⟩); (case measure => simp [intOf]; omega))
    · obtain rfl : ord.length = k := by omega
      have HM4 := Lib.hid (show Mc w3 u7 u8 (ord.map (lsF ls)) (ord.map (csF cs)) wr by have := HM.out; rw [List.take_length] at this; exact this)
      obtain ⟨pm, capm, hvm, -⟩ := own_any HM4.out.rl
      obtain ⟨pn, capn, hvn, -⟩ := own_any HM4.out.rc
      rw [List.length_map] at hvm hvn
      subst hvm
      subst hvn
      obtain ⟨hrm, -, -⟩ := rowS_own HM4.out.rl
      obtain ⟨hrn, -, -⟩ := rowI_own HM4.out.rc
      rw [List.length_map] at hrm hrn
      have HM := Lib.hid hrm
      have HN := Lib.hid hrn
      have HB4 := Lib.hid (HB3.out.trans (HM4.out.bl.mono HB3.out.size))
      have HRS4 := Lib.hid ((HRS3.out.below HM4.out.bl (Nat.le_refl _)).more HM4.out.bl.size)
      have HRC4 := Lib.hid ((HRC3.out.below HM4.out.bl (Nat.le_refl _)).more HM4.out.bl.size)
      have hm13 : ord.length ≤ 100 := by omega
      clear hrm hrn HM4 HRS3 HRC3 HPO HOO HEV3
      go_wp2_with fail
      refine (canon_any pl pc ls.length capl capc (lsF ls) (csF cs) _ HRS4.out HRC4.out (by omega)).mono ?_
      rintro e w5 ⟨v, code, rfl, hv⟩
      have hv0 := hv
      obtain ⟨outa, hoa, -, -⟩ := hv0
      obtain ⟨rfl, pa, ca, rfl, hda⟩ := hv.eq outa hoa (by have := hoa.len; omega)
      have HB5 := Lib.hid (HB4.out.trans (hv.below.mono HB4.out.size))
      have HRS5 := Lib.hid ((HRS4.out.below hv.below (Nat.le_refl _)).more hv.below.size)
      have HRC5 := Lib.hid ((HRC4.out.below hv.below (Nat.le_refl _)).more hv.below.size)
      have HM5 := Lib.hid ((HM.out.below hv.below (Nat.le_refl _)).more hv.below.size)
      have HN5 := Lib.hid ((HN.out.below hv.below (Nat.le_refl _)).more hv.below.size)
      have HDA5 := Lib.hid hda
      have HOA := Lib.hid hoa
      clear hv hda hoa HRS4 HRC4 HM HN
      go_wp2_with fail
      refine (canon_any pm pn ord.length capm capn (lsF (ord.map (lsF ls))) (csF (ord.map (csF cs))) _ HM5.out HN5.out (by omega)).mono ?_
      rintro e w6 ⟨v, code, rfl, hv⟩
      have hv0 := hv
      obtain ⟨outb, hob, -, -⟩ := hv0
      obtain ⟨rfl, pb, cb, rfl, hdb⟩ := hv.eq outb hob (by have := hob.len; omega)
      have HB6 := Lib.hid (HB5.out.trans (hv.below.mono HB5.out.size))
      have HRS6 := Lib.hid ((HRS5.out.below hv.below (Nat.le_refl _)).more hv.below.size)
      have HRC6 := Lib.hid ((HRC5.out.below hv.below (Nat.le_refl _)).more hv.below.size)
      have HM6 := Lib.hid ((HM5.out.below hv.below (Nat.le_refl _)).more hv.below.size)
      have HN6 := Lib.hid ((HN5.out.below hv.below (Nat.le_refl _)).more hv.below.size)
      have HDA6 := Lib.hid ((HDA5.out.below hv.below (Nat.le_refl _)).more hv.below.size)
      have HDB6 := Lib.hid hdb
      have hla : outa.length ≤ 100 := by have := HOA.out.len; omega
      have hgd : ∀ j, j < ord.length → ord[j]? = some (ord.getD j 0) := fun j hj => by rw [List.getD_eq_getElem?_getD, List.getElem?_eq_getElem hj]; rfl
      obtain ⟨hlab, hat⟩ := any_at HOA.out hob (any_pairs HOA.out hob (fun j => ord.getD j 0)
        (fun j hj => ⟨(HOM.out _).1 (List.mem_of_getElem? (hgd j hj)), by unfold lsF; rw [List.getD_eq_getElem?_getD, List.getElem?_map, hgd j hj]; rfl, by unfold csF; rw [List.getD_eq_getElem?_getD, List.getElem?_map, hgd j hj]; rfl⟩)
        (fun i hi => by
          obtain ⟨j, hj⟩ := List.mem_iff_getElem?.1 ((HOM.out i).2 hi)
          have hjl : j < ord.length := by
            rcases Nat.lt_or_ge j ord.length with g | g
            · exact g
            · rw [List.getElem?_eq_none g] at hj; cases hj
          exact ⟨j, hjl, by rw [List.getD_eq_getElem?_getD, hj]; rfl⟩))
      have HAT := Lib.hid hat
      have hlb1 : outb.length = outa.length := hlab.symm
      rw [hlb1] at HDB6
      rw [hlb1]
      have hl2 : (((outa.length : Nat) : Int) != (outa.length : Int)) = false := by simp
      clear hv hdb hob hat hgd hlab hlb1 HRS5 HRC5 HM5 HN5 HDA5 HB1 HB3 HB4 HB5
      generalize lsF (ord.map (lsF ls)) = M at HM6 HAT
      generalize csF (ord.map (csF cs)) = D at HN6 HAT
      go_wp2_with fail
      go_loopw [14] (fun i wr => ∃ k m : Nat, i = .int .i64 k ∧ k ≤ outa.length ∧ wr = w6.drewN m) (fun i _ => outa.length - (intOf i).toNat)
      case atStart => exact ⟨0, 0, rfl, Nat.zero_le _, by simp [World.drewN]⟩
      case round =>
        obtain ⟨i, mi, rfl, hi, rfl⟩ := hrel
        by_cases hin : i < outa.length
        · have hin' : (i : Int) < (outa.length : Int) := by omega
          obtain ⟨ba, oa, rfl, -, ga⟩ := HDA6.out i hin
          obtain ⟨bb, ob, rfl, -, gb⟩ := HDB6.out i hin
          obtain ⟨hxn, hyn, hLM, hCD⟩ := HAT.out i hin
          have ga2 : w6.cell? ⟨ba, oa + i, none⟩ = some (.int .i64 ((outa.getD i 0 : Nat) : Int)) := ga
          have gb2 : w6.cell? ⟨bb, ob + i, none⟩ = some (.int .i64 ((outb.getD i 0 : Nat) : Int)) := gb
          clear ga gb
          generalize outa.getD i 0 = x at ga2 hxn hLM hCD
          generalize outb.getD i 0 = y at gb2 hyn hLM hCD
          have hx1 : (x : Int) < (ls.length : Int) := by omega
          have hx0 : decide ((x : Int) < 0) = false := decide_eq_false (by omega)
          have hx2 : decide ((ls.length : Int) ≤ (x : Int)) = false := decide_eq_false (by omega)
          have hx3 : decide (ls.length ≤ x) = false := decide_eq_false (by omega)
          have hy1 : (y : Int) < (ord.length : Int) := by omega
          have hy0 : decide ((y : Int) < 0) = false := decide_eq_false (by omega)
          have hy2 : decide ((ord.length : Int) ≤ (y : Int)) = false := decide_eq_false (by omega)
          have hy3 : decide (ord.length ≤ y) = false := decide_eq_false (by omega)
          obtain ⟨bl, ol, rfl, -, g0, g1, g2⟩ := HRS6.out x hxn
          obtain ⟨bm, om, rfl, -, m0, m1, m2⟩ := HM6.out y hyn
          obtain ⟨bc, oc, rfl, -, gc⟩ := HRC6.out x hxn
          obtain ⟨bd, od, rfl, -, gd⟩ := HN6.out y hyn
          rw [← hLM] at m0 m1 m2
          rw [← hCD] at gd
          clear hLM hCD HAT HRS6 HM6 HRC6 HN6 HDA6 HDB6
          have hne : ∀ W, (binOp .neq 23 (.agg #[.int .i64 (lsF ls x).1, .int .i64 (lsF ls x).2.1, .int .i64 (lsF ls x).2.2]) (.agg #[.int .i64 (lsF ls x).1, .int .i64 (lsF ls x).2.1, .int .i64 (lsF ls x).2.2])).run Try.prog W = .ok (.bool false) W := fun W => by rw [neqSt, decide_eq_true rfl]; rfl
          go_wp2
          go_quiet (fail)
          go_wp2
          go_roundw
          case rel => exact ⟨i + 1, mi + nq, by go_num, by omega, by first | rfl | rw [World.drewN_drewN]⟩
          case measure => simp [intOf]; omega
        · go_wp2_with fail
          refine (awake_any _).mono ?_
          rintro e w8 ⟨rfl, hb8⟩
          have HB8 := Lib.hid (HB6.out.trans ((bTr (bDr (Below.refl _ _) mi) hb8).mono HB6.out.size))
          clear hb8
          go_wp2
          go_ret
          exact ⟨rfl, HB8.out⟩
end Go.Proofs.Ytdhjmnehjmoilaa
