/-
  The walk of the statement on Material.
-/
import Derived.Test.YtjciniffkdadaaaIMatM
import Derived.Test.YtjciniffkdadaaaHeldTail
namespace Go.Proofs.Ytjciniffkdadaaa
open Go.RowKit
set_option linter.unusedSimpArgs false
set_option linter.unusedVariables false

def BoxM (gs gt : Nat) (p q : IPtr) (x y : Itm) (W : World) : Prop :=
  (W.cell? ⟨gs, 0, none⟩ = some (.int .i64 x.id) ∧ W.cell? ⟨gs, 1, none⟩ = some (.int .i64 x.ver) ∧ W.cell? ⟨gs, 2, none⟩ = some (.string x.st) ∧ W.cell? ⟨gs, 3, none⟩ = some (.slice p.o1 x.nP p.c1) ∧ W.cell? ⟨gs, 4, none⟩ = some (.slice p.o2 x.nE p.c2)) ∧
  W.cell? ⟨gt, 0, none⟩ = some (.int .i64 y.id) ∧ W.cell? ⟨gt, 1, none⟩ = some (.int .i64 y.ver) ∧ W.cell? ⟨gt, 2, none⟩ = some (.string y.st) ∧ W.cell? ⟨gt, 3, none⟩ = some (.slice q.o1 y.nP q.c1) ∧ W.cell? ⟨gt, 4, none⟩ = some (.slice q.o2 y.nE q.c2)
theorem BoxM.of {gs gt : Nat} {p q : IPtr} {x y : Itm} {W : World} (h1 : Blk W gs 33 (itmC p x)) (h2 : Blk W gt 33 (itmC q y)) : BoxM gs gt p q x y W :=
  ⟨⟨h1.cell 0, h1.cell 1, h1.cell 2, h1.cell 3, h1.cell 4⟩, h2.cell 0, h2.cell 1, h2.cell 2, h2.cell 3, h2.cell 4⟩
def BoxG3 (gb : Nat) (v : Value) (W : World) : Prop := W.cell? ⟨gb, 3, none⟩ = some v
/-- while a part of the second item is being replaced -/
structure Ms (w4 w6 : World) (B g : Nat) (o : Option Addr) (n c : Nat) (z : Nat → Int) (gs gt Br : Nat) (ca cb : Array Value) (v : Value) (m : Nat) (P : Nat → Pt) (wr : World) : Prop where
  tp : Tp wr B g o n c z
  gx : w4.grownBy wr (some g)
  gy : w6.grownBy wr (some g)
  pa : Blk wr gs 33 ca
  pb : Blk wr gt 33 cb
  ro : wr.ownsRow Br 23 6 v m (pCells ((List.range m).map P))
  ls : g < gs ∧ g < gt ∧ gs ≠ gt ∧ gs < Br ∧ gt < Br ∧ w4.heap.size ≤ gs ∧ w4.heap.size ≤ gt ∧ w6.heap.size ≤ gt
theorem Ms.on {w4 w6 : World} {B g : Nat} {o : Option Addr} {n c : Nat} {z : Nat → Int} {gs gt Br : Nat} {ca cb : Array Value} {v : Value} {m : Nat} {P : Nat → Pt} {wr w2 : World} (h : Ms w4 w6 B g o n c z gs gt Br ca cb v m P wr) (hg : wr.grownBy w2 (some g)) (ht : Tp w2 B g o n c z) : Ms w4 w6 B g o n c z gs gt Br ca cb v m P w2 := by
  obtain ⟨l1, l2, l3, l4, l5, _⟩ := h.ls
  exact ⟨ht, gTr h.gx hg, gTr h.gy hg, h.pa.grown hg (fun e => by injection e; omega), h.pb.grown hg (fun e => by injection e; omega), h.ro.kept hg (.inr fun e => by have := (h.ro.lt g e).1; omega), h.ls⟩
set_option maxRecDepth 100000 in
set_option maxHeartbeats 6000000 in
theorem walkItemMaterial (o : Option Addr) (n c : Nat) (zs : List Int) (w : World) (h0 : IsRow .i64 w o n c zs) :
    Calls Try.prog 6 #[.slice o n c] w fun e w' => e = .returned (.bool true) ∧ Below w.heap.size w w' := by
  obtain ⟨j0, hj0, hy0, hy1, hy2⟩ := info_parts part_info
  obtain ⟨hr, h1, h2, h3⟩ := row_of h0
  go_enter Try.func6, Try.ntmps6
  go_wp2_with fail
  refine (tape_new hr h1 h2 h3).mono ?_
  rintro e w1 ⟨g, n9, rfl, ht1, hb1, hg⟩
  have T1 := Lib.hid ht1
  have HB1 := Lib.hid hb1
  have HG := Lib.hid hg
  clear ht1 hb1 hg hr h1 h2 h3
  go_wp2_with fail
  refine (item_any 4 1 1 (by omega) (by omega) (by omega) (by omega) T1.out).mono ?_
  rintro e w4 ⟨p, x, rfl, _, hS, ht4, hg4, hxn, hx2, hx3, hx4⟩
  have G4 := Lib.hid hg4
  have T4 := Lib.hid (ht4.alloc (.cells (itmC p x) 33))
  have HSX := Lib.hid hS
  have hgl4 := ht4.lt
  clear ht4 hg4 T1 hS hx2 hx3 hx4
  unfold itmC at T4 ⊢
  go_wp2_with fail
  refine (item_any 4 2 2 (by omega) (by omega) (by omega) (by omega) T4.out).mono ?_
  rintro e w6 ⟨q, y, rfl, _, hSY, ht6, hg6, hyn, hy2x, hy3x, hy4x⟩
  have G6 := Lib.hid (gTr (gAlc (gDr w4 0 _) _) hg6)
  have P6 := Lib.hid ((Blk.new w4 33 (itmC p x)).grown hg6 (fun e => by injection e; omega))
  have T7 := Lib.hid (ht6.alloc (.cells (itmC q y) 33))
  have HSY := Lib.hid hSY
  have G67 : Hid (w6.grownBy (w6.alloc (.cells (itmC q y) 33)) (some g)) := Lib.hid (gAlc (gDr w6 0 _) _)
  have hsz46 := G6.out.size
  have P7 := Lib.hid (P6.out.alloc (.cells (itmC q y) 33))
  have R7 := Lib.hid (Blk.new w6 33 (itmC q y))
  have hgl6 := ht6.lt
  have hgs := P6.out.lt
  clear hSY ht6 hg6 T4 P6 hy2x hy3x hy4x
  unfold itmC at T7 P7 R7 G67 ⊢
  go_wp2_with fail
  generalize w6.alloc _ = w7 at T7 P7 R7 G67 ⊢
  obtain ⟨gt, hgt⟩ : ∃ gt, w6.heap.size = gt := ⟨_, rfl⟩
  obtain ⟨gs, hgs'⟩ : ∃ gs, w4.heap.size = gs := ⟨_, rfl⟩
  rw [hgt] at R7 hgl6 hgs hsz46 ⊢
  rw [hgs'] at P7 hgl4 hgs hsz46 ⊢
  have HGT := Lib.hid hgt
  have HGS := Lib.hid hgs'
  clear hgt hgs'
  refine (tape_next 2 (by omega) (by omega) T7.out).mono ?_
  rintro e w8 ⟨v8, hv8, rfl, ht8, hg8⟩
  have T8 := Lib.hid ht8
  have GY8 := Lib.hid (gTr G67.out hg8)
  have P8 := Lib.hid (P7.out.grown hg8 (fun e => by injection e; omega))
  have R8 := Lib.hid (R7.out.grown hg8 (fun e => by injection e; omega))
  have GX8 := Lib.hid (gTr G6.out GY8.out)
  have HB8 := Lib.hid (HB1.out.trans (bGr (gTr G4.out GX8.out) HG.out HB1.out.size))
  clear ht8 hg8 T7 G67 P7 R7 hv8
  have z3 := P8.out.cell 3
  by_cases hv : v8 = 0
  · have hv' : (v8 == 0) = true := by rw [hv]; rfl
    clear hv
    by_cases hnp : x.nP = 0
    · have hnp' : ¬ (0 : Int) < (x.nP : Int) := by omega
      have hnp2 : ¬ 0 < x.nP := by omega
      have HX8 := Lib.hid (HSX.out w8 GX8.out)
      have HY8 := Lib.hid (HSY.out w8 GY8.out)
      clear hnp
      go_wp2_with fail
      clear z3
      obtain ⟨w100, hw100⟩ : ∃ w', w8.drew = w' := ⟨_, rfl⟩
      have hd := bD1 (Below.refl w8.heap.size w8)
      rw [hw100] at hd
      have HX100 := Lib.hid (HX8.out.later hd)
      have HY100 := Lib.hid (HY8.out.later hd)
      have Pa100 := Lib.hid (P8.out.later hd)
      have Pb100 := Lib.hid (R8.out.later hd)
      have HB100 := Lib.hid (bTr HB8.out hd)
      clear HX8 HY8 P8 R8 HB8 hd
      have F1 := Lib.hid (fun W (h1 : ItmIn W W.heap.size p x) (h2 : ItmIn W W.heap.size q y) => mat_any p q x y W h1 h2 (by omega) (by omega))
      have F2 := Lib.hid (fun W (h1 : ItmIn W W.heap.size p x) (h2 : ItmIn W W.heap.size q y) => rmat_any p q x y W h1 h2 (by omega) (by omega))
      have F3 := Lib.hid (fun W (h1 : ItmIn W W.heap.size p x) (h2 : ItmIn W W.heap.size q y) => mat_any q p y x W h2 h1 (by omega) (by omega))
      have F4 := Lib.hid (fun W (h1 : ItmIn W W.heap.size p x) => mat_any p p x x W h1 h1 (by omega) (by omega))
      have hll := matL_len x y (by omega) (by omega)
      rw [matL_comm y x] at F3
      rw [matL_self x] at F4
      generalize matL x y = l at F1 F2 F3 hll
      unfold itmC at F1 F2 F3 F4
      have hH : BoxM gs gt p q x y w100 := BoxM.of Pa100.out Pb100.out
      refine wp_region_held_tail (BoxM gs gt p q x y) 26 (by kernel_rfl) (by kernel_rfl) ?_
      simp only [List.drop_succ_cons, List.drop_zero]
      rw [hw100]
      refine HeadW.take (i := 0) (oi := ?oi1) (v := ?v1) ?hi1 (by kernel_rfl) ?hQ1 (Or.inl ⟨?hg1, ?hy1⟩) hH ?rest1
      case hi1 => simp only [List.getElem?_toArray, List.getElem?_cons_succ, List.getElem?_cons_zero] <;> rfl
      case hQ1 => exact fun _ _ _ h => h
      case hg1 => rfl
      case hy1 => intro W hSw; obtain ⟨⟨s0, s1, s2, s3, s4⟩, t0, t1, t2, t3, t4⟩ := hSw; go_simp; try with_reducible rfl
      case rest1 =>
      try simp only [Act.put, List.setIfInBounds_toArray, List.set_cons_zero, List.set_cons_succ]
      refine HeadW.take (i := 1) (oi := ?oi2) (v := ?v2) ?hi2 (by kernel_rfl) ?hQ2 (Or.inl ⟨?hg2, ?hy2⟩) hH ?rest2
      case hi2 => simp only [List.getElem?_toArray, List.getElem?_cons_succ, List.getElem?_cons_zero] <;> rfl
      case hQ2 => exact fun _ _ _ h => h
      case hg2 => rfl
      case hy2 => intro W hSw; obtain ⟨⟨s0, s1, s2, s3, s4⟩, t0, t1, t2, t3, t4⟩ := hSw; go_simp; try with_reducible rfl
      case rest2 =>
      try simp only [Act.put, List.setIfInBounds_toArray, List.set_cons_zero, List.set_cons_succ]
      refine HeadW.take (i := 3) (oi := ?oi3) (v := ?v3) ?hi3 (by kernel_rfl) ?hQ3 (Or.inl ⟨?hg3, ?hy3⟩) hH ?rest3
      case hi3 => simp only [List.getElem?_toArray, List.getElem?_cons_succ, List.getElem?_cons_zero] <;> rfl
      case hQ3 => exact fun _ _ _ h => h
      case hg3 => rfl
      case hy3 => intro W hSw; obtain ⟨⟨s0, s1, s2, s3, s4⟩, t0, t1, t2, t3, t4⟩ := hSw; go_simp; try with_reducible rfl
      case rest3 =>
      try simp only [Act.put, List.setIfInBounds_toArray, List.set_cons_zero, List.set_cons_succ]
      refine HeadW.take (i := 4) (oi := ?oi4) (v := ?v4) ?hi4 (by kernel_rfl) ?hQ4 (Or.inl ⟨?hg4, ?hy4⟩) hH ?rest4
      case hi4 => simp only [List.getElem?_toArray, List.getElem?_cons_succ, List.getElem?_cons_zero] <;> rfl
      case hQ4 => exact fun _ _ _ h => h
      case hg4 => rfl
      case hy4 => intro W hSw; obtain ⟨⟨s0, s1, s2, s3, s4⟩, t0, t1, t2, t3, t4⟩ := hSw; go_simp; try with_reducible rfl
      case rest4 =>
      try simp only [Act.put, List.setIfInBounds_toArray, List.set_cons_zero, List.set_cons_succ]
      refine HeadW.one (i := 2) (o := ?oi5) ?hi5 (by kernel_rfl) ?st5
      case hi5 => simp only [List.getElem?_toArray, List.getElem?_cons_succ, List.getElem?_cons_zero] <;> rfl
      case st5 =>
      intro K hK
      go_simp
      go_at_call 25
      refine (F1.out _ HX100.out HY100.out).mono ?_
      rintro e w101 ⟨v101, rfl, hv, hb⟩
      obtain ⟨o101, c101, rfl, _, _, hrow⟩ := hv.row
      have R101 := Lib.hid hrow
      clear hv hrow
      have HX101 := Lib.hid (HX100.out.later hb)
      have HY101 := Lib.hid (HY100.out.later hb)
      have Pa101 := Lib.hid (Pa100.out.later hb)
      have Pb101 := Lib.hid (Pb100.out.later hb)
      have HB101 := Lib.hid (bTr HB100.out hb)
      clear hb HX100 HY100 HB100 Pa100 Pb100 hH
      have hH : BoxM gs gt p q x y w101 := BoxM.of Pa101.out Pb101.out
      try dsimp only
      refine hK.out _ _ hH ?_
      clear hK K
      try simp only [Act.put, List.setIfInBounds_toArray, List.set_cons_zero, List.set_cons_succ]
      refine HeadW.one (i := 5) (o := ?oi6) ?hi6 (by kernel_rfl) ?st6
      case hi6 => simp only [List.getElem?_toArray, List.getElem?_cons_succ, List.getElem?_cons_zero] <;> rfl
      case st6 =>
      intro K hK
      go_simp
      go_at_call 26
      refine (F2.out _ HX101.out HY101.out).mono ?_
      rintro e w102 ⟨v102, rfl, hv, hb⟩
      obtain ⟨o102, c102, rfl, _, _, hrow⟩ := hv.row
      have R102 := Lib.hid hrow
      clear hv hrow
      have R101k := Lib.hid (R101.out.later hb)
      have HX102 := Lib.hid (HX101.out.later hb)
      have HY102 := Lib.hid (HY101.out.later hb)
      have Pa102 := Lib.hid (Pa101.out.later hb)
      have Pb102 := Lib.hid (Pb101.out.later hb)
      have HB102 := Lib.hid (bTr HB101.out hb)
      clear hb HX101 HY101 HB101 Pa101 Pb101 hH
      have hH : BoxM gs gt p q x y w102 := BoxM.of Pa102.out Pb102.out
      try dsimp only
      refine hK.out _ _ hH ?_
      clear hK K
      try simp only [Act.put, List.setIfInBounds_toArray, List.set_cons_zero, List.set_cons_succ]
      refine HeadW.one (i := 6) (o := ?oi7) ?hi7 (by kernel_rfl) ?st7
      case hi7 => simp only [List.getElem?_toArray, List.getElem?_cons_succ, List.getElem?_cons_zero] <;> rfl
      case st7 =>
      intro K hK
      go_simp
      go_at_call 24
      refine (ints_true o101 o102 l.length c101 c102 _ _ w102 R101k.out R102.out (by omega) (fun i hi => rfl)).mono ?_
      rintro e w103 ⟨rfl, hb⟩
      have HX103 := Lib.hid (HX102.out.later hb)
      have HY103 := Lib.hid (HY102.out.later hb)
      have Pa103 := Lib.hid (Pa102.out.later hb)
      have Pb103 := Lib.hid (Pb102.out.later hb)
      have HB103 := Lib.hid (bTr HB102.out hb)
      clear hb HX102 HY102 HB102 Pa102 Pb102 hH
      have hH : BoxM gs gt p q x y w103 := BoxM.of Pa103.out Pb103.out
      try dsimp only
      refine hK.out _ _ hH ?_
      clear hK K
      try simp only [Act.put, List.setIfInBounds_toArray, List.set_cons_zero, List.set_cons_succ]
      refine HeadW.take (i := 7) (oi := ?oi8) (v := ?v8) ?hi8 (by kernel_rfl) ?hQ8 (Or.inl ⟨?hg8, ?hy8⟩) hH ?rest8
      case hi8 => simp only [List.getElem?_toArray, List.getElem?_cons_succ, List.getElem?_cons_zero] <;> rfl
      case hQ8 => exact fun _ _ _ h => h
      case hg8 => rfl
      case hy8 => intro W hSw; obtain ⟨⟨s0, s1, s2, s3, s4⟩, t0, t1, t2, t3, t4⟩ := hSw; go_simp; try with_reducible rfl
      case rest8 =>
      try simp only [Act.put, List.setIfInBounds_toArray, List.set_cons_zero, List.set_cons_succ]
      refine HeadW.take (i := 8) (oi := ?oi9) (v := ?v9) ?hi9 (by kernel_rfl) ?hQ9 (Or.inl ⟨?hg9, ?hy9⟩) hH ?rest9
      case hi9 => simp only [List.getElem?_toArray, List.getElem?_cons_succ, List.getElem?_cons_zero] <;> rfl
      case hQ9 => exact fun _ _ _ h => h
      case hg9 => rfl
      case hy9 => intro W hSw; obtain ⟨⟨s0, s1, s2, s3, s4⟩, t0, t1, t2, t3, t4⟩ := hSw; go_simp; try with_reducible rfl
      case rest9 =>
      try simp only [Act.put, List.setIfInBounds_toArray, List.set_cons_zero, List.set_cons_succ]
      refine HeadW.take (i := 9) (oi := ?oi10) (v := ?v10) ?hi10 (by kernel_rfl) ?hQ10 (Or.inl ⟨?hg10, ?hy10⟩) hH ?rest10
      case hi10 => simp only [List.getElem?_toArray, List.getElem?_cons_succ, List.getElem?_cons_zero] <;> rfl
      case hQ10 => exact fun _ _ _ h => h
      case hg10 => rfl
      case hy10 => intro W hSw; obtain ⟨⟨s0, s1, s2, s3, s4⟩, t0, t1, t2, t3, t4⟩ := hSw; go_simp; try with_reducible rfl
      case rest10 =>
      try simp only [Act.put, List.setIfInBounds_toArray, List.set_cons_zero, List.set_cons_succ]
      refine HeadW.take (i := 11) (oi := ?oi11) (v := ?v11) ?hi11 (by kernel_rfl) ?hQ11 (Or.inl ⟨?hg11, ?hy11⟩) hH ?rest11
      case hi11 => simp only [List.getElem?_toArray, List.getElem?_cons_succ, List.getElem?_cons_zero] <;> rfl
      case hQ11 => exact fun _ _ _ h => h
      case hg11 => rfl
      case hy11 => intro W hSw; obtain ⟨⟨s0, s1, s2, s3, s4⟩, t0, t1, t2, t3, t4⟩ := hSw; go_simp; try with_reducible rfl
      case rest11 =>
      try simp only [Act.put, List.setIfInBounds_toArray, List.set_cons_zero, List.set_cons_succ]
      refine HeadW.take (i := 12) (oi := ?oi12) (v := ?v12) ?hi12 (by kernel_rfl) ?hQ12 (Or.inl ⟨?hg12, ?hy12⟩) hH ?rest12
      case hi12 => simp only [List.getElem?_toArray, List.getElem?_cons_succ, List.getElem?_cons_zero] <;> rfl
      case hQ12 => exact fun _ _ _ h => h
      case hg12 => rfl
      case hy12 => intro W hSw; obtain ⟨⟨s0, s1, s2, s3, s4⟩, t0, t1, t2, t3, t4⟩ := hSw; go_simp; try with_reducible rfl
      case rest12 =>
      try simp only [Act.put, List.setIfInBounds_toArray, List.set_cons_zero, List.set_cons_succ]
      refine HeadW.one (i := 10) (o := ?oi13) ?hi13 (by kernel_rfl) ?st13
      case hi13 => simp only [List.getElem?_toArray, List.getElem?_cons_succ, List.getElem?_cons_zero] <;> rfl
      case st13 =>
      intro K hK
      go_simp
      go_at_call 25
      refine (F1.out _ HX103.out HY103.out).mono ?_
      rintro e w104 ⟨v104, rfl, hv, hb⟩
      obtain ⟨o104, c104, rfl, _, _, hrow⟩ := hv.row
      have R104 := Lib.hid hrow
      clear hv hrow
      have HX104 := Lib.hid (HX103.out.later hb)
      have HY104 := Lib.hid (HY103.out.later hb)
      have Pa104 := Lib.hid (Pa103.out.later hb)
      have Pb104 := Lib.hid (Pb103.out.later hb)
      have HB104 := Lib.hid (bTr HB103.out hb)
      clear hb HX103 HY103 HB103 Pa103 Pb103 hH
      have hH : BoxM gs gt p q x y w104 := BoxM.of Pa104.out Pb104.out
      try dsimp only
      refine hK.out _ _ hH ?_
      clear hK K
      try simp only [Act.put, List.setIfInBounds_toArray, List.set_cons_zero, List.set_cons_succ]
      refine HeadW.one (i := 13) (o := ?oi14) ?hi14 (by kernel_rfl) ?st14
      case hi14 => simp only [List.getElem?_toArray, List.getElem?_cons_succ, List.getElem?_cons_zero] <;> rfl
      case st14 =>
      intro K hK
      go_simp
      go_at_call 25
      refine (F3.out _ HX104.out HY104.out).mono ?_
      rintro e w105 ⟨v105, rfl, hv, hb⟩
      obtain ⟨o105, c105, rfl, _, _, hrow⟩ := hv.row
      have R105 := Lib.hid hrow
      clear hv hrow
      have R104k := Lib.hid (R104.out.later hb)
      have HX105 := Lib.hid (HX104.out.later hb)
      have HY105 := Lib.hid (HY104.out.later hb)
      have Pa105 := Lib.hid (Pa104.out.later hb)
      have Pb105 := Lib.hid (Pb104.out.later hb)
      have HB105 := Lib.hid (bTr HB104.out hb)
      clear hb HX104 HY104 HB104 Pa104 Pb104 hH
      have hH : BoxM gs gt p q x y w105 := BoxM.of Pa105.out Pb105.out
      try dsimp only
      refine hK.out _ _ hH ?_
      clear hK K
      try simp only [Act.put, List.setIfInBounds_toArray, List.set_cons_zero, List.set_cons_succ]
      refine HeadW.one (i := 14) (o := ?oi15) ?hi15 (by kernel_rfl) ?st15
      case hi15 => simp only [List.getElem?_toArray, List.getElem?_cons_succ, List.getElem?_cons_zero] <;> rfl
      case st15 =>
      intro K hK
      go_simp
      go_at_call 24
      refine (ints_true o104 o105 l.length c104 c105 _ _ w105 R104k.out R105.out (by omega) (fun i hi => rfl)).mono ?_
      rintro e w106 ⟨rfl, hb⟩
      have HX106 := Lib.hid (HX105.out.later hb)
      have HY106 := Lib.hid (HY105.out.later hb)
      have Pa106 := Lib.hid (Pa105.out.later hb)
      have Pb106 := Lib.hid (Pb105.out.later hb)
      have HB106 := Lib.hid (bTr HB105.out hb)
      clear hb HX105 HY105 HB105 Pa105 Pb105 hH
      have hH : BoxM gs gt p q x y w106 := BoxM.of Pa106.out Pb106.out
      try dsimp only
      refine hK.out _ _ hH ?_
      clear hK K
      try simp only [Act.put, List.setIfInBounds_toArray, List.set_cons_zero, List.set_cons_succ]
      refine HeadW.take (i := 15) (oi := ?oi16) (v := ?v16) ?hi16 (by kernel_rfl) ?hQ16 (Or.inl ⟨?hg16, ?hy16⟩) hH ?rest16
      case hi16 => simp only [List.getElem?_toArray, List.getElem?_cons_succ, List.getElem?_cons_zero] <;> rfl
      case hQ16 => exact fun _ _ _ h => h
      case hg16 => rfl
      case hy16 => intro W hSw; obtain ⟨⟨s0, s1, s2, s3, s4⟩, t0, t1, t2, t3, t4⟩ := hSw; go_simp; try with_reducible rfl
      case rest16 =>
      try simp only [Act.put, List.setIfInBounds_toArray, List.set_cons_zero, List.set_cons_succ]
      refine HeadW.take (i := 16) (oi := ?oi17) (v := ?v17) ?hi17 (by kernel_rfl) ?hQ17 (Or.inl ⟨?hg17, ?hy17⟩) hH ?rest17
      case hi17 => simp only [List.getElem?_toArray, List.getElem?_cons_succ, List.getElem?_cons_zero] <;> rfl
      case hQ17 => exact fun _ _ _ h => h
      case hg17 => rfl
      case hy17 => intro W hSw; obtain ⟨⟨s0, s1, s2, s3, s4⟩, t0, t1, t2, t3, t4⟩ := hSw; go_simp; try with_reducible rfl
      case rest17 =>
      try simp only [Act.put, List.setIfInBounds_toArray, List.set_cons_zero, List.set_cons_succ]
      refine HeadW.take (i := 17) (oi := ?oi18) (v := ?v18) ?hi18 (by kernel_rfl) ?hQ18 (Or.inl ⟨?hg18, ?hy18⟩) hH ?rest18
      case hi18 => simp only [List.getElem?_toArray, List.getElem?_cons_succ, List.getElem?_cons_zero] <;> rfl
      case hQ18 => exact fun _ _ _ h => h
      case hg18 => rfl
      case hy18 => intro W hSw; obtain ⟨⟨s0, s1, s2, s3, s4⟩, t0, t1, t2, t3, t4⟩ := hSw; go_simp; try with_reducible rfl
      case rest18 =>
      try simp only [Act.put, List.setIfInBounds_toArray, List.set_cons_zero, List.set_cons_succ]
      refine HeadW.take (i := 18) (oi := ?oi19) (v := ?v19) ?hi19 (by kernel_rfl) ?hQ19 (Or.inl ⟨?hg19, ?hy19⟩) hH ?rest19
      case hi19 => simp only [List.getElem?_toArray, List.getElem?_cons_succ, List.getElem?_cons_zero] <;> rfl
      case hQ19 => exact fun _ _ _ h => h
      case hg19 => rfl
      case hy19 => intro W hSw; obtain ⟨⟨s0, s1, s2, s3, s4⟩, t0, t1, t2, t3, t4⟩ := hSw; go_simp; try with_reducible rfl
      case rest19 =>
      try simp only [Act.put, List.setIfInBounds_toArray, List.set_cons_zero, List.set_cons_succ]
      refine HeadW.one (i := 19) (o := ?oi20) ?hi20 (by kernel_rfl) ?st20
      case hi20 => simp only [List.getElem?_toArray, List.getElem?_cons_succ, List.getElem?_cons_zero] <;> rfl
      case st20 =>
      intro K hK
      go_simp
      go_at_call 25
      refine (F4.out _ HX106.out).mono ?_
      rintro e w107 ⟨v107, rfl, hv, hb⟩
      obtain ⟨o107, c107, rfl, _, _, hrow⟩ := hv.row
      have R107 := Lib.hid hrow
      clear hv hrow
      have HX107 := Lib.hid (HX106.out.later hb)
      have HY107 := Lib.hid (HY106.out.later hb)
      have Pa107 := Lib.hid (Pa106.out.later hb)
      have Pb107 := Lib.hid (Pb106.out.later hb)
      have HB107 := Lib.hid (bTr HB106.out hb)
      clear hb HX106 HY106 HB106 Pa106 Pb106 hH
      have hH : BoxM gs gt p q x y w107 := BoxM.of Pa107.out Pb107.out
      try dsimp only
      refine hK.out _ _ hH ?_
      clear hK K
      try simp only [Act.put, List.setIfInBounds_toArray, List.set_cons_zero, List.set_cons_succ]
      refine HeadW.one (i := 20) (o := ?oi21) ?hi21 (by kernel_rfl) ?st21
      case hi21 => simp only [List.getElem?_toArray, List.getElem?_cons_succ, List.getElem?_cons_zero] <;> rfl
      case st21 =>
      intro K hK
      go_simp
      try dsimp only
      refine hK.out _ _ hH ?_
      clear hK K
      try simp only [Act.put, List.setIfInBounds_toArray, List.set_cons_zero, List.set_cons_succ]
      refine HeadW.take (i := 21) (oi := ?oi22) (v := ?v22) ?hi22 (by kernel_rfl) ?hQ22 (Or.inl ⟨?hg22, ?hy22⟩) hH ?rest22
      case hi22 => simp only [List.getElem?_toArray, List.getElem?_cons_succ, List.getElem?_cons_zero] <;> rfl
      case hQ22 => exact fun _ _ _ h => h
      case hg22 => rfl
      case hy22 => intro W hSw; obtain ⟨⟨s0, s1, s2, s3, s4⟩, t0, t1, t2, t3, t4⟩ := hSw; go_simp; try with_reducible rfl
      case rest22 =>
      try simp only [Act.put, List.setIfInBounds_toArray, List.set_cons_zero, List.set_cons_succ]
      refine HeadW.take (i := 22) (oi := ?oi23) (v := ?v23) ?hi23 (by kernel_rfl) ?hQ23 (Or.inl ⟨?hg23, ?hy23⟩) hH ?rest23
      case hi23 => simp only [List.getElem?_toArray, List.getElem?_cons_succ, List.getElem?_cons_zero] <;> rfl
      case hQ23 => exact fun _ _ _ h => h
      case hg23 => rfl
      case hy23 => intro W hSw; obtain ⟨⟨s0, s1, s2, s3, s4⟩, t0, t1, t2, t3, t4⟩ := hSw; go_simp; try with_reducible rfl
      case rest23 =>
      try simp only [Act.put, List.setIfInBounds_toArray, List.set_cons_zero, List.set_cons_succ]
      refine HeadW.take (i := 23) (oi := ?oi24) (v := ?v24) ?hi24 (by kernel_rfl) ?hQ24 (Or.inl ⟨?hg24, ?hy24⟩) hH ?rest24
      case hi24 => simp only [List.getElem?_toArray, List.getElem?_cons_succ, List.getElem?_cons_zero] <;> rfl
      case hQ24 => exact fun _ _ _ h => h
      case hg24 => rfl
      case hy24 => intro W hSw; obtain ⟨⟨s0, s1, s2, s3, s4⟩, t0, t1, t2, t3, t4⟩ := hSw; go_simp; try with_reducible rfl
      case rest24 =>
      try simp only [Act.put, List.setIfInBounds_toArray, List.set_cons_zero, List.set_cons_succ]
      refine HeadW.one (i := 24) (o := ?oi25) ?hi25 (by kernel_rfl) ?st25
      case hi25 => simp only [List.getElem?_toArray, List.getElem?_cons_succ, List.getElem?_cons_zero] <;> rfl
      case st25 =>
      intro K hK
      go_simp
      go_at_call 14
      refine (awake_any _).mono ?_
      rintro e w108 ⟨rfl, hb⟩
      have HX108 := Lib.hid (HX107.out.later hb)
      have HY108 := Lib.hid (HY107.out.later hb)
      have Pa108 := Lib.hid (Pa107.out.later hb)
      have Pb108 := Lib.hid (Pb107.out.later hb)
      have HB108 := Lib.hid (bTr HB107.out hb)
      clear hb HX107 HY107 HB107 Pa107 Pb107 hH
      have hH : BoxM gs gt p q x y w108 := BoxM.of Pa108.out Pb108.out
      try dsimp only
      refine hK.out _ _ hH ?_
      clear hK K
      try simp only [Act.put, List.setIfInBounds_toArray, List.set_cons_zero, List.set_cons_succ]
      refine HeadW.take (i := 25) (oi := ?oi26) (v := ?v26) ?hi26 (by kernel_rfl) ?hQ26 (Or.inl ⟨?hg26, ?hy26⟩) hH ?rest26
      case hi26 => simp only [List.getElem?_toArray, List.getElem?_cons_succ, List.getElem?_cons_zero] <;> rfl
      case hQ26 => exact fun _ _ _ h => h
      case hg26 => rfl
      case hy26 => intro W hSw; obtain ⟨⟨s0, s1, s2, s3, s4⟩, t0, t1, t2, t3, t4⟩ := hSw; go_simp; try with_reducible rfl
      case rest26 =>
      try simp only [Act.put, List.setIfInBounds_toArray, List.set_cons_zero, List.set_cons_succ]
      refine HeadW.done (by kernel_rfl) ?_
      go_wp2_with fail
      go_ret
      exact ⟨rfl, HB108.out⟩
    · have hnp' : (0 : Int) < (x.nP : Int) := by omega
      have hnp2 : 0 < x.nP := by omega
      clear hnp
      have S9 := Lib.hid (World.ownsRow_made (base := w8.heap.size) (e := 23) (size := 6) w8 #[] 0 (Nat.le_refl _) (by unfold maxLen; omega) rfl)
      obtain ⟨bx, fx, hox, hbx, _⟩ := (HSX.out w8 GX8.out).t 0 hnp2
      have hrowx := rowP_news (w := w8.alloc (.cells #[] 23)) (b := bx) (off := fx) (n := x.nP) (P := x.P) (by rw [← hox]; exact ((HSX.out w8 GX8.out).t.later (bAl (Below.refl _ _) _)))
      have HROW := Lib.hid hrowx
      clear hrowx
      rw [hox] at z3
      clear hox
      have hpl : (pCells ((List.range x.nP).map x.P)).length = x.nP * 6 := by rw [pCells_len]; simp
      have hsz8 := GY8.out.size
      have hgt8 := R8.out.lt
      have hgs8 := P8.out.lt
      have y3 := R8.out.cell 3
      have yf := R8.out.frozen 3
      have HPL := Lib.hid hpl
      have HML := Lib.hid (show 0 + x.nP ≤ maxLen ∧ (0 + x.nP) * 48 ≤ 140737488355328 from ⟨by unfold maxLen; omega, by omega⟩)
      clear hpl
      go_wp2_with (at_builtin; refine wpList_append_own_at _ rfl (.tmp 21) (.tmp 23) 31 rfl w8.heap.size 23 j0 (.agg #[.int .i64 0, .int .i64 0, .int .i64 0, .int .i64 0, .int .i64 0, .int .i64 0]) 6 48 Try.underlying31 hj0 hy0 hy1 hy2 rfl (by decide) _ _ _ rfl S9.out ⟨bx, fx, none⟩ x.nP p.c1 (pCells ((List.range x.nP).map x.P)) ?cx HPL.out ?c1 ?c2 HML.out.1 HML.out.2 (by simp) ?_; (case cx => rfl); (case c1 => exact HROW.out); (case c2 => exact parts_one _); intro v6 w9 hown6 hgrow6 hnil6 hat6; rw [Nat.zero_add, List.nil_append] at hown6; obtain ⟨gq, q5, rfl, hgq⟩ : ∃ gq q5, v6 = .slice (some ⟨gq, 0, none⟩) x.nP q5 ∧ w8.heap.size ≤ gq := (by rcases hown6.2 with ⟨_, h⟩ | ⟨gq, q5, _, h, h', _⟩; exact absurd h (by omega); exact ⟨gq, q5, h, h'⟩); have HOW := Lib.hid (And.intro hown6 hgrow6); have RB9 := Lib.hid ((R8.out.alloc _).grown hgrow6 (fun e => by have e' : some gt = some w8.heap.size := e; injection e'; omega)); clear hown6 hgrow6 hnil6 hat6 y3 yf hgt8; have y3 := RB9.out.cell 3; have yf := RB9.out.frozen 3; have hgt9 := RB9.out.lt)
      have M10 : Hid (Ms w4 w6 w.heap.size g o n9 c (fun i => zs.getD i 0) gs gt w8.heap.size (itmC p x) #[.int .i64 y.id, .int .i64 y.ver, .string y.st, (.slice (some ⟨gq, 0, none⟩) x.nP q5), .slice q.o2 y.nE q.c2] (.slice (some ⟨gq, 0, none⟩) x.nP q5) x.nP x.P (w9.setCell ⟨gt, 3, none⟩ (.slice (some ⟨gq, 0, none⟩) x.nP q5))) := Lib.hid (by
        have hown6 := HOW.out.1
        have hg6 := HOW.out.2
        have h1 := HGT.out
        have h2 := HGS.out
        have h3 := R8.out.lt
        have h4 := P8.out.lt
        have hgr : ∀ k, (Value.slice (some ⟨w8.heap.size, 0, none⟩) 0 0).ownBlock = some k → w8.heap.size = k := fun k hk => by have hk' : some w8.heap.size = some k := hk; injection hk'
        refine ⟨(Tp.grow (T8.out.alloc _) hg6 (fun k hk => by have := hgr k hk; omega)).setFar (by show g < gt; omega) _, gNew (gRow (gAlc GX8.out _) hg6 (fun k hk => by have := hgr k hk; omega)) (by show _ ≤ gt; omega) _, gNew (gRow (gAlc GY8.out _) hg6 (fun k hk => by have := hgr k hk; omega)) (by show _ ≤ gt; omega) _, ((P8.out.alloc _).grown hg6 (fun e => by have := hgr _ e.symm; omega)).off (by omega) _, ?_, ownsRow_setCell_below hown6 (by show gt < _; omega) _, by omega⟩
        have h := RB9.out.set_ 3 (.slice (some ⟨gq, 0, none⟩) x.nP q5)
        unfold itmC at h
        simpa using h)
      clear HOW RB9 S9 HROW y3 yf z3 hgt9 hgs8 T8 R8 P8 GX8 GY8 HB8
      generalize w9.setCell _ _ = w10 at M10 ⊢
      have T10 := Lib.hid M10.out.tp
      have hH : BoxG3 gt (.slice (some ⟨gq, 0, none⟩) x.nP q5) w10.drew := M10.out.pb.cell 3
      refine wp_region_held_tail (BoxG3 gt (.slice (some ⟨gq, 0, none⟩) x.nP q5)) 10 (by kernel_rfl) (by kernel_rfl) ?_
      simp only [List.drop_succ_cons, List.drop_zero]
      refine HeadW.take (i := 0) (oi := ?oi27) (v := ?v27) ?hi27 (by kernel_rfl) ?hQ27 (Or.inl ⟨?hg27, ?hy27⟩) hH ?rest27
      case hi27 => simp only [List.getElem?_toArray, List.getElem?_cons_succ, List.getElem?_cons_zero] <;> rfl
      case hQ27 => exact fun _ _ _ h => h
      case hg27 => rfl
      case hy27 => intro W hSw; have s1 := hSw; unfold BoxG3 at s1; go_simp; try with_reducible rfl
      case rest27 =>
      try simp only [Act.put, List.setIfInBounds_toArray, List.set_cons_zero, List.set_cons_succ]
      refine HeadW.take (i := 1) (oi := ?oi28) (v := ?v28) ?hi28 (by kernel_rfl) ?hQ28 (Or.inl ⟨?hg28, ?hy28⟩) hH ?rest28
      case hi28 => simp only [List.getElem?_toArray, List.getElem?_cons_succ, List.getElem?_cons_zero] <;> rfl
      case hQ28 => exact fun _ _ _ h => h
      case hg28 => rfl
      case hy28 => intro W hSw; have s1 := hSw; unfold BoxG3 at s1; go_simp; try with_reducible rfl
      case rest28 =>
      try simp only [Act.put, List.setIfInBounds_toArray, List.set_cons_zero, List.set_cons_succ]
      refine HeadW.take (i := 2) (oi := ?oi29) (v := ?v29) ?hi29 (by kernel_rfl) ?hQ29 (Or.inl ⟨?hg29, ?hy29⟩) hH ?rest29
      case hi29 => simp only [List.getElem?_toArray, List.getElem?_cons_succ, List.getElem?_cons_zero] <;> rfl
      case hQ29 => exact fun _ _ _ h => h
      case hg29 => rfl
      case hy29 => intro W hSw; have s1 := hSw; unfold BoxG3 at s1; go_simp; try with_reducible rfl
      case rest29 =>
      try simp only [Act.put, List.setIfInBounds_toArray, List.set_cons_zero, List.set_cons_succ]
      refine HeadW.take (i := 3) (oi := ?oi30) (v := ?v30) ?hi30 (by kernel_rfl) ?hQ30 (Or.inl ⟨?hg30, ?hy30⟩) hH ?rest30
      case hi30 => simp only [List.getElem?_toArray, List.getElem?_cons_succ, List.getElem?_cons_zero] <;> rfl
      case hQ30 => exact fun _ _ _ h => h
      case hg30 => rfl
      case hy30 => intro W hSw; have s1 := hSw; unfold BoxG3 at s1; go_simp; try with_reducible rfl
      case rest30 =>
      try simp only [Act.put, List.setIfInBounds_toArray, List.set_cons_zero, List.set_cons_succ]
      refine HeadW.take (i := 4) (oi := ?oi31) (v := ?v31) ?hi31 (by kernel_rfl) ?hQ31 (Or.inl ⟨?hg31, ?hy31⟩) hH ?rest31
      case hi31 => simp only [List.getElem?_toArray, List.getElem?_cons_succ, List.getElem?_cons_zero] <;> rfl
      case hQ31 => exact fun _ _ _ h => h
      case hg31 => rfl
      case hy31 => intro W hSw; have s1 := hSw; unfold BoxG3 at s1; go_simp; try with_reducible rfl
      case rest31 =>
      try simp only [Act.put, List.setIfInBounds_toArray, List.set_cons_zero, List.set_cons_succ]
      refine HeadW.take (i := 7) (oi := ?oi32) (v := ?v32) ?hi32 (by kernel_rfl) ?hQ32 (Or.inl ⟨?hg32, ?hy32⟩) hH ?rest32
      case hi32 => simp only [List.getElem?_toArray, List.getElem?_cons_succ, List.getElem?_cons_zero] <;> rfl
      case hQ32 => exact fun _ _ _ h => h
      case hg32 => rfl
      case hy32 => intro W hSw; have s1 := hSw; unfold BoxG3 at s1; go_simp; try with_reducible rfl
      case rest32 =>
      try simp only [Act.put, List.setIfInBounds_toArray, List.set_cons_zero, List.set_cons_succ]
      refine HeadW.one (i := 5) (o := ?oi33) ?hi33 (by kernel_rfl) ?st33
      case hi33 => simp only [List.getElem?_toArray, List.getElem?_cons_succ, List.getElem?_cons_zero] <;> rfl
      case st33 =>
      intro K hK
      go_simp
      try dsimp only
      refine hK.out _ _ hH ?_
      clear hK K
      try simp only [Act.put, List.setIfInBounds_toArray, List.set_cons_zero, List.set_cons_succ]
      refine HeadW.one (i := 6) (o := ?oi34) ?hi34 (by kernel_rfl) ?st34
      case hi34 => simp only [List.getElem?_toArray, List.getElem?_cons_succ, List.getElem?_cons_zero] <;> rfl
      case st34 =>
      intro K hK
      go_simp
      go_at_call 17
      refine (tape_next (x.nP : Int) (by omega) (by omega) (T10.out.later (bD1 (Below.refl _ _)))).mono ?_
      rintro e w11 ⟨v11, ⟨hv0, hv1⟩, rfl, ht11, hg11⟩
      obtain ⟨k, rfl⟩ := Int.eq_ofNat_of_zero_le hv0
      have hk : k < x.nP := by omega
      have M11 := Lib.hid (M10.out.on (gTr (gBe (bD1 (Below.refl w10.heap.size w10))) hg11) ht11)
      clear ht11 hg11 T10 M10 hH
      have hH : BoxG3 gt (.slice (some ⟨gq, 0, none⟩) x.nP q5) w11 := M11.out.pb.cell 3
      try dsimp only
      refine hK.out _ _ hH ?_
      clear hK K
      try simp only [Act.put, List.setIfInBounds_toArray, List.set_cons_zero, List.set_cons_succ]
      refine HeadW.one (i := 8) (o := ?oi35) ?hi35 (by kernel_rfl) ?st35
      case hi35 => simp only [List.getElem?_toArray, List.getElem?_cons_succ, List.getElem?_cons_zero] <;> rfl
      case st35 =>
      intro K hK
      go_simp
      go_at_call 23
      refine (part_any 0 (by omega) (by omega) M11.out.tp).mono ?_
      rintro e w12 ⟨pp, rfl, ht12, hg12, _⟩
      have M12 := Lib.hid (M11.out.on hg12 ht12)
      clear ht12 hg12 M11 hH
      have hH : BoxG3 gt (.slice (some ⟨gq, 0, none⟩) x.nP q5) w12 := M12.out.pb.cell 3
      unfold ptC
      try dsimp only
      refine hK.out _ _ hH ?_
      clear hK K
      try simp only [Act.put, List.setIfInBounds_toArray, List.set_cons_zero, List.set_cons_succ]
      refine HeadW.take (i := 9) (oi := ?oi36) (v := ?v36) ?hi36 (by kernel_rfl) ?hQ36 (Or.inl ⟨?hg36, ?hy36⟩) hH ?rest36
      case hi36 => simp only [List.getElem?_toArray, List.getElem?_cons_succ, List.getElem?_cons_zero] <;> rfl
      case hQ36 => exact fun _ _ _ h => h
      case hg36 => rfl
      case hy36 => intro W hSw; have s1 := hSw; unfold BoxG3 at s1; go_simp; try with_reducible rfl
      case rest36 =>
      try simp only [Act.put, List.setIfInBounds_toArray, List.set_cons_zero, List.set_cons_succ]
      refine HeadW.done (by kernel_rfl) ?_
      obtain ⟨cur, hbq, hqc, hqs, hcap⟩ : ∃ cur, Blk w12 gq 23 cur ∧ cur.toList.take (x.nP * 6) = pCells ((List.range x.nP).map x.P) ∧ x.nP * 6 ≤ cur.size ∧ x.nP ≤ q5 := by
        rcases M12.out.ro.2 with ⟨h, _⟩ | ⟨g', q', cur, hv, _, hb, h1, _, h2, h3⟩
        · cases h
        · injection hv with e1 _ e2
          injection e1 with e1
          injection e1 with e1 _ _
          subst e1
          subst e2
          exact ⟨cur, hb, h3, by rw [h2]; exact Nat.mul_le_mul_right _ h1, h1⟩
      have hk6 : k * 6 + 5 < cur.size := by omega
      have c0 : w12.cell? ⟨gq, k * 6, none⟩ = some (cur[k * 6]'(by omega)) := (hbq.cell _).trans (Array.getElem?_eq_getElem _)
      have c1 : w12.cell? ⟨gq, k * 6 + 1, none⟩ = some (cur[k * 6 + 1]'(by omega)) := (hbq.cell _).trans (Array.getElem?_eq_getElem _)
      have c2 : w12.cell? ⟨gq, k * 6 + 2, none⟩ = some (cur[k * 6 + 2]'(by omega)) := (hbq.cell _).trans (Array.getElem?_eq_getElem _)
      have c3 : w12.cell? ⟨gq, k * 6 + 3, none⟩ = some (cur[k * 6 + 3]'(by omega)) := (hbq.cell _).trans (Array.getElem?_eq_getElem _)
      have c4 : w12.cell? ⟨gq, k * 6 + 4, none⟩ = some (cur[k * 6 + 4]'(by omega)) := (hbq.cell _).trans (Array.getElem?_eq_getElem _)
      have c5 : w12.cell? ⟨gq, k * 6 + 5, none⟩ = some (cur[k * 6 + 5]'(by omega)) := (hbq.cell _).trans (Array.getElem?_eq_getElem _)
      have f0 := hbq.frozen (k * 6)
      have f1 := hbq.frozen (k * 6 + 1)
      have f2 := hbq.frozen (k * 6 + 2)
      have f3 := hbq.frozen (k * 6 + 3)
      have f4 := hbq.frozen (k * 6 + 4)
      have f5 := hbq.frozen (k * 6 + 5)
      have fl := hbq.lt
      have HBQ := Lib.hid hbq
      have HQC := Lib.hid hqc
      clear hbq hqc
      generalize cur[k * 6]'(by omega) = u0x at c0
      generalize cur[k * 6 + 1]'(by omega) = u1x at c1
      generalize cur[k * 6 + 2]'(by omega) = u2x at c2
      generalize cur[k * 6 + 3]'(by omega) = u3x at c3
      generalize cur[k * 6 + 4]'(by omega) = u4x at c4
      generalize cur[k * 6 + 5]'(by omega) = u5x at c5
      go_wp2_with fail
      clear c0 c1 c2 c3 c4 c5 f0 f1 f2 f3 f4 f5 fl hH
      obtain ⟨w13, hw13⟩ : ∃ w13, ((((((w12.setCell ⟨gq, k * 6, none⟩ (.int .i64 pp.kd)).setCell ⟨gq, k * 6 + 1, none⟩ (.int .i64 pp.mx)).setCell ⟨gq, k * 6 + 2, none⟩ (.int .i64 pp.tp)).setCell ⟨gq, k * 6 + 3, none⟩ (.int .i64 pp.ob)).setCell ⟨gq, k * 6 + 4, none⟩ (.int .i64 pp.op)).setCell ⟨gq, k * 6 + 5, none⟩ (.int .i64 pp.ky)) = w13 := ⟨_, rfl⟩
      obtain ⟨m1, m2, m3, m4, m5, m6, m7, m8⟩ := M12.out.ls
      have hm9 := M12.out.gx.size
      have GX13 : Hid (w4.grownBy w13 (some g)) := Lib.hid (by rw [← hw13]; exact gNew (gNew (gNew (gNew (gNew (gNew (M12.out.gx) (by show _ ≤ gq; omega) _) (by show _ ≤ gq; omega) _) (by show _ ≤ gq; omega) _) (by show _ ≤ gq; omega) _) (by show _ ≤ gq; omega) _) (by show _ ≤ gq; omega) _)
      have GY13 : Hid (w6.grownBy w13 (some g)) := Lib.hid (by rw [← hw13]; exact gNew (gNew (gNew (gNew (gNew (gNew (M12.out.gy) (by show _ ≤ gq; omega) _) (by show _ ≤ gq; omega) _) (by show _ ≤ gq; omega) _) (by show _ ≤ gq; omega) _) (by show _ ≤ gq; omega) _) (by show _ ≤ gq; omega) _)
      have Pa13 : Hid (Blk w13 gs 33 (itmC p x)) := Lib.hid (by rw [← hw13]; exact ((((((M12.out.pa).off (by omega) _).off (by omega) _).off (by omega) _).off (by omega) _).off (by omega) _).off (by omega) _)
      have Pb13 : Hid (Blk w13 gt 33 #[.int .i64 y.id, .int .i64 y.ver, .string y.st, (.slice (some ⟨gq, 0, none⟩) x.nP q5), .slice q.o2 y.nE q.c2]) := Lib.hid (by rw [← hw13]; exact ((((((M12.out.pb).off (by omega) _).off (by omega) _).off (by omega) _).off (by omega) _).off (by omega) _).off (by omega) _)
      have HR13 : Hid (RowP w13 w13.heap.size (some ⟨gq, 0, none⟩) x.nP (fun i => if i = k then pp else x.P i)) := Lib.hid (rowP_set6 (by rw [← hw13]; exact blk_set6 HBQ.out pp) HQC.out hqs hk)
      rw [hw13]
      have HX13 := Lib.hid (HSX.out w13 GX13.out)
      have HB13 := Lib.hid (HB1.out.trans (bGr (gTr G4.out GX13.out) HG.out HB1.out.size))
      obtain ⟨q2, y2, hq2, HY13, hyn2⟩ : ∃ (q2 : IPtr) (y2 : Itm), Hid (Blk w13 gt 33 (itmC q2 y2)) ∧ Hid (ItmIn w13 w13.heap.size q2 y2) ∧ y2.nP ≤ 9 :=
        ⟨⟨some ⟨gq, 0, none⟩, q5, q.o2, q.c2⟩, ⟨y.id, y.ver, y.st, x.nP, fun i => if i = k then pp else x.P i, y.nE, y.E⟩, Pb13, Lib.hid ⟨HR13.out, (HSY.out w13 GY13.out).e, hcap, (HSY.out w13 GY13.out).h2⟩, hxn⟩
      clear hw13 Pb13 HR13 GX13 GY13 M12 HBQ HQC
      obtain ⟨w100, hw100⟩ : ∃ w', w13.drew = w' := ⟨_, rfl⟩
      have hd := bD1 (Below.refl w13.heap.size w13)
      rw [hw100] at hd
      have HX100 := Lib.hid (HX13.out.later hd)
      have HY100 := Lib.hid (HY13.out.later hd)
      have Pa100 := Lib.hid (Pa13.out.later hd)
      have Pb100 := Lib.hid (hq2.out.later hd)
      have HB100 := Lib.hid (bTr HB13.out hd)
      clear HX13 HY13 Pa13 hq2 HB13 hd
      have F1 := Lib.hid (fun W (h1 : ItmIn W W.heap.size p x) (h2 : ItmIn W W.heap.size q2 y2) => mat_any p q2 x y2 W h1 h2 (by omega) (by omega))
      have F2 := Lib.hid (fun W (h1 : ItmIn W W.heap.size p x) (h2 : ItmIn W W.heap.size q2 y2) => rmat_any p q2 x y2 W h1 h2 (by omega) (by omega))
      have F3 := Lib.hid (fun W (h1 : ItmIn W W.heap.size p x) (h2 : ItmIn W W.heap.size q2 y2) => mat_any q2 p y2 x W h2 h1 (by omega) (by omega))
      have F4 := Lib.hid (fun W (h1 : ItmIn W W.heap.size p x) => mat_any p p x x W h1 h1 (by omega) (by omega))
      have hll := matL_len x y2 (by omega) (by omega)
      rw [matL_comm y2 x] at F3
      rw [matL_self x] at F4
      generalize matL x y2 = l at F1 F2 F3 hll
      unfold itmC at F1 F2 F3 F4
      have hH : BoxM gs gt p q2 x y2 w100 := BoxM.of Pa100.out Pb100.out
      refine wp_region_held_tail (BoxM gs gt p q2 x y2) 26 (by kernel_rfl) (by kernel_rfl) ?_
      simp only [List.drop_succ_cons, List.drop_zero]
      rw [hw100]
      refine HeadW.take (i := 0) (oi := ?oi37) (v := ?v37) ?hi37 (by kernel_rfl) ?hQ37 (Or.inl ⟨?hg37, ?hy37⟩) hH ?rest37
      case hi37 => simp only [List.getElem?_toArray, List.getElem?_cons_succ, List.getElem?_cons_zero] <;> rfl
      case hQ37 => exact fun _ _ _ h => h
      case hg37 => rfl
      case hy37 => intro W hSw; obtain ⟨⟨s0, s1, s2, s3, s4⟩, t0, t1, t2, t3, t4⟩ := hSw; go_simp; try with_reducible rfl
      case rest37 =>
      try simp only [Act.put, List.setIfInBounds_toArray, List.set_cons_zero, List.set_cons_succ]
      refine HeadW.take (i := 1) (oi := ?oi38) (v := ?v38) ?hi38 (by kernel_rfl) ?hQ38 (Or.inl ⟨?hg38, ?hy38⟩) hH ?rest38
      case hi38 => simp only [List.getElem?_toArray, List.getElem?_cons_succ, List.getElem?_cons_zero] <;> rfl
      case hQ38 => exact fun _ _ _ h => h
      case hg38 => rfl
      case hy38 => intro W hSw; obtain ⟨⟨s0, s1, s2, s3, s4⟩, t0, t1, t2, t3, t4⟩ := hSw; go_simp; try with_reducible rfl
      case rest38 =>
      try simp only [Act.put, List.setIfInBounds_toArray, List.set_cons_zero, List.set_cons_succ]
      refine HeadW.take (i := 3) (oi := ?oi39) (v := ?v39) ?hi39 (by kernel_rfl) ?hQ39 (Or.inl ⟨?hg39, ?hy39⟩) hH ?rest39
      case hi39 => simp only [List.getElem?_toArray, List.getElem?_cons_succ, List.getElem?_cons_zero] <;> rfl
      case hQ39 => exact fun _ _ _ h => h
      case hg39 => rfl
      case hy39 => intro W hSw; obtain ⟨⟨s0, s1, s2, s3, s4⟩, t0, t1, t2, t3, t4⟩ := hSw; go_simp; try with_reducible rfl
      case rest39 =>
      try simp only [Act.put, List.setIfInBounds_toArray, List.set_cons_zero, List.set_cons_succ]
      refine HeadW.take (i := 4) (oi := ?oi40) (v := ?v40) ?hi40 (by kernel_rfl) ?hQ40 (Or.inl ⟨?hg40, ?hy40⟩) hH ?rest40
      case hi40 => simp only [List.getElem?_toArray, List.getElem?_cons_succ, List.getElem?_cons_zero] <;> rfl
      case hQ40 => exact fun _ _ _ h => h
      case hg40 => rfl
      case hy40 => intro W hSw; obtain ⟨⟨s0, s1, s2, s3, s4⟩, t0, t1, t2, t3, t4⟩ := hSw; go_simp; try with_reducible rfl
      case rest40 =>
      try simp only [Act.put, List.setIfInBounds_toArray, List.set_cons_zero, List.set_cons_succ]
      refine HeadW.one (i := 2) (o := ?oi41) ?hi41 (by kernel_rfl) ?st41
      case hi41 => simp only [List.getElem?_toArray, List.getElem?_cons_succ, List.getElem?_cons_zero] <;> rfl
      case st41 =>
      intro K hK
      go_simp
      go_at_call 25
      refine (F1.out _ HX100.out HY100.out).mono ?_
      rintro e w101 ⟨v101, rfl, hv, hb⟩
      obtain ⟨o101, c101, rfl, _, _, hrow⟩ := hv.row
      have R101 := Lib.hid hrow
      clear hv hrow
      have HX101 := Lib.hid (HX100.out.later hb)
      have HY101 := Lib.hid (HY100.out.later hb)
      have Pa101 := Lib.hid (Pa100.out.later hb)
      have Pb101 := Lib.hid (Pb100.out.later hb)
      have HB101 := Lib.hid (bTr HB100.out hb)
      clear hb HX100 HY100 HB100 Pa100 Pb100 hH
      have hH : BoxM gs gt p q2 x y2 w101 := BoxM.of Pa101.out Pb101.out
      try dsimp only
      refine hK.out _ _ hH ?_
      clear hK K
      try simp only [Act.put, List.setIfInBounds_toArray, List.set_cons_zero, List.set_cons_succ]
      refine HeadW.one (i := 5) (o := ?oi42) ?hi42 (by kernel_rfl) ?st42
      case hi42 => simp only [List.getElem?_toArray, List.getElem?_cons_succ, List.getElem?_cons_zero] <;> rfl
      case st42 =>
      intro K hK
      go_simp
      go_at_call 26
      refine (F2.out _ HX101.out HY101.out).mono ?_
      rintro e w102 ⟨v102, rfl, hv, hb⟩
      obtain ⟨o102, c102, rfl, _, _, hrow⟩ := hv.row
      have R102 := Lib.hid hrow
      clear hv hrow
      have R101k := Lib.hid (R101.out.later hb)
      have HX102 := Lib.hid (HX101.out.later hb)
      have HY102 := Lib.hid (HY101.out.later hb)
      have Pa102 := Lib.hid (Pa101.out.later hb)
      have Pb102 := Lib.hid (Pb101.out.later hb)
      have HB102 := Lib.hid (bTr HB101.out hb)
      clear hb HX101 HY101 HB101 Pa101 Pb101 hH
      have hH : BoxM gs gt p q2 x y2 w102 := BoxM.of Pa102.out Pb102.out
      try dsimp only
      refine hK.out _ _ hH ?_
      clear hK K
      try simp only [Act.put, List.setIfInBounds_toArray, List.set_cons_zero, List.set_cons_succ]
      refine HeadW.one (i := 6) (o := ?oi43) ?hi43 (by kernel_rfl) ?st43
      case hi43 => simp only [List.getElem?_toArray, List.getElem?_cons_succ, List.getElem?_cons_zero] <;> rfl
      case st43 =>
      intro K hK
      go_simp
      go_at_call 24
      refine (ints_true o101 o102 l.length c101 c102 _ _ w102 R101k.out R102.out (by omega) (fun i hi => rfl)).mono ?_
      rintro e w103 ⟨rfl, hb⟩
      have HX103 := Lib.hid (HX102.out.later hb)
      have HY103 := Lib.hid (HY102.out.later hb)
      have Pa103 := Lib.hid (Pa102.out.later hb)
      have Pb103 := Lib.hid (Pb102.out.later hb)
      have HB103 := Lib.hid (bTr HB102.out hb)
      clear hb HX102 HY102 HB102 Pa102 Pb102 hH
      have hH : BoxM gs gt p q2 x y2 w103 := BoxM.of Pa103.out Pb103.out
      try dsimp only
      refine hK.out _ _ hH ?_
      clear hK K
      try simp only [Act.put, List.setIfInBounds_toArray, List.set_cons_zero, List.set_cons_succ]
      refine HeadW.take (i := 7) (oi := ?oi44) (v := ?v44) ?hi44 (by kernel_rfl) ?hQ44 (Or.inl ⟨?hg44, ?hy44⟩) hH ?rest44
      case hi44 => simp only [List.getElem?_toArray, List.getElem?_cons_succ, List.getElem?_cons_zero] <;> rfl
      case hQ44 => exact fun _ _ _ h => h
      case hg44 => rfl
      case hy44 => intro W hSw; obtain ⟨⟨s0, s1, s2, s3, s4⟩, t0, t1, t2, t3, t4⟩ := hSw; go_simp; try with_reducible rfl
      case rest44 =>
      try simp only [Act.put, List.setIfInBounds_toArray, List.set_cons_zero, List.set_cons_succ]
      refine HeadW.take (i := 8) (oi := ?oi45) (v := ?v45) ?hi45 (by kernel_rfl) ?hQ45 (Or.inl ⟨?hg45, ?hy45⟩) hH ?rest45
      case hi45 => simp only [List.getElem?_toArray, List.getElem?_cons_succ, List.getElem?_cons_zero] <;> rfl
      case hQ45 => exact fun _ _ _ h => h
      case hg45 => rfl
      case hy45 => intro W hSw; obtain ⟨⟨s0, s1, s2, s3, s4⟩, t0, t1, t2, t3, t4⟩ := hSw; go_simp; try with_reducible rfl
      case rest45 =>
      try simp only [Act.put, List.setIfInBounds_toArray, List.set_cons_zero, List.set_cons_succ]
      refine HeadW.take (i := 9) (oi := ?oi46) (v := ?v46) ?hi46 (by kernel_rfl) ?hQ46 (Or.inl ⟨?hg46, ?hy46⟩) hH ?rest46
      case hi46 => simp only [List.getElem?_toArray, List.getElem?_cons_succ, List.getElem?_cons_zero] <;> rfl
      case hQ46 => exact fun _ _ _ h => h
      case hg46 => rfl
      case hy46 => intro W hSw; obtain ⟨⟨s0, s1, s2, s3, s4⟩, t0, t1, t2, t3, t4⟩ := hSw; go_simp; try with_reducible rfl
      case rest46 =>
      try simp only [Act.put, List.setIfInBounds_toArray, List.set_cons_zero, List.set_cons_succ]
      refine HeadW.take (i := 11) (oi := ?oi47) (v := ?v47) ?hi47 (by kernel_rfl) ?hQ47 (Or.inl ⟨?hg47, ?hy47⟩) hH ?rest47
      case hi47 => simp only [List.getElem?_toArray, List.getElem?_cons_succ, List.getElem?_cons_zero] <;> rfl
      case hQ47 => exact fun _ _ _ h => h
      case hg47 => rfl
      case hy47 => intro W hSw; obtain ⟨⟨s0, s1, s2, s3, s4⟩, t0, t1, t2, t3, t4⟩ := hSw; go_simp; try with_reducible rfl
      case rest47 =>
      try simp only [Act.put, List.setIfInBounds_toArray, List.set_cons_zero, List.set_cons_succ]
      refine HeadW.take (i := 12) (oi := ?oi48) (v := ?v48) ?hi48 (by kernel_rfl) ?hQ48 (Or.inl ⟨?hg48, ?hy48⟩) hH ?rest48
      case hi48 => simp only [List.getElem?_toArray, List.getElem?_cons_succ, List.getElem?_cons_zero] <;> rfl
      case hQ48 => exact fun _ _ _ h => h
      case hg48 => rfl
      case hy48 => intro W hSw; obtain ⟨⟨s0, s1, s2, s3, s4⟩, t0, t1, t2, t3, t4⟩ := hSw; go_simp; try with_reducible rfl
      case rest48 =>
      try simp only [Act.put, List.setIfInBounds_toArray, List.set_cons_zero, List.set_cons_succ]
      refine HeadW.one (i := 10) (o := ?oi49) ?hi49 (by kernel_rfl) ?st49
      case hi49 => simp only [List.getElem?_toArray, List.getElem?_cons_succ, List.getElem?_cons_zero] <;> rfl
      case st49 =>
      intro K hK
      go_simp
      go_at_call 25
      refine (F1.out _ HX103.out HY103.out).mono ?_
      rintro e w104 ⟨v104, rfl, hv, hb⟩
      obtain ⟨o104, c104, rfl, _, _, hrow⟩ := hv.row
      have R104 := Lib.hid hrow
      clear hv hrow
      have HX104 := Lib.hid (HX103.out.later hb)
      have HY104 := Lib.hid (HY103.out.later hb)
      have Pa104 := Lib.hid (Pa103.out.later hb)
      have Pb104 := Lib.hid (Pb103.out.later hb)
      have HB104 := Lib.hid (bTr HB103.out hb)
      clear hb HX103 HY103 HB103 Pa103 Pb103 hH
      have hH : BoxM gs gt p q2 x y2 w104 := BoxM.of Pa104.out Pb104.out
      try dsimp only
      refine hK.out _ _ hH ?_
      clear hK K
      try simp only [Act.put, List.setIfInBounds_toArray, List.set_cons_zero, List.set_cons_succ]
      refine HeadW.one (i := 13) (o := ?oi50) ?hi50 (by kernel_rfl) ?st50
      case hi50 => simp only [List.getElem?_toArray, List.getElem?_cons_succ, List.getElem?_cons_zero] <;> rfl
      case st50 =>
      intro K hK
      go_simp
      go_at_call 25
      refine (F3.out _ HX104.out HY104.out).mono ?_
      rintro e w105 ⟨v105, rfl, hv, hb⟩
      obtain ⟨o105, c105, rfl, _, _, hrow⟩ := hv.row
      have R105 := Lib.hid hrow
      clear hv hrow
      have R104k := Lib.hid (R104.out.later hb)
      have HX105 := Lib.hid (HX104.out.later hb)
      have HY105 := Lib.hid (HY104.out.later hb)
      have Pa105 := Lib.hid (Pa104.out.later hb)
      have Pb105 := Lib.hid (Pb104.out.later hb)
      have HB105 := Lib.hid (bTr HB104.out hb)
      clear hb HX104 HY104 HB104 Pa104 Pb104 hH
      have hH : BoxM gs gt p q2 x y2 w105 := BoxM.of Pa105.out Pb105.out
      try dsimp only
      refine hK.out _ _ hH ?_
      clear hK K
      try simp only [Act.put, List.setIfInBounds_toArray, List.set_cons_zero, List.set_cons_succ]
      refine HeadW.one (i := 14) (o := ?oi51) ?hi51 (by kernel_rfl) ?st51
      case hi51 => simp only [List.getElem?_toArray, List.getElem?_cons_succ, List.getElem?_cons_zero] <;> rfl
      case st51 =>
      intro K hK
      go_simp
      go_at_call 24
      refine (ints_true o104 o105 l.length c104 c105 _ _ w105 R104k.out R105.out (by omega) (fun i hi => rfl)).mono ?_
      rintro e w106 ⟨rfl, hb⟩
      have HX106 := Lib.hid (HX105.out.later hb)
      have HY106 := Lib.hid (HY105.out.later hb)
      have Pa106 := Lib.hid (Pa105.out.later hb)
      have Pb106 := Lib.hid (Pb105.out.later hb)
      have HB106 := Lib.hid (bTr HB105.out hb)
      clear hb HX105 HY105 HB105 Pa105 Pb105 hH
      have hH : BoxM gs gt p q2 x y2 w106 := BoxM.of Pa106.out Pb106.out
      try dsimp only
      refine hK.out _ _ hH ?_
      clear hK K
      try simp only [Act.put, List.setIfInBounds_toArray, List.set_cons_zero, List.set_cons_succ]
      refine HeadW.take (i := 15) (oi := ?oi52) (v := ?v52) ?hi52 (by kernel_rfl) ?hQ52 (Or.inl ⟨?hg52, ?hy52⟩) hH ?rest52
      case hi52 => simp only [List.getElem?_toArray, List.getElem?_cons_succ, List.getElem?_cons_zero] <;> rfl
      case hQ52 => exact fun _ _ _ h => h
      case hg52 => rfl
      case hy52 => intro W hSw; obtain ⟨⟨s0, s1, s2, s3, s4⟩, t0, t1, t2, t3, t4⟩ := hSw; go_simp; try with_reducible rfl
      case rest52 =>
      try simp only [Act.put, List.setIfInBounds_toArray, List.set_cons_zero, List.set_cons_succ]
      refine HeadW.take (i := 16) (oi := ?oi53) (v := ?v53) ?hi53 (by kernel_rfl) ?hQ53 (Or.inl ⟨?hg53, ?hy53⟩) hH ?rest53
      case hi53 => simp only [List.getElem?_toArray, List.getElem?_cons_succ, List.getElem?_cons_zero] <;> rfl
      case hQ53 => exact fun _ _ _ h => h
      case hg53 => rfl
      case hy53 => intro W hSw; obtain ⟨⟨s0, s1, s2, s3, s4⟩, t0, t1, t2, t3, t4⟩ := hSw; go_simp; try with_reducible rfl
      case rest53 =>
      try simp only [Act.put, List.setIfInBounds_toArray, List.set_cons_zero, List.set_cons_succ]
      refine HeadW.take (i := 17) (oi := ?oi54) (v := ?v54) ?hi54 (by kernel_rfl) ?hQ54 (Or.inl ⟨?hg54, ?hy54⟩) hH ?rest54
      case hi54 => simp only [List.getElem?_toArray, List.getElem?_cons_succ, List.getElem?_cons_zero] <;> rfl
      case hQ54 => exact fun _ _ _ h => h
      case hg54 => rfl
      case hy54 => intro W hSw; obtain ⟨⟨s0, s1, s2, s3, s4⟩, t0, t1, t2, t3, t4⟩ := hSw; go_simp; try with_reducible rfl
      case rest54 =>
      try simp only [Act.put, List.setIfInBounds_toArray, List.set_cons_zero, List.set_cons_succ]
      refine HeadW.take (i := 18) (oi := ?oi55) (v := ?v55) ?hi55 (by kernel_rfl) ?hQ55 (Or.inl ⟨?hg55, ?hy55⟩) hH ?rest55
      case hi55 => simp only [List.getElem?_toArray, List.getElem?_cons_succ, List.getElem?_cons_zero] <;> rfl
      case hQ55 => exact fun _ _ _ h => h
      case hg55 => rfl
      case hy55 => intro W hSw; obtain ⟨⟨s0, s1, s2, s3, s4⟩, t0, t1, t2, t3, t4⟩ := hSw; go_simp; try with_reducible rfl
      case rest55 =>
      try simp only [Act.put, List.setIfInBounds_toArray, List.set_cons_zero, List.set_cons_succ]
      refine HeadW.one (i := 19) (o := ?oi56) ?hi56 (by kernel_rfl) ?st56
      case hi56 => simp only [List.getElem?_toArray, List.getElem?_cons_succ, List.getElem?_cons_zero] <;> rfl
      case st56 =>
      intro K hK
      go_simp
      go_at_call 25
      refine (F4.out _ HX106.out).mono ?_
      rintro e w107 ⟨v107, rfl, hv, hb⟩
      obtain ⟨o107, c107, rfl, _, _, hrow⟩ := hv.row
      have R107 := Lib.hid hrow
      clear hv hrow
      have HX107 := Lib.hid (HX106.out.later hb)
      have HY107 := Lib.hid (HY106.out.later hb)
      have Pa107 := Lib.hid (Pa106.out.later hb)
      have Pb107 := Lib.hid (Pb106.out.later hb)
      have HB107 := Lib.hid (bTr HB106.out hb)
      clear hb HX106 HY106 HB106 Pa106 Pb106 hH
      have hH : BoxM gs gt p q2 x y2 w107 := BoxM.of Pa107.out Pb107.out
      try dsimp only
      refine hK.out _ _ hH ?_
      clear hK K
      try simp only [Act.put, List.setIfInBounds_toArray, List.set_cons_zero, List.set_cons_succ]
      refine HeadW.one (i := 20) (o := ?oi57) ?hi57 (by kernel_rfl) ?st57
      case hi57 => simp only [List.getElem?_toArray, List.getElem?_cons_succ, List.getElem?_cons_zero] <;> rfl
      case st57 =>
      intro K hK
      go_simp
      try dsimp only
      refine hK.out _ _ hH ?_
      clear hK K
      try simp only [Act.put, List.setIfInBounds_toArray, List.set_cons_zero, List.set_cons_succ]
      refine HeadW.take (i := 21) (oi := ?oi58) (v := ?v58) ?hi58 (by kernel_rfl) ?hQ58 (Or.inl ⟨?hg58, ?hy58⟩) hH ?rest58
      case hi58 => simp only [List.getElem?_toArray, List.getElem?_cons_succ, List.getElem?_cons_zero] <;> rfl
      case hQ58 => exact fun _ _ _ h => h
      case hg58 => rfl
      case hy58 => intro W hSw; obtain ⟨⟨s0, s1, s2, s3, s4⟩, t0, t1, t2, t3, t4⟩ := hSw; go_simp; try with_reducible rfl
      case rest58 =>
      try simp only [Act.put, List.setIfInBounds_toArray, List.set_cons_zero, List.set_cons_succ]
      refine HeadW.take (i := 22) (oi := ?oi59) (v := ?v59) ?hi59 (by kernel_rfl) ?hQ59 (Or.inl ⟨?hg59, ?hy59⟩) hH ?rest59
      case hi59 => simp only [List.getElem?_toArray, List.getElem?_cons_succ, List.getElem?_cons_zero] <;> rfl
      case hQ59 => exact fun _ _ _ h => h
      case hg59 => rfl
      case hy59 => intro W hSw; obtain ⟨⟨s0, s1, s2, s3, s4⟩, t0, t1, t2, t3, t4⟩ := hSw; go_simp; try with_reducible rfl
      case rest59 =>
      try simp only [Act.put, List.setIfInBounds_toArray, List.set_cons_zero, List.set_cons_succ]
      refine HeadW.take (i := 23) (oi := ?oi60) (v := ?v60) ?hi60 (by kernel_rfl) ?hQ60 (Or.inl ⟨?hg60, ?hy60⟩) hH ?rest60
      case hi60 => simp only [List.getElem?_toArray, List.getElem?_cons_succ, List.getElem?_cons_zero] <;> rfl
      case hQ60 => exact fun _ _ _ h => h
      case hg60 => rfl
      case hy60 => intro W hSw; obtain ⟨⟨s0, s1, s2, s3, s4⟩, t0, t1, t2, t3, t4⟩ := hSw; go_simp; try with_reducible rfl
      case rest60 =>
      try simp only [Act.put, List.setIfInBounds_toArray, List.set_cons_zero, List.set_cons_succ]
      refine HeadW.one (i := 24) (o := ?oi61) ?hi61 (by kernel_rfl) ?st61
      case hi61 => simp only [List.getElem?_toArray, List.getElem?_cons_succ, List.getElem?_cons_zero] <;> rfl
      case st61 =>
      intro K hK
      go_simp
      go_at_call 14
      refine (awake_any _).mono ?_
      rintro e w108 ⟨rfl, hb⟩
      have HX108 := Lib.hid (HX107.out.later hb)
      have HY108 := Lib.hid (HY107.out.later hb)
      have Pa108 := Lib.hid (Pa107.out.later hb)
      have Pb108 := Lib.hid (Pb107.out.later hb)
      have HB108 := Lib.hid (bTr HB107.out hb)
      clear hb HX107 HY107 HB107 Pa107 Pb107 hH
      have hH : BoxM gs gt p q2 x y2 w108 := BoxM.of Pa108.out Pb108.out
      try dsimp only
      refine hK.out _ _ hH ?_
      clear hK K
      try simp only [Act.put, List.setIfInBounds_toArray, List.set_cons_zero, List.set_cons_succ]
      refine HeadW.take (i := 25) (oi := ?oi62) (v := ?v62) ?hi62 (by kernel_rfl) ?hQ62 (Or.inl ⟨?hg62, ?hy62⟩) hH ?rest62
      case hi62 => simp only [List.getElem?_toArray, List.getElem?_cons_succ, List.getElem?_cons_zero] <;> rfl
      case hQ62 => exact fun _ _ _ h => h
      case hg62 => rfl
      case hy62 => intro W hSw; obtain ⟨⟨s0, s1, s2, s3, s4⟩, t0, t1, t2, t3, t4⟩ := hSw; go_simp; try with_reducible rfl
      case rest62 =>
      try simp only [Act.put, List.setIfInBounds_toArray, List.set_cons_zero, List.set_cons_succ]
      refine HeadW.done (by kernel_rfl) ?_
      go_wp2_with fail
      go_ret
      exact ⟨rfl, HB108.out⟩
  · have hv' : (v8 == 0) = false := by rw [beq_eq_false_iff_ne]; exact hv
    clear hv
    have HX8 := Lib.hid (HSX.out w8 GX8.out)
    have HY8 := Lib.hid (HSY.out w8 GY8.out)
    go_wp2_with fail
    clear z3
    obtain ⟨w100, hw100⟩ : ∃ w', w8.drew = w' := ⟨_, rfl⟩
    have hd := bD1 (Below.refl w8.heap.size w8)
    rw [hw100] at hd
    have HX100 := Lib.hid (HX8.out.later hd)
    have HY100 := Lib.hid (HY8.out.later hd)
    have Pa100 := Lib.hid (P8.out.later hd)
    have Pb100 := Lib.hid (R8.out.later hd)
    have HB100 := Lib.hid (bTr HB8.out hd)
    clear HX8 HY8 P8 R8 HB8 hd
    have F1 := Lib.hid (fun W (h1 : ItmIn W W.heap.size p x) (h2 : ItmIn W W.heap.size q y) => mat_any p q x y W h1 h2 (by omega) (by omega))
    have F2 := Lib.hid (fun W (h1 : ItmIn W W.heap.size p x) (h2 : ItmIn W W.heap.size q y) => rmat_any p q x y W h1 h2 (by omega) (by omega))
    have F3 := Lib.hid (fun W (h1 : ItmIn W W.heap.size p x) (h2 : ItmIn W W.heap.size q y) => mat_any q p y x W h2 h1 (by omega) (by omega))
    have F4 := Lib.hid (fun W (h1 : ItmIn W W.heap.size p x) => mat_any p p x x W h1 h1 (by omega) (by omega))
    have hll := matL_len x y (by omega) (by omega)
    rw [matL_comm y x] at F3
    rw [matL_self x] at F4
    generalize matL x y = l at F1 F2 F3 hll
    unfold itmC at F1 F2 F3 F4
    have hH : BoxM gs gt p q x y w100 := BoxM.of Pa100.out Pb100.out
    refine wp_region_held_tail (BoxM gs gt p q x y) 26 (by kernel_rfl) (by kernel_rfl) ?_
    simp only [List.drop_succ_cons, List.drop_zero]
    rw [hw100]
    refine HeadW.take (i := 0) (oi := ?oi1) (v := ?v1) ?hi1 (by kernel_rfl) ?hQ1 (Or.inl ⟨?hg1, ?hy1⟩) hH ?rest1
    case hi1 => simp only [List.getElem?_toArray, List.getElem?_cons_succ, List.getElem?_cons_zero] <;> rfl
    case hQ1 => exact fun _ _ _ h => h
    case hg1 => rfl
    case hy1 => intro W hSw; obtain ⟨⟨s0, s1, s2, s3, s4⟩, t0, t1, t2, t3, t4⟩ := hSw; go_simp; try with_reducible rfl
    case rest1 =>
    try simp only [Act.put, List.setIfInBounds_toArray, List.set_cons_zero, List.set_cons_succ]
    refine HeadW.take (i := 1) (oi := ?oi2) (v := ?v2) ?hi2 (by kernel_rfl) ?hQ2 (Or.inl ⟨?hg2, ?hy2⟩) hH ?rest2
    case hi2 => simp only [List.getElem?_toArray, List.getElem?_cons_succ, List.getElem?_cons_zero] <;> rfl
    case hQ2 => exact fun _ _ _ h => h
    case hg2 => rfl
    case hy2 => intro W hSw; obtain ⟨⟨s0, s1, s2, s3, s4⟩, t0, t1, t2, t3, t4⟩ := hSw; go_simp; try with_reducible rfl
    case rest2 =>
    try simp only [Act.put, List.setIfInBounds_toArray, List.set_cons_zero, List.set_cons_succ]
    refine HeadW.take (i := 3) (oi := ?oi3) (v := ?v3) ?hi3 (by kernel_rfl) ?hQ3 (Or.inl ⟨?hg3, ?hy3⟩) hH ?rest3
    case hi3 => simp only [List.getElem?_toArray, List.getElem?_cons_succ, List.getElem?_cons_zero] <;> rfl
    case hQ3 => exact fun _ _ _ h => h
    case hg3 => rfl
    case hy3 => intro W hSw; obtain ⟨⟨s0, s1, s2, s3, s4⟩, t0, t1, t2, t3, t4⟩ := hSw; go_simp; try with_reducible rfl
    case rest3 =>
    try simp only [Act.put, List.setIfInBounds_toArray, List.set_cons_zero, List.set_cons_succ]
    refine HeadW.take (i := 4) (oi := ?oi4) (v := ?v4) ?hi4 (by kernel_rfl) ?hQ4 (Or.inl ⟨?hg4, ?hy4⟩) hH ?rest4
    case hi4 => simp only [List.getElem?_toArray, List.getElem?_cons_succ, List.getElem?_cons_zero] <;> rfl
    case hQ4 => exact fun _ _ _ h => h
    case hg4 => rfl
    case hy4 => intro W hSw; obtain ⟨⟨s0, s1, s2, s3, s4⟩, t0, t1, t2, t3, t4⟩ := hSw; go_simp; try with_reducible rfl
    case rest4 =>
    try simp only [Act.put, List.setIfInBounds_toArray, List.set_cons_zero, List.set_cons_succ]
    refine HeadW.one (i := 2) (o := ?oi5) ?hi5 (by kernel_rfl) ?st5
    case hi5 => simp only [List.getElem?_toArray, List.getElem?_cons_succ, List.getElem?_cons_zero] <;> rfl
    case st5 =>
    intro K hK
    go_simp
    go_at_call 25
    refine (F1.out _ HX100.out HY100.out).mono ?_
    rintro e w101 ⟨v101, rfl, hv, hb⟩
    obtain ⟨o101, c101, rfl, _, _, hrow⟩ := hv.row
    have R101 := Lib.hid hrow
    clear hv hrow
    have HX101 := Lib.hid (HX100.out.later hb)
    have HY101 := Lib.hid (HY100.out.later hb)
    have Pa101 := Lib.hid (Pa100.out.later hb)
    have Pb101 := Lib.hid (Pb100.out.later hb)
    have HB101 := Lib.hid (bTr HB100.out hb)
    clear hb HX100 HY100 HB100 Pa100 Pb100 hH
    have hH : BoxM gs gt p q x y w101 := BoxM.of Pa101.out Pb101.out
    try dsimp only
    refine hK.out _ _ hH ?_
    clear hK K
    try simp only [Act.put, List.setIfInBounds_toArray, List.set_cons_zero, List.set_cons_succ]
    refine HeadW.one (i := 5) (o := ?oi6) ?hi6 (by kernel_rfl) ?st6
    case hi6 => simp only [List.getElem?_toArray, List.getElem?_cons_succ, List.getElem?_cons_zero] <;> rfl
    case st6 =>
    intro K hK
    go_simp
    go_at_call 26
    refine (F2.out _ HX101.out HY101.out).mono ?_
    rintro e w102 ⟨v102, rfl, hv, hb⟩
    obtain ⟨o102, c102, rfl, _, _, hrow⟩ := hv.row
    have R102 := Lib.hid hrow
    clear hv hrow
    have R101k := Lib.hid (R101.out.later hb)
    have HX102 := Lib.hid (HX101.out.later hb)
    have HY102 := Lib.hid (HY101.out.later hb)
    have Pa102 := Lib.hid (Pa101.out.later hb)
    have Pb102 := Lib.hid (Pb101.out.later hb)
    have HB102 := Lib.hid (bTr HB101.out hb)
    clear hb HX101 HY101 HB101 Pa101 Pb101 hH
    have hH : BoxM gs gt p q x y w102 := BoxM.of Pa102.out Pb102.out
    try dsimp only
    refine hK.out _ _ hH ?_
    clear hK K
    try simp only [Act.put, List.setIfInBounds_toArray, List.set_cons_zero, List.set_cons_succ]
    refine HeadW.one (i := 6) (o := ?oi7) ?hi7 (by kernel_rfl) ?st7
    case hi7 => simp only [List.getElem?_toArray, List.getElem?_cons_succ, List.getElem?_cons_zero] <;> rfl
    case st7 =>
    intro K hK
    go_simp
    go_at_call 24
    refine (ints_true o101 o102 l.length c101 c102 _ _ w102 R101k.out R102.out (by omega) (fun i hi => rfl)).mono ?_
    rintro e w103 ⟨rfl, hb⟩
    have HX103 := Lib.hid (HX102.out.later hb)
    have HY103 := Lib.hid (HY102.out.later hb)
    have Pa103 := Lib.hid (Pa102.out.later hb)
    have Pb103 := Lib.hid (Pb102.out.later hb)
    have HB103 := Lib.hid (bTr HB102.out hb)
    clear hb HX102 HY102 HB102 Pa102 Pb102 hH
    have hH : BoxM gs gt p q x y w103 := BoxM.of Pa103.out Pb103.out
    try dsimp only
    refine hK.out _ _ hH ?_
    clear hK K
    try simp only [Act.put, List.setIfInBounds_toArray, List.set_cons_zero, List.set_cons_succ]
    refine HeadW.take (i := 7) (oi := ?oi8) (v := ?v8) ?hi8 (by kernel_rfl) ?hQ8 (Or.inl ⟨?hg8, ?hy8⟩) hH ?rest8
    case hi8 => simp only [List.getElem?_toArray, List.getElem?_cons_succ, List.getElem?_cons_zero] <;> rfl
    case hQ8 => exact fun _ _ _ h => h
    case hg8 => rfl
    case hy8 => intro W hSw; obtain ⟨⟨s0, s1, s2, s3, s4⟩, t0, t1, t2, t3, t4⟩ := hSw; go_simp; try with_reducible rfl
    case rest8 =>
    try simp only [Act.put, List.setIfInBounds_toArray, List.set_cons_zero, List.set_cons_succ]
    refine HeadW.take (i := 8) (oi := ?oi9) (v := ?v9) ?hi9 (by kernel_rfl) ?hQ9 (Or.inl ⟨?hg9, ?hy9⟩) hH ?rest9
    case hi9 => simp only [List.getElem?_toArray, List.getElem?_cons_succ, List.getElem?_cons_zero] <;> rfl
    case hQ9 => exact fun _ _ _ h => h
    case hg9 => rfl
    case hy9 => intro W hSw; obtain ⟨⟨s0, s1, s2, s3, s4⟩, t0, t1, t2, t3, t4⟩ := hSw; go_simp; try with_reducible rfl
    case rest9 =>
    try simp only [Act.put, List.setIfInBounds_toArray, List.set_cons_zero, List.set_cons_succ]
    refine HeadW.take (i := 9) (oi := ?oi10) (v := ?v10) ?hi10 (by kernel_rfl) ?hQ10 (Or.inl ⟨?hg10, ?hy10⟩) hH ?rest10
    case hi10 => simp only [List.getElem?_toArray, List.getElem?_cons_succ, List.getElem?_cons_zero] <;> rfl
    case hQ10 => exact fun _ _ _ h => h
    case hg10 => rfl
    case hy10 => intro W hSw; obtain ⟨⟨s0, s1, s2, s3, s4⟩, t0, t1, t2, t3, t4⟩ := hSw; go_simp; try with_reducible rfl
    case rest10 =>
    try simp only [Act.put, List.setIfInBounds_toArray, List.set_cons_zero, List.set_cons_succ]
    refine HeadW.take (i := 11) (oi := ?oi11) (v := ?v11) ?hi11 (by kernel_rfl) ?hQ11 (Or.inl ⟨?hg11, ?hy11⟩) hH ?rest11
    case hi11 => simp only [List.getElem?_toArray, List.getElem?_cons_succ, List.getElem?_cons_zero] <;> rfl
    case hQ11 => exact fun _ _ _ h => h
    case hg11 => rfl
    case hy11 => intro W hSw; obtain ⟨⟨s0, s1, s2, s3, s4⟩, t0, t1, t2, t3, t4⟩ := hSw; go_simp; try with_reducible rfl
    case rest11 =>
    try simp only [Act.put, List.setIfInBounds_toArray, List.set_cons_zero, List.set_cons_succ]
    refine HeadW.take (i := 12) (oi := ?oi12) (v := ?v12) ?hi12 (by kernel_rfl) ?hQ12 (Or.inl ⟨?hg12, ?hy12⟩) hH ?rest12
    case hi12 => simp only [List.getElem?_toArray, List.getElem?_cons_succ, List.getElem?_cons_zero] <;> rfl
    case hQ12 => exact fun _ _ _ h => h
    case hg12 => rfl
    case hy12 => intro W hSw; obtain ⟨⟨s0, s1, s2, s3, s4⟩, t0, t1, t2, t3, t4⟩ := hSw; go_simp; try with_reducible rfl
    case rest12 =>
    try simp only [Act.put, List.setIfInBounds_toArray, List.set_cons_zero, List.set_cons_succ]
    refine HeadW.one (i := 10) (o := ?oi13) ?hi13 (by kernel_rfl) ?st13
    case hi13 => simp only [List.getElem?_toArray, List.getElem?_cons_succ, List.getElem?_cons_zero] <;> rfl
    case st13 =>
    intro K hK
    go_simp
    go_at_call 25
    refine (F1.out _ HX103.out HY103.out).mono ?_
    rintro e w104 ⟨v104, rfl, hv, hb⟩
    obtain ⟨o104, c104, rfl, _, _, hrow⟩ := hv.row
    have R104 := Lib.hid hrow
    clear hv hrow
    have HX104 := Lib.hid (HX103.out.later hb)
    have HY104 := Lib.hid (HY103.out.later hb)
    have Pa104 := Lib.hid (Pa103.out.later hb)
    have Pb104 := Lib.hid (Pb103.out.later hb)
    have HB104 := Lib.hid (bTr HB103.out hb)
    clear hb HX103 HY103 HB103 Pa103 Pb103 hH
    have hH : BoxM gs gt p q x y w104 := BoxM.of Pa104.out Pb104.out
    try dsimp only
    refine hK.out _ _ hH ?_
    clear hK K
    try simp only [Act.put, List.setIfInBounds_toArray, List.set_cons_zero, List.set_cons_succ]
    refine HeadW.one (i := 13) (o := ?oi14) ?hi14 (by kernel_rfl) ?st14
    case hi14 => simp only [List.getElem?_toArray, List.getElem?_cons_succ, List.getElem?_cons_zero] <;> rfl
    case st14 =>
    intro K hK
    go_simp
    go_at_call 25
    refine (F3.out _ HX104.out HY104.out).mono ?_
    rintro e w105 ⟨v105, rfl, hv, hb⟩
    obtain ⟨o105, c105, rfl, _, _, hrow⟩ := hv.row
    have R105 := Lib.hid hrow
    clear hv hrow
    have R104k := Lib.hid (R104.out.later hb)
    have HX105 := Lib.hid (HX104.out.later hb)
    have HY105 := Lib.hid (HY104.out.later hb)
    have Pa105 := Lib.hid (Pa104.out.later hb)
    have Pb105 := Lib.hid (Pb104.out.later hb)
    have HB105 := Lib.hid (bTr HB104.out hb)
    clear hb HX104 HY104 HB104 Pa104 Pb104 hH
    have hH : BoxM gs gt p q x y w105 := BoxM.of Pa105.out Pb105.out
    try dsimp only
    refine hK.out _ _ hH ?_
    clear hK K
    try simp only [Act.put, List.setIfInBounds_toArray, List.set_cons_zero, List.set_cons_succ]
    refine HeadW.one (i := 14) (o := ?oi15) ?hi15 (by kernel_rfl) ?st15
    case hi15 => simp only [List.getElem?_toArray, List.getElem?_cons_succ, List.getElem?_cons_zero] <;> rfl
    case st15 =>
    intro K hK
    go_simp
    go_at_call 24
    refine (ints_true o104 o105 l.length c104 c105 _ _ w105 R104k.out R105.out (by omega) (fun i hi => rfl)).mono ?_
    rintro e w106 ⟨rfl, hb⟩
    have HX106 := Lib.hid (HX105.out.later hb)
    have HY106 := Lib.hid (HY105.out.later hb)
    have Pa106 := Lib.hid (Pa105.out.later hb)
    have Pb106 := Lib.hid (Pb105.out.later hb)
    have HB106 := Lib.hid (bTr HB105.out hb)
    clear hb HX105 HY105 HB105 Pa105 Pb105 hH
    have hH : BoxM gs gt p q x y w106 := BoxM.of Pa106.out Pb106.out
    try dsimp only
    refine hK.out _ _ hH ?_
    clear hK K
    try simp only [Act.put, List.setIfInBounds_toArray, List.set_cons_zero, List.set_cons_succ]
    refine HeadW.take (i := 15) (oi := ?oi16) (v := ?v16) ?hi16 (by kernel_rfl) ?hQ16 (Or.inl ⟨?hg16, ?hy16⟩) hH ?rest16
    case hi16 => simp only [List.getElem?_toArray, List.getElem?_cons_succ, List.getElem?_cons_zero] <;> rfl
    case hQ16 => exact fun _ _ _ h => h
    case hg16 => rfl
    case hy16 => intro W hSw; obtain ⟨⟨s0, s1, s2, s3, s4⟩, t0, t1, t2, t3, t4⟩ := hSw; go_simp; try with_reducible rfl
    case rest16 =>
    try simp only [Act.put, List.setIfInBounds_toArray, List.set_cons_zero, List.set_cons_succ]
    refine HeadW.take (i := 16) (oi := ?oi17) (v := ?v17) ?hi17 (by kernel_rfl) ?hQ17 (Or.inl ⟨?hg17, ?hy17⟩) hH ?rest17
    case hi17 => simp only [List.getElem?_toArray, List.getElem?_cons_succ, List.getElem?_cons_zero] <;> rfl
    case hQ17 => exact fun _ _ _ h => h
    case hg17 => rfl
    case hy17 => intro W hSw; obtain ⟨⟨s0, s1, s2, s3, s4⟩, t0, t1, t2, t3, t4⟩ := hSw; go_simp; try with_reducible rfl
    case rest17 =>
    try simp only [Act.put, List.setIfInBounds_toArray, List.set_cons_zero, List.set_cons_succ]
    refine HeadW.take (i := 17) (oi := ?oi18) (v := ?v18) ?hi18 (by kernel_rfl) ?hQ18 (Or.inl ⟨?hg18, ?hy18⟩) hH ?rest18
    case hi18 => simp only [List.getElem?_toArray, List.getElem?_cons_succ, List.getElem?_cons_zero] <;> rfl
    case hQ18 => exact fun _ _ _ h => h
    case hg18 => rfl
    case hy18 => intro W hSw; obtain ⟨⟨s0, s1, s2, s3, s4⟩, t0, t1, t2, t3, t4⟩ := hSw; go_simp; try with_reducible rfl
    case rest18 =>
    try simp only [Act.put, List.setIfInBounds_toArray, List.set_cons_zero, List.set_cons_succ]
    refine HeadW.take (i := 18) (oi := ?oi19) (v := ?v19) ?hi19 (by kernel_rfl) ?hQ19 (Or.inl ⟨?hg19, ?hy19⟩) hH ?rest19
    case hi19 => simp only [List.getElem?_toArray, List.getElem?_cons_succ, List.getElem?_cons_zero] <;> rfl
    case hQ19 => exact fun _ _ _ h => h
    case hg19 => rfl
    case hy19 => intro W hSw; obtain ⟨⟨s0, s1, s2, s3, s4⟩, t0, t1, t2, t3, t4⟩ := hSw; go_simp; try with_reducible rfl
    case rest19 =>
    try simp only [Act.put, List.setIfInBounds_toArray, List.set_cons_zero, List.set_cons_succ]
    refine HeadW.one (i := 19) (o := ?oi20) ?hi20 (by kernel_rfl) ?st20
    case hi20 => simp only [List.getElem?_toArray, List.getElem?_cons_succ, List.getElem?_cons_zero] <;> rfl
    case st20 =>
    intro K hK
    go_simp
    go_at_call 25
    refine (F4.out _ HX106.out).mono ?_
    rintro e w107 ⟨v107, rfl, hv, hb⟩
    obtain ⟨o107, c107, rfl, _, _, hrow⟩ := hv.row
    have R107 := Lib.hid hrow
    clear hv hrow
    have HX107 := Lib.hid (HX106.out.later hb)
    have HY107 := Lib.hid (HY106.out.later hb)
    have Pa107 := Lib.hid (Pa106.out.later hb)
    have Pb107 := Lib.hid (Pb106.out.later hb)
    have HB107 := Lib.hid (bTr HB106.out hb)
    clear hb HX106 HY106 HB106 Pa106 Pb106 hH
    have hH : BoxM gs gt p q x y w107 := BoxM.of Pa107.out Pb107.out
    try dsimp only
    refine hK.out _ _ hH ?_
    clear hK K
    try simp only [Act.put, List.setIfInBounds_toArray, List.set_cons_zero, List.set_cons_succ]
    refine HeadW.one (i := 20) (o := ?oi21) ?hi21 (by kernel_rfl) ?st21
    case hi21 => simp only [List.getElem?_toArray, List.getElem?_cons_succ, List.getElem?_cons_zero] <;> rfl
    case st21 =>
    intro K hK
    go_simp
    try dsimp only
    refine hK.out _ _ hH ?_
    clear hK K
    try simp only [Act.put, List.setIfInBounds_toArray, List.set_cons_zero, List.set_cons_succ]
    refine HeadW.take (i := 21) (oi := ?oi22) (v := ?v22) ?hi22 (by kernel_rfl) ?hQ22 (Or.inl ⟨?hg22, ?hy22⟩) hH ?rest22
    case hi22 => simp only [List.getElem?_toArray, List.getElem?_cons_succ, List.getElem?_cons_zero] <;> rfl
    case hQ22 => exact fun _ _ _ h => h
    case hg22 => rfl
    case hy22 => intro W hSw; obtain ⟨⟨s0, s1, s2, s3, s4⟩, t0, t1, t2, t3, t4⟩ := hSw; go_simp; try with_reducible rfl
    case rest22 =>
    try simp only [Act.put, List.setIfInBounds_toArray, List.set_cons_zero, List.set_cons_succ]
    refine HeadW.take (i := 22) (oi := ?oi23) (v := ?v23) ?hi23 (by kernel_rfl) ?hQ23 (Or.inl ⟨?hg23, ?hy23⟩) hH ?rest23
    case hi23 => simp only [List.getElem?_toArray, List.getElem?_cons_succ, List.getElem?_cons_zero] <;> rfl
    case hQ23 => exact fun _ _ _ h => h
    case hg23 => rfl
    case hy23 => intro W hSw; obtain ⟨⟨s0, s1, s2, s3, s4⟩, t0, t1, t2, t3, t4⟩ := hSw; go_simp; try with_reducible rfl
    case rest23 =>
    try simp only [Act.put, List.setIfInBounds_toArray, List.set_cons_zero, List.set_cons_succ]
    refine HeadW.take (i := 23) (oi := ?oi24) (v := ?v24) ?hi24 (by kernel_rfl) ?hQ24 (Or.inl ⟨?hg24, ?hy24⟩) hH ?rest24
    case hi24 => simp only [List.getElem?_toArray, List.getElem?_cons_succ, List.getElem?_cons_zero] <;> rfl
    case hQ24 => exact fun _ _ _ h => h
    case hg24 => rfl
    case hy24 => intro W hSw; obtain ⟨⟨s0, s1, s2, s3, s4⟩, t0, t1, t2, t3, t4⟩ := hSw; go_simp; try with_reducible rfl
    case rest24 =>
    try simp only [Act.put, List.setIfInBounds_toArray, List.set_cons_zero, List.set_cons_succ]
    refine HeadW.one (i := 24) (o := ?oi25) ?hi25 (by kernel_rfl) ?st25
    case hi25 => simp only [List.getElem?_toArray, List.getElem?_cons_succ, List.getElem?_cons_zero] <;> rfl
    case st25 =>
    intro K hK
    go_simp
    go_at_call 14
    refine (awake_any _).mono ?_
    rintro e w108 ⟨rfl, hb⟩
    have HX108 := Lib.hid (HX107.out.later hb)
    have HY108 := Lib.hid (HY107.out.later hb)
    have Pa108 := Lib.hid (Pa107.out.later hb)
    have Pb108 := Lib.hid (Pb107.out.later hb)
    have HB108 := Lib.hid (bTr HB107.out hb)
    clear hb HX107 HY107 HB107 Pa107 Pb107 hH
    have hH : BoxM gs gt p q x y w108 := BoxM.of Pa108.out Pb108.out
    try dsimp only
    refine hK.out _ _ hH ?_
    clear hK K
    try simp only [Act.put, List.setIfInBounds_toArray, List.set_cons_zero, List.set_cons_succ]
    refine HeadW.take (i := 25) (oi := ?oi26) (v := ?v26) ?hi26 (by kernel_rfl) ?hQ26 (Or.inl ⟨?hg26, ?hy26⟩) hH ?rest26
    case hi26 => simp only [List.getElem?_toArray, List.getElem?_cons_succ, List.getElem?_cons_zero] <;> rfl
    case hQ26 => exact fun _ _ _ h => h
    case hg26 => rfl
    case hy26 => intro W hSw; obtain ⟨⟨s0, s1, s2, s3, s4⟩, t0, t1, t2, t3, t4⟩ := hSw; go_simp; try with_reducible rfl
    case rest26 =>
    try simp only [Act.put, List.setIfInBounds_toArray, List.set_cons_zero, List.set_cons_succ]
    refine HeadW.done (by kernel_rfl) ?_
    go_wp2_with fail
    go_ret
    exact ⟨rfl, HB108.out⟩
end Go.Proofs.Ytjciniffkdadaaa
