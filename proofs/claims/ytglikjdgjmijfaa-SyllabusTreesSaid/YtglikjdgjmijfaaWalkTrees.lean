/-
  The walk of the statement on Under, Path, Common and Leaves.
-/
import Derived.Test.YtglikjdgjmijfaaSKit
import Derived.Test.YtglikjdgjmijfaaHeldTail
namespace Go.Proofs.Ytglikjdgjmijfaa
open Go.RowKit
set_option linter.unusedSimpArgs false
set_option linter.unusedVariables false

def BoxS (gs : Nat) (x y z : Value) (W : World) : Prop := W.cell? ⟨gs, 0, none⟩ = some x ∧ W.cell? ⟨gs, 1, none⟩ = some y ∧ W.cell? ⟨gs, 2, none⟩ = some z
theorem und_len (S : Syl) (t : Int) : (S.und t).length ≤ 1000000 := by
  unfold Syl.und
  split
  · rename_i h
    obtain ⟨k, _, _, _, hn⟩ := S.has_yes h
    have := filt_len (fun i => decide (t.toNat ∈ path S.tp i)) S.nT
    unfold underL
    omega
  · simp
theorem pth_len (S : Syl) (t : Int) : (S.pth t).length ≤ 1000000 := by
  unfold Syl.pth
  split
  · rename_i h
    obtain ⟨k, rfl, _, _, hn⟩ := S.has_yes h
    have := path_len S.tp k
    show (path S.tp k).length ≤ _
    omega
  · simp
theorem lvs_len (S : Syl) : S.lvs.length ≤ 1000000 := by
  unfold Syl.lvs
  split
  · rename_i h
    obtain ⟨hn, _⟩ := S.ok h
    have := filt_len (leafB S.tp S.nT) S.nT
    omega
  · simp
set_option maxRecDepth 100000 in
set_option maxHeartbeats 8000000 in
theorem walkSyllabusTrees (o : Option Addr) (n c : Nat) (zs : List Int) (a b : Int) (w : World) (h0 : IsRow .i64 w o n c zs) (l1 : -9223372036854775808 ≤ a) (u1 : a < 9223372036854775808) (l2 : -9223372036854775808 ≤ b) (u2 : b < 9223372036854775808) :
    Calls Try.prog 5 #[.slice o n c, .int .i64 a, .int .i64 b] w fun e w' => e = .returned (.bool true) ∧ Below w.heap.size w w' := by
  obtain ⟨hr, h1, h2, h3⟩ := row_of h0
  go_enter Try.func5, Try.ntmps5
  go_wp2_with fail
  refine (tape_new hr h1 h2 h3).mono ?_
  rintro e w1 ⟨g, n9, rfl, ht1, hb1, hg⟩
  go_wp2_with fail
  refine (draw_any 6 (by omega) (by omega) ht1).mono ?_
  rintro e w2 ⟨p, lt, lo, lc, rfl, hS, _, ht2, hg2, _, _, _, _, _⟩
  have HB2 := Lib.hid (hb1.trans (bGr hg2 hg hb1.size))
  generalize sylOf lt lo lc = S at hS ⊢
  have hb3 := bAl (Below.refl _ w2) (.cells (sylC p S) 27)
  have P3 := Lib.hid (Blk.new w2 27 (sylC p S))
  have HS3 := Lib.hid (hS.later hb3)
  have HB3 := Lib.hid (bAl HB2.out (.cells (sylC p S) 27))
  clear hr h1 h2 h3 hb1 ht1 hg hS ht2 hg2 hb3 HB2
  have HXX := Lib.hid (fun W => cut_any a 7 (by omega) (by omega) ⟨l1, u1⟩ W)
  have HYY := Lib.hid (fun W => cut_any b 7 (by omega) (by omega) ⟨l2, u2⟩ W)
  generalize a % 7 = x at HXX
  generalize b % 7 = y at HYY
  have F1 := Lib.hid (fun W (hX : SylIn W W.heap.size p S) => under_any p S a W hX)
  have G1 := Lib.hid (fun W (hX : SylIn W W.heap.size p S) => runder_any p S a W hX)
  have LN1 := Lib.hid (und_len S a)
  generalize S.und a = m1 at F1 G1 LN1
  have F2 := Lib.hid (fun W (hX : SylIn W W.heap.size p S) => under_any p S x W hX)
  have G2 := Lib.hid (fun W (hX : SylIn W W.heap.size p S) => runder_any p S x W hX)
  have LN2 := Lib.hid (und_len S x)
  generalize S.und x = m2 at F2 G2 LN2
  have F3 := Lib.hid (fun W (hX : SylIn W W.heap.size p S) => path_any p S b W hX)
  have G3 := Lib.hid (fun W (hX : SylIn W W.heap.size p S) => rpath_any p S b W hX)
  have LN3 := Lib.hid (pth_len S b)
  generalize S.pth b = m3 at F3 G3 LN3
  have F4 := Lib.hid (fun W (hX : SylIn W W.heap.size p S) => path_any p S y W hX)
  have G4 := Lib.hid (fun W (hX : SylIn W W.heap.size p S) => rpath_any p S y W hX)
  have LN4 := Lib.hid (pth_len S y)
  generalize S.pth y = m4 at F4 G4 LN4
  have F5 := Lib.hid (fun W (hX : SylIn W W.heap.size p S) => common_any p S a b W hX)
  have G5 := Lib.hid (fun W (hX : SylIn W W.heap.size p S) => rcommon_any p S a b W hX)
  generalize S.com a b = m5 at F5 G5
  have F6 := Lib.hid (fun W (hX : SylIn W W.heap.size p S) => common_any p S x y W hX)
  have G6 := Lib.hid (fun W (hX : SylIn W W.heap.size p S) => rcommon_any p S x y W hX)
  generalize S.com x y = m6 at F6 G6
  have F7 := Lib.hid (fun W (hX : SylIn W W.heap.size p S) => leaves_any p S  W hX)
  have G7 := Lib.hid (fun W (hX : SylIn W W.heap.size p S) => rleaves_any p S  W hX)
  have LN7 := Lib.hid (lvs_len S)
  generalize S.lvs = m7 at F7 G7 LN7
  unfold sylC at P3 HS3 HB3 F1 G1 F2 G2 F3 G3 F4 G4 F5 G5 F6 G6 F7 G7 ⊢
  go_wp2_with fail
  generalize w2.alloc _ = w3 at P3 HS3 HB3 ⊢
  generalize w2.heap.size = gs at P3 ⊢
  refine (HXX.out _).mono ?_
  rintro e w' ⟨rfl, hw'⟩
  obtain rfl := hw'
  go_wp2_with fail
  refine (HYY.out _).mono ?_
  rintro e w' ⟨rfl, hw'⟩
  obtain rfl := hw'
  have hmm5 : (m5 == m5) = true := by simp
  have hmm6 : (m6 == m6) = true := by simp
  have HSc := Lib.hid (HS3.out.later (bD1 (Below.refl w3.heap.size w3)))
  have PBc := Lib.hid (P3.out.later (bD1 (Below.refl w3.heap.size w3)))
  have HBc := Lib.hid (bTr HB3.out (bD1 (Below.refl w3.heap.size w3)))
  clear HS3 P3 HB3
  go_wp2_with fail
  simp only [List.append_eq, List.cons_append, List.nil_append]
  have hH : BoxS gs (.slice p.o1 S.nT p.c1) (.slice p.o2 S.nO p.c2) (.slice p.o3 S.nC p.c3) w3.drew := ⟨PBc.out.cell 0, PBc.out.cell 1, PBc.out.cell 2⟩
  refine wp_region_held_tail (BoxS gs (.slice p.o1 S.nT p.c1) (.slice p.o2 S.nO p.c2) (.slice p.o3 S.nC p.c3)) 66 (by kernel_rfl) (by kernel_rfl) ?_
  simp only [List.drop_succ_cons, List.drop_zero]
  refine HeadW.take (i := 0) (oi := ?oi1) (v := ?v1) ?hi1 (by kernel_rfl) ?hQ1 (Or.inl ⟨?hg1, ?hy1⟩) hH ?rest1
  case hi1 => simp only [List.getElem?_toArray, List.getElem?_cons_succ, List.getElem?_cons_zero]; rfl
  case hQ1 => exact fun _ _ _ h => h
  case hg1 => rfl
  case hy1 => intro W hSw; obtain ⟨s0, s1, s2⟩ := hSw; go_simp; try with_reducible rfl
  case rest1 =>
  try simp only [Act.put, List.setIfInBounds_toArray, List.set_cons_zero, List.set_cons_succ]
  refine HeadW.take (i := 1) (oi := ?oi2) (v := ?v2) ?hi2 (by kernel_rfl) ?hQ2 (Or.inl ⟨?hg2, ?hy2⟩) hH ?rest2
  case hi2 => simp only [List.getElem?_toArray, List.getElem?_cons_succ, List.getElem?_cons_zero]; rfl
  case hQ2 => exact fun _ _ _ h => h
  case hg2 => rfl
  case hy2 => intro W hSw; obtain ⟨s0, s1, s2⟩ := hSw; go_simp; try with_reducible rfl
  case rest2 =>
  try simp only [Act.put, List.setIfInBounds_toArray, List.set_cons_zero, List.set_cons_succ]
  refine HeadW.take (i := 3) (oi := ?oi3) (v := ?v3) ?hi3 (by kernel_rfl) ?hQ3 (Or.inl ⟨?hg3, ?hy3⟩) hH ?rest3
  case hi3 => simp only [List.getElem?_toArray, List.getElem?_cons_succ, List.getElem?_cons_zero]; rfl
  case hQ3 => exact fun _ _ _ h => h
  case hg3 => rfl
  case hy3 => intro W hSw; obtain ⟨s0, s1, s2⟩ := hSw; go_simp; try with_reducible rfl
  case rest3 =>
  try simp only [Act.put, List.setIfInBounds_toArray, List.set_cons_zero, List.set_cons_succ]
  refine HeadW.take (i := 4) (oi := ?oi4) (v := ?v4) ?hi4 (by kernel_rfl) ?hQ4 (Or.inl ⟨?hg4, ?hy4⟩) hH ?rest4
  case hi4 => simp only [List.getElem?_toArray, List.getElem?_cons_succ, List.getElem?_cons_zero]; rfl
  case hQ4 => exact fun _ _ _ h => h
  case hg4 => rfl
  case hy4 => intro W hSw; obtain ⟨s0, s1, s2⟩ := hSw; go_simp; try with_reducible rfl
  case rest4 =>
  try simp only [Act.put, List.setIfInBounds_toArray, List.set_cons_zero, List.set_cons_succ]
  refine HeadW.one (i := 2) (o := ?oi5) ?hi5 (by kernel_rfl) ?st5
  case hi5 => simp only [List.getElem?_toArray, List.getElem?_cons_succ, List.getElem?_cons_zero]; rfl
  case st5 =>
  intro K hK
  go_simp
  go_at_call 18
  refine (F1.out _ HSc.out).mono ?_
  rintro e w4 ⟨v5, rfl, hv5, hb⟩
  obtain ⟨obw4, cbw4, rfl, _, _, hrow⟩ := hv5.row
  have RA := Lib.hid hrow
  clear hrow hv5
  have HSc := Lib.hid (HSc.out.later hb)
  have PBc := Lib.hid (PBc.out.later hb)
  have HBc := Lib.hid (bTr HBc.out hb)
  clear hb hH
  have hH : BoxS gs (.slice p.o1 S.nT p.c1) (.slice p.o2 S.nO p.c2) (.slice p.o3 S.nC p.c3) _ := ⟨PBc.out.cell 0, PBc.out.cell 1, PBc.out.cell 2⟩
  try dsimp only
  refine hK.out _ _ hH ?_
  clear hK K
  try simp only [Act.put, List.setIfInBounds_toArray, List.set_cons_zero, List.set_cons_succ]
  refine HeadW.one (i := 5) (o := ?oi6) ?hi6 (by kernel_rfl) ?st6
  case hi6 => simp only [List.getElem?_toArray, List.getElem?_cons_succ, List.getElem?_cons_zero]; rfl
  case st6 =>
  intro K hK
  go_simp
  go_at_call 19
  refine (G1.out _ HSc.out).mono ?_
  rintro e w5 ⟨v5, rfl, hv5, hb⟩
  obtain ⟨obw5, cbw5, rfl, _, _, hrow⟩ := hv5.row
  have RA := Lib.hid ((RA.out.below hb (Nat.le_refl _)).more hb.size)
  have RB := Lib.hid hrow
  clear hrow hv5
  have HSc := Lib.hid (HSc.out.later hb)
  have PBc := Lib.hid (PBc.out.later hb)
  have HBc := Lib.hid (bTr HBc.out hb)
  clear hb hH
  have hH : BoxS gs (.slice p.o1 S.nT p.c1) (.slice p.o2 S.nO p.c2) (.slice p.o3 S.nC p.c3) _ := ⟨PBc.out.cell 0, PBc.out.cell 1, PBc.out.cell 2⟩
  try dsimp only
  refine hK.out _ _ hH ?_
  clear hK K
  try simp only [Act.put, List.setIfInBounds_toArray, List.set_cons_zero, List.set_cons_succ]
  refine HeadW.one (i := 6) (o := ?oi7) ?hi7 (by kernel_rfl) ?st7
  case hi7 => simp only [List.getElem?_toArray, List.getElem?_cons_succ, List.getElem?_cons_zero]; rfl
  case st7 =>
  intro K hK
  go_simp
  go_at_call 17
  refine (same_row _ _ _ _ _ _ _ _ _ RA.out RB.out (Nat.le_refl _) (Nat.le_refl _) LN1.out).mono ?_
  rintro e w6 ⟨rfl, hb⟩
  clear RA RB
  have HSc := Lib.hid (HSc.out.later hb)
  have PBc := Lib.hid (PBc.out.later hb)
  have HBc := Lib.hid (bTr HBc.out hb)
  clear hb hH
  have hH : BoxS gs (.slice p.o1 S.nT p.c1) (.slice p.o2 S.nO p.c2) (.slice p.o3 S.nC p.c3) _ := ⟨PBc.out.cell 0, PBc.out.cell 1, PBc.out.cell 2⟩
  try dsimp only
  refine hK.out _ _ hH ?_
  clear hK K
  try simp only [Act.put, List.setIfInBounds_toArray, List.set_cons_zero, List.set_cons_succ]
  refine HeadW.take (i := 7) (oi := ?oi8) (v := ?v8) ?hi8 (by kernel_rfl) ?hQ8 (Or.inl ⟨?hg8, ?hy8⟩) hH ?rest8
  case hi8 => simp only [List.getElem?_toArray, List.getElem?_cons_succ, List.getElem?_cons_zero]; rfl
  case hQ8 => exact fun _ _ _ h => h
  case hg8 => rfl
  case hy8 => intro W hSw; obtain ⟨s0, s1, s2⟩ := hSw; go_simp; try with_reducible rfl
  case rest8 =>
  try simp only [Act.put, List.setIfInBounds_toArray, List.set_cons_zero, List.set_cons_succ]
  refine HeadW.take (i := 8) (oi := ?oi9) (v := ?v9) ?hi9 (by kernel_rfl) ?hQ9 (Or.inl ⟨?hg9, ?hy9⟩) hH ?rest9
  case hi9 => simp only [List.getElem?_toArray, List.getElem?_cons_succ, List.getElem?_cons_zero]; rfl
  case hQ9 => exact fun _ _ _ h => h
  case hg9 => rfl
  case hy9 => intro W hSw; obtain ⟨s0, s1, s2⟩ := hSw; go_simp; try with_reducible rfl
  case rest9 =>
  try simp only [Act.put, List.setIfInBounds_toArray, List.set_cons_zero, List.set_cons_succ]
  refine HeadW.take (i := 9) (oi := ?oi10) (v := ?v10) ?hi10 (by kernel_rfl) ?hQ10 (Or.inl ⟨?hg10, ?hy10⟩) hH ?rest10
  case hi10 => simp only [List.getElem?_toArray, List.getElem?_cons_succ, List.getElem?_cons_zero]; rfl
  case hQ10 => exact fun _ _ _ h => h
  case hg10 => rfl
  case hy10 => intro W hSw; obtain ⟨s0, s1, s2⟩ := hSw; go_simp; try with_reducible rfl
  case rest10 =>
  try simp only [Act.put, List.setIfInBounds_toArray, List.set_cons_zero, List.set_cons_succ]
  refine HeadW.take (i := 11) (oi := ?oi11) (v := ?v11) ?hi11 (by kernel_rfl) ?hQ11 (Or.inl ⟨?hg11, ?hy11⟩) hH ?rest11
  case hi11 => simp only [List.getElem?_toArray, List.getElem?_cons_succ, List.getElem?_cons_zero]; rfl
  case hQ11 => exact fun _ _ _ h => h
  case hg11 => rfl
  case hy11 => intro W hSw; obtain ⟨s0, s1, s2⟩ := hSw; go_simp; try with_reducible rfl
  case rest11 =>
  try simp only [Act.put, List.setIfInBounds_toArray, List.set_cons_zero, List.set_cons_succ]
  refine HeadW.take (i := 12) (oi := ?oi12) (v := ?v12) ?hi12 (by kernel_rfl) ?hQ12 (Or.inl ⟨?hg12, ?hy12⟩) hH ?rest12
  case hi12 => simp only [List.getElem?_toArray, List.getElem?_cons_succ, List.getElem?_cons_zero]; rfl
  case hQ12 => exact fun _ _ _ h => h
  case hg12 => rfl
  case hy12 => intro W hSw; obtain ⟨s0, s1, s2⟩ := hSw; go_simp; try with_reducible rfl
  case rest12 =>
  try simp only [Act.put, List.setIfInBounds_toArray, List.set_cons_zero, List.set_cons_succ]
  refine HeadW.one (i := 10) (o := ?oi13) ?hi13 (by kernel_rfl) ?st13
  case hi13 => simp only [List.getElem?_toArray, List.getElem?_cons_succ, List.getElem?_cons_zero]; rfl
  case st13 =>
  intro K hK
  go_simp
  go_at_call 18
  refine (F2.out _ HSc.out).mono ?_
  rintro e w7 ⟨v5, rfl, hv5, hb⟩
  obtain ⟨obw7, cbw7, rfl, _, _, hrow⟩ := hv5.row
  have RA := Lib.hid hrow
  clear hrow hv5
  have HSc := Lib.hid (HSc.out.later hb)
  have PBc := Lib.hid (PBc.out.later hb)
  have HBc := Lib.hid (bTr HBc.out hb)
  clear hb hH
  have hH : BoxS gs (.slice p.o1 S.nT p.c1) (.slice p.o2 S.nO p.c2) (.slice p.o3 S.nC p.c3) _ := ⟨PBc.out.cell 0, PBc.out.cell 1, PBc.out.cell 2⟩
  try dsimp only
  refine hK.out _ _ hH ?_
  clear hK K
  try simp only [Act.put, List.setIfInBounds_toArray, List.set_cons_zero, List.set_cons_succ]
  refine HeadW.one (i := 13) (o := ?oi14) ?hi14 (by kernel_rfl) ?st14
  case hi14 => simp only [List.getElem?_toArray, List.getElem?_cons_succ, List.getElem?_cons_zero]; rfl
  case st14 =>
  intro K hK
  go_simp
  go_at_call 19
  refine (G2.out _ HSc.out).mono ?_
  rintro e w8 ⟨v5, rfl, hv5, hb⟩
  obtain ⟨obw8, cbw8, rfl, _, _, hrow⟩ := hv5.row
  have RA := Lib.hid ((RA.out.below hb (Nat.le_refl _)).more hb.size)
  have RB := Lib.hid hrow
  clear hrow hv5
  have HSc := Lib.hid (HSc.out.later hb)
  have PBc := Lib.hid (PBc.out.later hb)
  have HBc := Lib.hid (bTr HBc.out hb)
  clear hb hH
  have hH : BoxS gs (.slice p.o1 S.nT p.c1) (.slice p.o2 S.nO p.c2) (.slice p.o3 S.nC p.c3) _ := ⟨PBc.out.cell 0, PBc.out.cell 1, PBc.out.cell 2⟩
  try dsimp only
  refine hK.out _ _ hH ?_
  clear hK K
  try simp only [Act.put, List.setIfInBounds_toArray, List.set_cons_zero, List.set_cons_succ]
  refine HeadW.one (i := 14) (o := ?oi15) ?hi15 (by kernel_rfl) ?st15
  case hi15 => simp only [List.getElem?_toArray, List.getElem?_cons_succ, List.getElem?_cons_zero]; rfl
  case st15 =>
  intro K hK
  go_simp
  go_at_call 17
  refine (same_row _ _ _ _ _ _ _ _ _ RA.out RB.out (Nat.le_refl _) (Nat.le_refl _) LN2.out).mono ?_
  rintro e w9 ⟨rfl, hb⟩
  clear RA RB
  have HSc := Lib.hid (HSc.out.later hb)
  have PBc := Lib.hid (PBc.out.later hb)
  have HBc := Lib.hid (bTr HBc.out hb)
  clear hb hH
  have hH : BoxS gs (.slice p.o1 S.nT p.c1) (.slice p.o2 S.nO p.c2) (.slice p.o3 S.nC p.c3) _ := ⟨PBc.out.cell 0, PBc.out.cell 1, PBc.out.cell 2⟩
  try dsimp only
  refine hK.out _ _ hH ?_
  clear hK K
  try simp only [Act.put, List.setIfInBounds_toArray, List.set_cons_zero, List.set_cons_succ]
  refine HeadW.take (i := 15) (oi := ?oi16) (v := ?v16) ?hi16 (by kernel_rfl) ?hQ16 (Or.inl ⟨?hg16, ?hy16⟩) hH ?rest16
  case hi16 => simp only [List.getElem?_toArray, List.getElem?_cons_succ, List.getElem?_cons_zero]; rfl
  case hQ16 => exact fun _ _ _ h => h
  case hg16 => rfl
  case hy16 => intro W hSw; obtain ⟨s0, s1, s2⟩ := hSw; go_simp; try with_reducible rfl
  case rest16 =>
  try simp only [Act.put, List.setIfInBounds_toArray, List.set_cons_zero, List.set_cons_succ]
  refine HeadW.take (i := 16) (oi := ?oi17) (v := ?v17) ?hi17 (by kernel_rfl) ?hQ17 (Or.inl ⟨?hg17, ?hy17⟩) hH ?rest17
  case hi17 => simp only [List.getElem?_toArray, List.getElem?_cons_succ, List.getElem?_cons_zero]; rfl
  case hQ17 => exact fun _ _ _ h => h
  case hg17 => rfl
  case hy17 => intro W hSw; obtain ⟨s0, s1, s2⟩ := hSw; go_simp; try with_reducible rfl
  case rest17 =>
  try simp only [Act.put, List.setIfInBounds_toArray, List.set_cons_zero, List.set_cons_succ]
  refine HeadW.take (i := 17) (oi := ?oi18) (v := ?v18) ?hi18 (by kernel_rfl) ?hQ18 (Or.inl ⟨?hg18, ?hy18⟩) hH ?rest18
  case hi18 => simp only [List.getElem?_toArray, List.getElem?_cons_succ, List.getElem?_cons_zero]; rfl
  case hQ18 => exact fun _ _ _ h => h
  case hg18 => rfl
  case hy18 => intro W hSw; obtain ⟨s0, s1, s2⟩ := hSw; go_simp; try with_reducible rfl
  case rest18 =>
  try simp only [Act.put, List.setIfInBounds_toArray, List.set_cons_zero, List.set_cons_succ]
  refine HeadW.take (i := 18) (oi := ?oi19) (v := ?v19) ?hi19 (by kernel_rfl) ?hQ19 (Or.inl ⟨?hg19, ?hy19⟩) hH ?rest19
  case hi19 => simp only [List.getElem?_toArray, List.getElem?_cons_succ, List.getElem?_cons_zero]; rfl
  case hQ19 => exact fun _ _ _ h => h
  case hg19 => rfl
  case hy19 => intro W hSw; obtain ⟨s0, s1, s2⟩ := hSw; go_simp; try with_reducible rfl
  case rest19 =>
  try simp only [Act.put, List.setIfInBounds_toArray, List.set_cons_zero, List.set_cons_succ]
  refine HeadW.take (i := 20) (oi := ?oi20) (v := ?v20) ?hi20 (by kernel_rfl) ?hQ20 (Or.inl ⟨?hg20, ?hy20⟩) hH ?rest20
  case hi20 => simp only [List.getElem?_toArray, List.getElem?_cons_succ, List.getElem?_cons_zero]; rfl
  case hQ20 => exact fun _ _ _ h => h
  case hg20 => rfl
  case hy20 => intro W hSw; obtain ⟨s0, s1, s2⟩ := hSw; go_simp; try with_reducible rfl
  case rest20 =>
  try simp only [Act.put, List.setIfInBounds_toArray, List.set_cons_zero, List.set_cons_succ]
  refine HeadW.take (i := 21) (oi := ?oi21) (v := ?v21) ?hi21 (by kernel_rfl) ?hQ21 (Or.inl ⟨?hg21, ?hy21⟩) hH ?rest21
  case hi21 => simp only [List.getElem?_toArray, List.getElem?_cons_succ, List.getElem?_cons_zero]; rfl
  case hQ21 => exact fun _ _ _ h => h
  case hg21 => rfl
  case hy21 => intro W hSw; obtain ⟨s0, s1, s2⟩ := hSw; go_simp; try with_reducible rfl
  case rest21 =>
  try simp only [Act.put, List.setIfInBounds_toArray, List.set_cons_zero, List.set_cons_succ]
  refine HeadW.one (i := 19) (o := ?oi22) ?hi22 (by kernel_rfl) ?st22
  case hi22 => simp only [List.getElem?_toArray, List.getElem?_cons_succ, List.getElem?_cons_zero]; rfl
  case st22 =>
  intro K hK
  go_simp
  go_at_call 20
  refine (F3.out _ HSc.out).mono ?_
  rintro e w10 ⟨v5, rfl, hv5, hb⟩
  obtain ⟨obw10, cbw10, rfl, _, _, hrow⟩ := hv5.row
  have RA := Lib.hid hrow
  clear hrow hv5
  have HSc := Lib.hid (HSc.out.later hb)
  have PBc := Lib.hid (PBc.out.later hb)
  have HBc := Lib.hid (bTr HBc.out hb)
  clear hb hH
  have hH : BoxS gs (.slice p.o1 S.nT p.c1) (.slice p.o2 S.nO p.c2) (.slice p.o3 S.nC p.c3) _ := ⟨PBc.out.cell 0, PBc.out.cell 1, PBc.out.cell 2⟩
  try dsimp only
  refine hK.out _ _ hH ?_
  clear hK K
  try simp only [Act.put, List.setIfInBounds_toArray, List.set_cons_zero, List.set_cons_succ]
  refine HeadW.one (i := 22) (o := ?oi23) ?hi23 (by kernel_rfl) ?st23
  case hi23 => simp only [List.getElem?_toArray, List.getElem?_cons_succ, List.getElem?_cons_zero]; rfl
  case st23 =>
  intro K hK
  go_simp
  go_at_call 21
  refine (G3.out _ HSc.out).mono ?_
  rintro e w11 ⟨v5, rfl, hv5, hb⟩
  obtain ⟨obw11, cbw11, rfl, _, _, hrow⟩ := hv5.row
  have RA := Lib.hid ((RA.out.below hb (Nat.le_refl _)).more hb.size)
  have RB := Lib.hid hrow
  clear hrow hv5
  have HSc := Lib.hid (HSc.out.later hb)
  have PBc := Lib.hid (PBc.out.later hb)
  have HBc := Lib.hid (bTr HBc.out hb)
  clear hb hH
  have hH : BoxS gs (.slice p.o1 S.nT p.c1) (.slice p.o2 S.nO p.c2) (.slice p.o3 S.nC p.c3) _ := ⟨PBc.out.cell 0, PBc.out.cell 1, PBc.out.cell 2⟩
  try dsimp only
  refine hK.out _ _ hH ?_
  clear hK K
  try simp only [Act.put, List.setIfInBounds_toArray, List.set_cons_zero, List.set_cons_succ]
  refine HeadW.one (i := 23) (o := ?oi24) ?hi24 (by kernel_rfl) ?st24
  case hi24 => simp only [List.getElem?_toArray, List.getElem?_cons_succ, List.getElem?_cons_zero]; rfl
  case st24 =>
  intro K hK
  go_simp
  go_at_call 17
  refine (same_row _ _ _ _ _ _ _ _ _ RA.out RB.out (Nat.le_refl _) (Nat.le_refl _) LN3.out).mono ?_
  rintro e w12 ⟨rfl, hb⟩
  clear RA RB
  have HSc := Lib.hid (HSc.out.later hb)
  have PBc := Lib.hid (PBc.out.later hb)
  have HBc := Lib.hid (bTr HBc.out hb)
  clear hb hH
  have hH : BoxS gs (.slice p.o1 S.nT p.c1) (.slice p.o2 S.nO p.c2) (.slice p.o3 S.nC p.c3) _ := ⟨PBc.out.cell 0, PBc.out.cell 1, PBc.out.cell 2⟩
  try dsimp only
  refine hK.out _ _ hH ?_
  clear hK K
  try simp only [Act.put, List.setIfInBounds_toArray, List.set_cons_zero, List.set_cons_succ]
  refine HeadW.take (i := 24) (oi := ?oi25) (v := ?v25) ?hi25 (by kernel_rfl) ?hQ25 (Or.inl ⟨?hg25, ?hy25⟩) hH ?rest25
  case hi25 => simp only [List.getElem?_toArray, List.getElem?_cons_succ, List.getElem?_cons_zero]; rfl
  case hQ25 => exact fun _ _ _ h => h
  case hg25 => rfl
  case hy25 => intro W hSw; obtain ⟨s0, s1, s2⟩ := hSw; go_simp; try with_reducible rfl
  case rest25 =>
  try simp only [Act.put, List.setIfInBounds_toArray, List.set_cons_zero, List.set_cons_succ]
  refine HeadW.take (i := 25) (oi := ?oi26) (v := ?v26) ?hi26 (by kernel_rfl) ?hQ26 (Or.inl ⟨?hg26, ?hy26⟩) hH ?rest26
  case hi26 => simp only [List.getElem?_toArray, List.getElem?_cons_succ, List.getElem?_cons_zero]; rfl
  case hQ26 => exact fun _ _ _ h => h
  case hg26 => rfl
  case hy26 => intro W hSw; obtain ⟨s0, s1, s2⟩ := hSw; go_simp; try with_reducible rfl
  case rest26 =>
  try simp only [Act.put, List.setIfInBounds_toArray, List.set_cons_zero, List.set_cons_succ]
  refine HeadW.take (i := 26) (oi := ?oi27) (v := ?v27) ?hi27 (by kernel_rfl) ?hQ27 (Or.inl ⟨?hg27, ?hy27⟩) hH ?rest27
  case hi27 => simp only [List.getElem?_toArray, List.getElem?_cons_succ, List.getElem?_cons_zero]; rfl
  case hQ27 => exact fun _ _ _ h => h
  case hg27 => rfl
  case hy27 => intro W hSw; obtain ⟨s0, s1, s2⟩ := hSw; go_simp; try with_reducible rfl
  case rest27 =>
  try simp only [Act.put, List.setIfInBounds_toArray, List.set_cons_zero, List.set_cons_succ]
  refine HeadW.take (i := 27) (oi := ?oi28) (v := ?v28) ?hi28 (by kernel_rfl) ?hQ28 (Or.inl ⟨?hg28, ?hy28⟩) hH ?rest28
  case hi28 => simp only [List.getElem?_toArray, List.getElem?_cons_succ, List.getElem?_cons_zero]; rfl
  case hQ28 => exact fun _ _ _ h => h
  case hg28 => rfl
  case hy28 => intro W hSw; obtain ⟨s0, s1, s2⟩ := hSw; go_simp; try with_reducible rfl
  case rest28 =>
  try simp only [Act.put, List.setIfInBounds_toArray, List.set_cons_zero, List.set_cons_succ]
  refine HeadW.take (i := 29) (oi := ?oi29) (v := ?v29) ?hi29 (by kernel_rfl) ?hQ29 (Or.inl ⟨?hg29, ?hy29⟩) hH ?rest29
  case hi29 => simp only [List.getElem?_toArray, List.getElem?_cons_succ, List.getElem?_cons_zero]; rfl
  case hQ29 => exact fun _ _ _ h => h
  case hg29 => rfl
  case hy29 => intro W hSw; obtain ⟨s0, s1, s2⟩ := hSw; go_simp; try with_reducible rfl
  case rest29 =>
  try simp only [Act.put, List.setIfInBounds_toArray, List.set_cons_zero, List.set_cons_succ]
  refine HeadW.take (i := 30) (oi := ?oi30) (v := ?v30) ?hi30 (by kernel_rfl) ?hQ30 (Or.inl ⟨?hg30, ?hy30⟩) hH ?rest30
  case hi30 => simp only [List.getElem?_toArray, List.getElem?_cons_succ, List.getElem?_cons_zero]; rfl
  case hQ30 => exact fun _ _ _ h => h
  case hg30 => rfl
  case hy30 => intro W hSw; obtain ⟨s0, s1, s2⟩ := hSw; go_simp; try with_reducible rfl
  case rest30 =>
  try simp only [Act.put, List.setIfInBounds_toArray, List.set_cons_zero, List.set_cons_succ]
  refine HeadW.one (i := 28) (o := ?oi31) ?hi31 (by kernel_rfl) ?st31
  case hi31 => simp only [List.getElem?_toArray, List.getElem?_cons_succ, List.getElem?_cons_zero]; rfl
  case st31 =>
  intro K hK
  go_simp
  go_at_call 20
  refine (F4.out _ HSc.out).mono ?_
  rintro e w13 ⟨v5, rfl, hv5, hb⟩
  obtain ⟨obw13, cbw13, rfl, _, _, hrow⟩ := hv5.row
  have RA := Lib.hid hrow
  clear hrow hv5
  have HSc := Lib.hid (HSc.out.later hb)
  have PBc := Lib.hid (PBc.out.later hb)
  have HBc := Lib.hid (bTr HBc.out hb)
  clear hb hH
  have hH : BoxS gs (.slice p.o1 S.nT p.c1) (.slice p.o2 S.nO p.c2) (.slice p.o3 S.nC p.c3) _ := ⟨PBc.out.cell 0, PBc.out.cell 1, PBc.out.cell 2⟩
  try dsimp only
  refine hK.out _ _ hH ?_
  clear hK K
  try simp only [Act.put, List.setIfInBounds_toArray, List.set_cons_zero, List.set_cons_succ]
  refine HeadW.one (i := 31) (o := ?oi32) ?hi32 (by kernel_rfl) ?st32
  case hi32 => simp only [List.getElem?_toArray, List.getElem?_cons_succ, List.getElem?_cons_zero]; rfl
  case st32 =>
  intro K hK
  go_simp
  go_at_call 21
  refine (G4.out _ HSc.out).mono ?_
  rintro e w14 ⟨v5, rfl, hv5, hb⟩
  obtain ⟨obw14, cbw14, rfl, _, _, hrow⟩ := hv5.row
  have RA := Lib.hid ((RA.out.below hb (Nat.le_refl _)).more hb.size)
  have RB := Lib.hid hrow
  clear hrow hv5
  have HSc := Lib.hid (HSc.out.later hb)
  have PBc := Lib.hid (PBc.out.later hb)
  have HBc := Lib.hid (bTr HBc.out hb)
  clear hb hH
  have hH : BoxS gs (.slice p.o1 S.nT p.c1) (.slice p.o2 S.nO p.c2) (.slice p.o3 S.nC p.c3) _ := ⟨PBc.out.cell 0, PBc.out.cell 1, PBc.out.cell 2⟩
  try dsimp only
  refine hK.out _ _ hH ?_
  clear hK K
  try simp only [Act.put, List.setIfInBounds_toArray, List.set_cons_zero, List.set_cons_succ]
  refine HeadW.one (i := 32) (o := ?oi33) ?hi33 (by kernel_rfl) ?st33
  case hi33 => simp only [List.getElem?_toArray, List.getElem?_cons_succ, List.getElem?_cons_zero]; rfl
  case st33 =>
  intro K hK
  go_simp
  go_at_call 17
  refine (same_row _ _ _ _ _ _ _ _ _ RA.out RB.out (Nat.le_refl _) (Nat.le_refl _) LN4.out).mono ?_
  rintro e w15 ⟨rfl, hb⟩
  clear RA RB
  have HSc := Lib.hid (HSc.out.later hb)
  have PBc := Lib.hid (PBc.out.later hb)
  have HBc := Lib.hid (bTr HBc.out hb)
  clear hb hH
  have hH : BoxS gs (.slice p.o1 S.nT p.c1) (.slice p.o2 S.nO p.c2) (.slice p.o3 S.nC p.c3) _ := ⟨PBc.out.cell 0, PBc.out.cell 1, PBc.out.cell 2⟩
  try dsimp only
  refine hK.out _ _ hH ?_
  clear hK K
  try simp only [Act.put, List.setIfInBounds_toArray, List.set_cons_zero, List.set_cons_succ]
  refine HeadW.take (i := 33) (oi := ?oi34) (v := ?v34) ?hi34 (by kernel_rfl) ?hQ34 (Or.inl ⟨?hg34, ?hy34⟩) hH ?rest34
  case hi34 => simp only [List.getElem?_toArray, List.getElem?_cons_succ, List.getElem?_cons_zero]; rfl
  case hQ34 => exact fun _ _ _ h => h
  case hg34 => rfl
  case hy34 => intro W hSw; obtain ⟨s0, s1, s2⟩ := hSw; go_simp; try with_reducible rfl
  case rest34 =>
  try simp only [Act.put, List.setIfInBounds_toArray, List.set_cons_zero, List.set_cons_succ]
  refine HeadW.take (i := 34) (oi := ?oi35) (v := ?v35) ?hi35 (by kernel_rfl) ?hQ35 (Or.inl ⟨?hg35, ?hy35⟩) hH ?rest35
  case hi35 => simp only [List.getElem?_toArray, List.getElem?_cons_succ, List.getElem?_cons_zero]; rfl
  case hQ35 => exact fun _ _ _ h => h
  case hg35 => rfl
  case hy35 => intro W hSw; obtain ⟨s0, s1, s2⟩ := hSw; go_simp; try with_reducible rfl
  case rest35 =>
  try simp only [Act.put, List.setIfInBounds_toArray, List.set_cons_zero, List.set_cons_succ]
  refine HeadW.take (i := 35) (oi := ?oi36) (v := ?v36) ?hi36 (by kernel_rfl) ?hQ36 (Or.inl ⟨?hg36, ?hy36⟩) hH ?rest36
  case hi36 => simp only [List.getElem?_toArray, List.getElem?_cons_succ, List.getElem?_cons_zero]; rfl
  case hQ36 => exact fun _ _ _ h => h
  case hg36 => rfl
  case hy36 => intro W hSw; obtain ⟨s0, s1, s2⟩ := hSw; go_simp; try with_reducible rfl
  case rest36 =>
  try simp only [Act.put, List.setIfInBounds_toArray, List.set_cons_zero, List.set_cons_succ]
  refine HeadW.take (i := 36) (oi := ?oi37) (v := ?v37) ?hi37 (by kernel_rfl) ?hQ37 (Or.inl ⟨?hg37, ?hy37⟩) hH ?rest37
  case hi37 => simp only [List.getElem?_toArray, List.getElem?_cons_succ, List.getElem?_cons_zero]; rfl
  case hQ37 => exact fun _ _ _ h => h
  case hg37 => rfl
  case hy37 => intro W hSw; obtain ⟨s0, s1, s2⟩ := hSw; go_simp; try with_reducible rfl
  case rest37 =>
  try simp only [Act.put, List.setIfInBounds_toArray, List.set_cons_zero, List.set_cons_succ]
  refine HeadW.take (i := 37) (oi := ?oi38) (v := ?v38) ?hi38 (by kernel_rfl) ?hQ38 (Or.inl ⟨?hg38, ?hy38⟩) hH ?rest38
  case hi38 => simp only [List.getElem?_toArray, List.getElem?_cons_succ, List.getElem?_cons_zero]; rfl
  case hQ38 => exact fun _ _ _ h => h
  case hg38 => rfl
  case hy38 => intro W hSw; obtain ⟨s0, s1, s2⟩ := hSw; go_simp; try with_reducible rfl
  case rest38 =>
  try simp only [Act.put, List.setIfInBounds_toArray, List.set_cons_zero, List.set_cons_succ]
  refine HeadW.take (i := 39) (oi := ?oi39) (v := ?v39) ?hi39 (by kernel_rfl) ?hQ39 (Or.inl ⟨?hg39, ?hy39⟩) hH ?rest39
  case hi39 => simp only [List.getElem?_toArray, List.getElem?_cons_succ, List.getElem?_cons_zero]; rfl
  case hQ39 => exact fun _ _ _ h => h
  case hg39 => rfl
  case hy39 => intro W hSw; obtain ⟨s0, s1, s2⟩ := hSw; go_simp; try with_reducible rfl
  case rest39 =>
  try simp only [Act.put, List.setIfInBounds_toArray, List.set_cons_zero, List.set_cons_succ]
  refine HeadW.take (i := 40) (oi := ?oi40) (v := ?v40) ?hi40 (by kernel_rfl) ?hQ40 (Or.inl ⟨?hg40, ?hy40⟩) hH ?rest40
  case hi40 => simp only [List.getElem?_toArray, List.getElem?_cons_succ, List.getElem?_cons_zero]; rfl
  case hQ40 => exact fun _ _ _ h => h
  case hg40 => rfl
  case hy40 => intro W hSw; obtain ⟨s0, s1, s2⟩ := hSw; go_simp; try with_reducible rfl
  case rest40 =>
  try simp only [Act.put, List.setIfInBounds_toArray, List.set_cons_zero, List.set_cons_succ]
  refine HeadW.take (i := 41) (oi := ?oi41) (v := ?v41) ?hi41 (by kernel_rfl) ?hQ41 (Or.inl ⟨?hg41, ?hy41⟩) hH ?rest41
  case hi41 => simp only [List.getElem?_toArray, List.getElem?_cons_succ, List.getElem?_cons_zero]; rfl
  case hQ41 => exact fun _ _ _ h => h
  case hg41 => rfl
  case hy41 => intro W hSw; obtain ⟨s0, s1, s2⟩ := hSw; go_simp; try with_reducible rfl
  case rest41 =>
  try simp only [Act.put, List.setIfInBounds_toArray, List.set_cons_zero, List.set_cons_succ]
  refine HeadW.one (i := 38) (o := ?oi42) ?hi42 (by kernel_rfl) ?st42
  case hi42 => simp only [List.getElem?_toArray, List.getElem?_cons_succ, List.getElem?_cons_zero]; rfl
  case st42 =>
  intro K hK
  go_simp
  go_at_call 22
  refine (F5.out _ HSc.out).mono ?_
  rintro e w16 ⟨rfl, hb⟩
  have HSc := Lib.hid (HSc.out.later hb)
  have PBc := Lib.hid (PBc.out.later hb)
  have HBc := Lib.hid (bTr HBc.out hb)
  clear hb hH
  have hH : BoxS gs (.slice p.o1 S.nT p.c1) (.slice p.o2 S.nO p.c2) (.slice p.o3 S.nC p.c3) _ := ⟨PBc.out.cell 0, PBc.out.cell 1, PBc.out.cell 2⟩
  try dsimp only
  refine hK.out _ _ hH ?_
  clear hK K
  try simp only [Act.put, List.setIfInBounds_toArray, List.set_cons_zero, List.set_cons_succ]
  refine HeadW.one (i := 42) (o := ?oi43) ?hi43 (by kernel_rfl) ?st43
  case hi43 => simp only [List.getElem?_toArray, List.getElem?_cons_succ, List.getElem?_cons_zero]; rfl
  case st43 =>
  intro K hK
  go_simp
  go_at_call 23
  refine (G5.out _ HSc.out).mono ?_
  rintro e w17 ⟨rfl, hb⟩
  have HSc := Lib.hid (HSc.out.later hb)
  have PBc := Lib.hid (PBc.out.later hb)
  have HBc := Lib.hid (bTr HBc.out hb)
  clear hb hH
  have hH : BoxS gs (.slice p.o1 S.nT p.c1) (.slice p.o2 S.nO p.c2) (.slice p.o3 S.nC p.c3) _ := ⟨PBc.out.cell 0, PBc.out.cell 1, PBc.out.cell 2⟩
  try dsimp only
  refine hK.out _ _ hH ?_
  clear hK K
  try simp only [Act.put, List.setIfInBounds_toArray, List.set_cons_zero, List.set_cons_succ]
  refine HeadW.take (i := 43) (oi := ?oi44) (v := ?v44) ?hi44 (by kernel_rfl) ?hQ44 (Or.inl ⟨?hg44, ?hy44⟩) hH ?rest44
  case hi44 => simp only [List.getElem?_toArray, List.getElem?_cons_succ, List.getElem?_cons_zero]; rfl
  case hQ44 => exact fun _ _ _ h => h
  case hg44 => rfl
  case hy44 => intro W hSw; obtain ⟨s0, s1, s2⟩ := hSw; go_simp; try with_reducible rfl
  case rest44 =>
  try simp only [Act.put, List.setIfInBounds_toArray, List.set_cons_zero, List.set_cons_succ]
  refine HeadW.take (i := 44) (oi := ?oi45) (v := ?v45) ?hi45 (by kernel_rfl) ?hQ45 (Or.inl ⟨?hg45, ?hy45⟩) hH ?rest45
  case hi45 => simp only [List.getElem?_toArray, List.getElem?_cons_succ, List.getElem?_cons_zero]; rfl
  case hQ45 => exact fun _ _ _ h => h
  case hg45 => rfl
  case hy45 => intro W hSw; obtain ⟨s0, s1, s2⟩ := hSw; go_simp; try with_reducible rfl
  case rest45 =>
  try simp only [Act.put, List.setIfInBounds_toArray, List.set_cons_zero, List.set_cons_succ]
  refine HeadW.take (i := 45) (oi := ?oi46) (v := ?v46) ?hi46 (by kernel_rfl) ?hQ46 (Or.inl ⟨?hg46, ?hy46⟩) hH ?rest46
  case hi46 => simp only [List.getElem?_toArray, List.getElem?_cons_succ, List.getElem?_cons_zero]; rfl
  case hQ46 => exact fun _ _ _ h => h
  case hg46 => rfl
  case hy46 => intro W hSw; obtain ⟨s0, s1, s2⟩ := hSw; go_simp; try with_reducible rfl
  case rest46 =>
  try simp only [Act.put, List.setIfInBounds_toArray, List.set_cons_zero, List.set_cons_succ]
  refine HeadW.take (i := 46) (oi := ?oi47) (v := ?v47) ?hi47 (by kernel_rfl) ?hQ47 (Or.inl ⟨?hg47, ?hy47⟩) hH ?rest47
  case hi47 => simp only [List.getElem?_toArray, List.getElem?_cons_succ, List.getElem?_cons_zero]; rfl
  case hQ47 => exact fun _ _ _ h => h
  case hg47 => rfl
  case hy47 => intro W hSw; obtain ⟨s0, s1, s2⟩ := hSw; go_simp; try with_reducible rfl
  case rest47 =>
  try simp only [Act.put, List.setIfInBounds_toArray, List.set_cons_zero, List.set_cons_succ]
  refine HeadW.take (i := 47) (oi := ?oi48) (v := ?v48) ?hi48 (by kernel_rfl) ?hQ48 (Or.inl ⟨?hg48, ?hy48⟩) hH ?rest48
  case hi48 => simp only [List.getElem?_toArray, List.getElem?_cons_succ, List.getElem?_cons_zero]; rfl
  case hQ48 => exact fun _ _ _ h => h
  case hg48 => rfl
  case hy48 => intro W hSw; obtain ⟨s0, s1, s2⟩ := hSw; go_simp; try with_reducible rfl
  case rest48 =>
  try simp only [Act.put, List.setIfInBounds_toArray, List.set_cons_zero, List.set_cons_succ]
  refine HeadW.take (i := 48) (oi := ?oi49) (v := ?v49) ?hi49 (by kernel_rfl) ?hQ49 (Or.inl ⟨?hg49, ?hy49⟩) hH ?rest49
  case hi49 => simp only [List.getElem?_toArray, List.getElem?_cons_succ, List.getElem?_cons_zero]; rfl
  case hQ49 => exact fun _ _ _ h => h
  case hg49 => rfl
  case hy49 => intro W hSw; obtain ⟨s0, s1, s2⟩ := hSw; go_simp; try with_reducible rfl
  case rest49 =>
  try simp only [Act.put, List.setIfInBounds_toArray, List.set_cons_zero, List.set_cons_succ]
  refine HeadW.take (i := 50) (oi := ?oi50) (v := ?v50) ?hi50 (by kernel_rfl) ?hQ50 (Or.inl ⟨?hg50, ?hy50⟩) hH ?rest50
  case hi50 => simp only [List.getElem?_toArray, List.getElem?_cons_succ, List.getElem?_cons_zero]; rfl
  case hQ50 => exact fun _ _ _ h => h
  case hg50 => rfl
  case hy50 => intro W hSw; obtain ⟨s0, s1, s2⟩ := hSw; go_simp; try with_reducible rfl
  case rest50 =>
  try simp only [Act.put, List.setIfInBounds_toArray, List.set_cons_zero, List.set_cons_succ]
  refine HeadW.take (i := 51) (oi := ?oi51) (v := ?v51) ?hi51 (by kernel_rfl) ?hQ51 (Or.inl ⟨?hg51, ?hy51⟩) hH ?rest51
  case hi51 => simp only [List.getElem?_toArray, List.getElem?_cons_succ, List.getElem?_cons_zero]; rfl
  case hQ51 => exact fun _ _ _ h => h
  case hg51 => rfl
  case hy51 => intro W hSw; obtain ⟨s0, s1, s2⟩ := hSw; go_simp; try with_reducible rfl
  case rest51 =>
  try simp only [Act.put, List.setIfInBounds_toArray, List.set_cons_zero, List.set_cons_succ]
  refine HeadW.take (i := 52) (oi := ?oi52) (v := ?v52) ?hi52 (by kernel_rfl) ?hQ52 (Or.inl ⟨?hg52, ?hy52⟩) hH ?rest52
  case hi52 => simp only [List.getElem?_toArray, List.getElem?_cons_succ, List.getElem?_cons_zero]; rfl
  case hQ52 => exact fun _ _ _ h => h
  case hg52 => rfl
  case hy52 => intro W hSw; obtain ⟨s0, s1, s2⟩ := hSw; go_simp; try with_reducible rfl
  case rest52 =>
  try simp only [Act.put, List.setIfInBounds_toArray, List.set_cons_zero, List.set_cons_succ]
  refine HeadW.one (i := 49) (o := ?oi53) ?hi53 (by kernel_rfl) ?st53
  case hi53 => simp only [List.getElem?_toArray, List.getElem?_cons_succ, List.getElem?_cons_zero]; rfl
  case st53 =>
  intro K hK
  go_simp
  go_at_call 22
  refine (F6.out _ HSc.out).mono ?_
  rintro e w18 ⟨rfl, hb⟩
  have HSc := Lib.hid (HSc.out.later hb)
  have PBc := Lib.hid (PBc.out.later hb)
  have HBc := Lib.hid (bTr HBc.out hb)
  clear hb hH
  have hH : BoxS gs (.slice p.o1 S.nT p.c1) (.slice p.o2 S.nO p.c2) (.slice p.o3 S.nC p.c3) _ := ⟨PBc.out.cell 0, PBc.out.cell 1, PBc.out.cell 2⟩
  try dsimp only
  refine hK.out _ _ hH ?_
  clear hK K
  try simp only [Act.put, List.setIfInBounds_toArray, List.set_cons_zero, List.set_cons_succ]
  refine HeadW.one (i := 53) (o := ?oi54) ?hi54 (by kernel_rfl) ?st54
  case hi54 => simp only [List.getElem?_toArray, List.getElem?_cons_succ, List.getElem?_cons_zero]; rfl
  case st54 =>
  intro K hK
  go_simp
  go_at_call 23
  refine (G6.out _ HSc.out).mono ?_
  rintro e w19 ⟨rfl, hb⟩
  have HSc := Lib.hid (HSc.out.later hb)
  have PBc := Lib.hid (PBc.out.later hb)
  have HBc := Lib.hid (bTr HBc.out hb)
  clear hb hH
  have hH : BoxS gs (.slice p.o1 S.nT p.c1) (.slice p.o2 S.nO p.c2) (.slice p.o3 S.nC p.c3) _ := ⟨PBc.out.cell 0, PBc.out.cell 1, PBc.out.cell 2⟩
  try dsimp only
  refine hK.out _ _ hH ?_
  clear hK K
  try simp only [Act.put, List.setIfInBounds_toArray, List.set_cons_zero, List.set_cons_succ]
  refine HeadW.take (i := 54) (oi := ?oi55) (v := ?v55) ?hi55 (by kernel_rfl) ?hQ55 (Or.inl ⟨?hg55, ?hy55⟩) hH ?rest55
  case hi55 => simp only [List.getElem?_toArray, List.getElem?_cons_succ, List.getElem?_cons_zero]; rfl
  case hQ55 => exact fun _ _ _ h => h
  case hg55 => rfl
  case hy55 => intro W hSw; obtain ⟨s0, s1, s2⟩ := hSw; go_simp; try with_reducible rfl
  case rest55 =>
  try simp only [Act.put, List.setIfInBounds_toArray, List.set_cons_zero, List.set_cons_succ]
  refine HeadW.take (i := 55) (oi := ?oi56) (v := ?v56) ?hi56 (by kernel_rfl) ?hQ56 (Or.inl ⟨?hg56, ?hy56⟩) hH ?rest56
  case hi56 => simp only [List.getElem?_toArray, List.getElem?_cons_succ, List.getElem?_cons_zero]; rfl
  case hQ56 => exact fun _ _ _ h => h
  case hg56 => rfl
  case hy56 => intro W hSw; obtain ⟨s0, s1, s2⟩ := hSw; go_simp; try with_reducible rfl
  case rest56 =>
  try simp only [Act.put, List.setIfInBounds_toArray, List.set_cons_zero, List.set_cons_succ]
  refine HeadW.take (i := 56) (oi := ?oi57) (v := ?v57) ?hi57 (by kernel_rfl) ?hQ57 (Or.inl ⟨?hg57, ?hy57⟩) hH ?rest57
  case hi57 => simp only [List.getElem?_toArray, List.getElem?_cons_succ, List.getElem?_cons_zero]; rfl
  case hQ57 => exact fun _ _ _ h => h
  case hg57 => rfl
  case hy57 => intro W hSw; obtain ⟨s0, s1, s2⟩ := hSw; go_simp; try with_reducible rfl
  case rest57 =>
  try simp only [Act.put, List.setIfInBounds_toArray, List.set_cons_zero, List.set_cons_succ]
  refine HeadW.take (i := 57) (oi := ?oi58) (v := ?v58) ?hi58 (by kernel_rfl) ?hQ58 (Or.inl ⟨?hg58, ?hy58⟩) hH ?rest58
  case hi58 => simp only [List.getElem?_toArray, List.getElem?_cons_succ, List.getElem?_cons_zero]; rfl
  case hQ58 => exact fun _ _ _ h => h
  case hg58 => rfl
  case hy58 => intro W hSw; obtain ⟨s0, s1, s2⟩ := hSw; go_simp; try with_reducible rfl
  case rest58 =>
  try simp only [Act.put, List.setIfInBounds_toArray, List.set_cons_zero, List.set_cons_succ]
  refine HeadW.take (i := 59) (oi := ?oi59) (v := ?v59) ?hi59 (by kernel_rfl) ?hQ59 (Or.inl ⟨?hg59, ?hy59⟩) hH ?rest59
  case hi59 => simp only [List.getElem?_toArray, List.getElem?_cons_succ, List.getElem?_cons_zero]; rfl
  case hQ59 => exact fun _ _ _ h => h
  case hg59 => rfl
  case hy59 => intro W hSw; obtain ⟨s0, s1, s2⟩ := hSw; go_simp; try with_reducible rfl
  case rest59 =>
  try simp only [Act.put, List.setIfInBounds_toArray, List.set_cons_zero, List.set_cons_succ]
  refine HeadW.one (i := 58) (o := ?oi60) ?hi60 (by kernel_rfl) ?st60
  case hi60 => simp only [List.getElem?_toArray, List.getElem?_cons_succ, List.getElem?_cons_zero]; rfl
  case st60 =>
  intro K hK
  go_simp
  go_at_call 24
  refine (F7.out _ HSc.out).mono ?_
  rintro e w20 ⟨v5, rfl, hv5, hb⟩
  obtain ⟨obw20, cbw20, rfl, _, _, hrow⟩ := hv5.row
  have RA := Lib.hid hrow
  clear hrow hv5
  have HSc := Lib.hid (HSc.out.later hb)
  have PBc := Lib.hid (PBc.out.later hb)
  have HBc := Lib.hid (bTr HBc.out hb)
  clear hb hH
  have hH : BoxS gs (.slice p.o1 S.nT p.c1) (.slice p.o2 S.nO p.c2) (.slice p.o3 S.nC p.c3) _ := ⟨PBc.out.cell 0, PBc.out.cell 1, PBc.out.cell 2⟩
  try dsimp only
  refine hK.out _ _ hH ?_
  clear hK K
  try simp only [Act.put, List.setIfInBounds_toArray, List.set_cons_zero, List.set_cons_succ]
  refine HeadW.one (i := 60) (o := ?oi61) ?hi61 (by kernel_rfl) ?st61
  case hi61 => simp only [List.getElem?_toArray, List.getElem?_cons_succ, List.getElem?_cons_zero]; rfl
  case st61 =>
  intro K hK
  go_simp
  go_at_call 25
  refine (G7.out _ HSc.out).mono ?_
  rintro e w21 ⟨v5, rfl, hv5, hb⟩
  obtain ⟨obw21, cbw21, rfl, _, _, hrow⟩ := hv5.row
  have RA := Lib.hid ((RA.out.below hb (Nat.le_refl _)).more hb.size)
  have RB := Lib.hid hrow
  clear hrow hv5
  have HSc := Lib.hid (HSc.out.later hb)
  have PBc := Lib.hid (PBc.out.later hb)
  have HBc := Lib.hid (bTr HBc.out hb)
  clear hb hH
  have hH : BoxS gs (.slice p.o1 S.nT p.c1) (.slice p.o2 S.nO p.c2) (.slice p.o3 S.nC p.c3) _ := ⟨PBc.out.cell 0, PBc.out.cell 1, PBc.out.cell 2⟩
  try dsimp only
  refine hK.out _ _ hH ?_
  clear hK K
  try simp only [Act.put, List.setIfInBounds_toArray, List.set_cons_zero, List.set_cons_succ]
  refine HeadW.one (i := 61) (o := ?oi62) ?hi62 (by kernel_rfl) ?st62
  case hi62 => simp only [List.getElem?_toArray, List.getElem?_cons_succ, List.getElem?_cons_zero]; rfl
  case st62 =>
  intro K hK
  go_simp
  go_at_call 17
  refine (same_row _ _ _ _ _ _ _ _ _ RA.out RB.out (Nat.le_refl _) (Nat.le_refl _) LN7.out).mono ?_
  rintro e w22 ⟨rfl, hb⟩
  clear RA RB
  have HSc := Lib.hid (HSc.out.later hb)
  have PBc := Lib.hid (PBc.out.later hb)
  have HBc := Lib.hid (bTr HBc.out hb)
  clear hb hH
  have hH : BoxS gs (.slice p.o1 S.nT p.c1) (.slice p.o2 S.nO p.c2) (.slice p.o3 S.nC p.c3) _ := ⟨PBc.out.cell 0, PBc.out.cell 1, PBc.out.cell 2⟩
  try dsimp only
  refine hK.out _ _ hH ?_
  clear hK K
  try simp only [Act.put, List.setIfInBounds_toArray, List.set_cons_zero, List.set_cons_succ]
  refine HeadW.take (i := 62) (oi := ?oi63) (v := ?v63) ?hi63 (by kernel_rfl) ?hQ63 (Or.inl ⟨?hg63, ?hy63⟩) hH ?rest63
  case hi63 => simp only [List.getElem?_toArray, List.getElem?_cons_succ, List.getElem?_cons_zero]; rfl
  case hQ63 => exact fun _ _ _ h => h
  case hg63 => rfl
  case hy63 => intro W hSw; obtain ⟨s0, s1, s2⟩ := hSw; go_simp; try with_reducible rfl
  case rest63 =>
  try simp only [Act.put, List.setIfInBounds_toArray, List.set_cons_zero, List.set_cons_succ]
  refine HeadW.take (i := 63) (oi := ?oi64) (v := ?v64) ?hi64 (by kernel_rfl) ?hQ64 (Or.inl ⟨?hg64, ?hy64⟩) hH ?rest64
  case hi64 => simp only [List.getElem?_toArray, List.getElem?_cons_succ, List.getElem?_cons_zero]; rfl
  case hQ64 => exact fun _ _ _ h => h
  case hg64 => rfl
  case hy64 => intro W hSw; obtain ⟨s0, s1, s2⟩ := hSw; go_simp; try with_reducible rfl
  case rest64 =>
  try simp only [Act.put, List.setIfInBounds_toArray, List.set_cons_zero, List.set_cons_succ]
  refine HeadW.one (i := 64) (o := ?oi65) ?hi65 (by kernel_rfl) ?st65
  case hi65 => simp only [List.getElem?_toArray, List.getElem?_cons_succ, List.getElem?_cons_zero]; rfl
  case st65 =>
  intro K hK
  go_simp
  go_at_call 15
  refine (awake_any _).mono ?_
  rintro e w23 ⟨rfl, hb⟩
  have HSc := Lib.hid (HSc.out.later hb)
  have PBc := Lib.hid (PBc.out.later hb)
  have HBc := Lib.hid (bTr HBc.out hb)
  clear hb hH
  have hH : BoxS gs (.slice p.o1 S.nT p.c1) (.slice p.o2 S.nO p.c2) (.slice p.o3 S.nC p.c3) _ := ⟨PBc.out.cell 0, PBc.out.cell 1, PBc.out.cell 2⟩
  try dsimp only
  refine hK.out _ _ hH ?_
  clear hK K
  try simp only [Act.put, List.setIfInBounds_toArray, List.set_cons_zero, List.set_cons_succ]
  refine HeadW.take (i := 65) (oi := ?oi66) (v := ?v66) ?hi66 (by kernel_rfl) ?hQ66 (Or.inl ⟨?hg66, ?hy66⟩) hH ?rest66
  case hi66 => simp only [List.getElem?_toArray, List.getElem?_cons_succ, List.getElem?_cons_zero]; rfl
  case hQ66 => exact fun _ _ _ h => h
  case hg66 => rfl
  case hy66 => intro W hSw; obtain ⟨s0, s1, s2⟩ := hSw; go_simp; try with_reducible rfl
  case rest66 =>
  try simp only [Act.put, List.setIfInBounds_toArray, List.set_cons_zero, List.set_cons_succ]
  refine HeadW.done (by kernel_rfl) ?_
  go_wp2_with fail
  go_ret
  exact ⟨rfl, HBc.out⟩
end Go.Proofs.Ytglikjdgjmijfaa
