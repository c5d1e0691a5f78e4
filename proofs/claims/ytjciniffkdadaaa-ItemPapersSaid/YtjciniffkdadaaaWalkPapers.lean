/-
  The walk of the statement on papers.
-/
import Derived.Test.YtjciniffkdadaaaIKit
import Derived.Test.YtjciniffkdadaaaIPapD
import Derived.Test.YtjciniffkdadaaaIPap3
namespace Go.Proofs.Ytjciniffkdadaaa
open Go.RowKit
set_option linter.unusedSimpArgs false
set_option linter.unusedVariables false

def BoxQ (gs : Nat) (code var : Int) (v : Value) (W : World) : Prop := W.cell? ⟨gs, 0, none⟩ = some (.int .i64 code) ∧ W.cell? ⟨gs, 1, none⟩ = some (.int .i64 var) ∧ W.cell? ⟨gs, 2, none⟩ = some v
theorem chs_len (x : Ppr) : x.chs.length ≤ 1000 := by
  unfold Ppr.chs
  by_cases h : x.okB = true
  · rw [if_pos h]
    have := filt_len (chB x.P) x.nP
    have h2 := (Ppr.of_ok h).1
    unfold Ppr.ok at h2
    omega
  · rw [if_neg h]; exact Nat.zero_le _
set_option maxRecDepth 100000 in
set_option maxHeartbeats 8000000 in
theorem walkItemPapers (o : Option Addr) (n c : Nat) (zs : List Int) (w : World) (h0 : IsRow .i64 w o n c zs) :
    Calls Try.prog 8 #[.slice o n c] w fun e w' => e = .returned (.bool true) ∧ Below w.heap.size w w' := by
  obtain ⟨hr, h1, h2, h3⟩ := row_of h0
  go_enter Try.func8, Try.ntmps8
  go_wp2_with fail
  refine (tape_new hr h1 h2 h3).mono ?_
  rintro e w1 ⟨g, n9, rfl, ht1, hb1, hg⟩
  have T1 := Lib.hid ht1
  have HB1 := Lib.hid hb1
  have HG := Lib.hid hg
  clear ht1 hb1 hg hr h1 h2 h3
  go_wp2_with fail
  refine (loose_any 2 (by omega) (by omega) T1.out).mono ?_
  rintro e w4 ⟨oo, cc, x, rfl, hS, ht4, hg4⟩
  have HB4 := Lib.hid (HB1.out.trans (bGr hg4 HG.out HB1.out.size))
  have hbb := bAl (Below.refl _ w4) (.cells (pprC oo cc x) 46)
  have P5 := Lib.hid (Blk.new w4 46 (pprC oo cc x))
  have HS5 := Lib.hid (hS.later hbb)
  have HB5 := Lib.hid (bTr HB4.out hbb)
  clear HB1 T1 HG hS ht4 hg4 hbb HB4
  have F1 := Lib.hid (fun W (hX : RowP W W.heap.size oo x.nP x.P) => vpaper_any oo cc x W hX)
  have F2 := Lib.hid (fun W (hX : RowP W W.heap.size oo x.nP x.P) => rvpaper_any oo cc x W hX)
  have F3 := Lib.hid (fun W (hX : RowP W W.heap.size oo x.nP x.P) => ptotal_any oo cc x W hX)
  have F4 := Lib.hid (fun W (hX : RowP W W.heap.size oo x.nP x.P) => rptotal_any oo cc x W hX)
  have F5 := Lib.hid (fun W (hX : RowP W W.heap.size oo x.nP x.P) => choices_any oo cc x W hX)
  have F6 := Lib.hid (fun W (hX : RowP W W.heap.size oo x.nP x.P) => rchoices_any oo cc x W hX)
  have hlen := chs_len x
  generalize x.okB = b at F1 F2
  generalize x.tot = t at F3 F4
  generalize x.chs = l at F5 F6 hlen
  unfold pprC at P5 HS5 HB5 F1 F2 F3 F4 F5 F6 ⊢
  go_wp2_with fail
  generalize w4.alloc _ = w5 at P5 HS5 HB5 ⊢
  generalize w4.heap.size = gs at P5 ⊢
  have hbb' : (b == b) = true := by simp
  have htt : (t == t) = true := by simp
  have hH : BoxQ gs x.code x.var (.slice oo x.nP cc) w5.drew := ⟨P5.out.cell 0, P5.out.cell 1, P5.out.cell 2⟩
  refine wp_region_held_tail (BoxQ gs x.code x.var (.slice oo x.nP cc)) 22 (by kernel_rfl) (by kernel_rfl) ?_
  simp only [List.drop_succ_cons, List.drop_zero]
  refine HeadW.take (i := 0) (oi := ?oi1) (v := ?v1) ?hi1 (by kernel_rfl) ?hQ1 (Or.inl ⟨?hg1, ?hy1⟩) hH ?rest1
  case hi1 => simp only [List.getElem?_toArray, List.getElem?_cons_succ, List.getElem?_cons_zero]; rfl
  case hQ1 => exact fun _ _ _ h => h
  case hg1 => rfl
  case hy1 => intro W hSw; obtain ⟨s0, s1, s2⟩ := hSw; go_simp; try with_reducible rfl
  case rest1 =>
  try simp only [Act.put, List.setIfInBounds_toArray, List.set_cons_zero, List.set_cons_succ]
  refine HeadW.take (i := 2) (oi := ?oi2) (v := ?v2) ?hi2 (by kernel_rfl) ?hQ2 (Or.inl ⟨?hg2, ?hy2⟩) hH ?rest2
  case hi2 => simp only [List.getElem?_toArray, List.getElem?_cons_succ, List.getElem?_cons_zero]; rfl
  case hQ2 => exact fun _ _ _ h => h
  case hg2 => rfl
  case hy2 => intro W hSw; obtain ⟨s0, s1, s2⟩ := hSw; go_simp; try with_reducible rfl
  case rest2 =>
  try simp only [Act.put, List.setIfInBounds_toArray, List.set_cons_zero, List.set_cons_succ]
  refine HeadW.one (i := 1) (o := ?oi3) ?hi3 (by kernel_rfl) ?st3
  case hi3 => simp only [List.getElem?_toArray, List.getElem?_cons_succ, List.getElem?_cons_zero]; rfl
  case st3 =>
  intro K hK
  go_simp
  go_at_call 30
  have hd := bD1 (Below.refl w5.heap.size w5)
  refine (F1.out _ (HS5.out.later hd)).mono ?_
  rintro e w6 ⟨rfl, hb⟩
  have HS6 := Lib.hid ((HS5.out.later hd).later hb)
  have P6 := Lib.hid ((P5.out.later hd).later hb)
  have HB6 := Lib.hid (bTr (bTr HB5.out hd) hb)
  clear hb hd HS5 HB5 hH
  have hH : BoxQ gs x.code x.var (.slice oo x.nP cc) w6 := ⟨P6.out.cell 0, P6.out.cell 1, P6.out.cell 2⟩
  try dsimp only
  refine hK.out _ _ hH ?_
  clear hK K
  try simp only [Act.put, List.setIfInBounds_toArray, List.set_cons_zero, List.set_cons_succ]
  refine HeadW.one (i := 3) (o := ?oi4) ?hi4 (by kernel_rfl) ?st4
  case hi4 => simp only [List.getElem?_toArray, List.getElem?_cons_succ, List.getElem?_cons_zero]; rfl
  case st4 =>
  intro K hK
  go_simp
  go_at_call 31
  refine (F2.out _ HS6.out).mono ?_
  rintro e w7 ⟨rfl, hb⟩
  have HS7 := Lib.hid (HS6.out.later hb)
  have P7 := Lib.hid (P6.out.later hb)
  have HB7 := Lib.hid (bTr HB6.out hb)
  clear hb HS6 HB6 hH
  have hH : BoxQ gs x.code x.var (.slice oo x.nP cc) w7 := ⟨P7.out.cell 0, P7.out.cell 1, P7.out.cell 2⟩
  try dsimp only
  refine hK.out _ _ hH ?_
  clear hK K
  try simp only [Act.put, List.setIfInBounds_toArray, List.set_cons_zero, List.set_cons_succ]
  refine HeadW.take (i := 4) (oi := ?oi5) (v := ?v5) ?hi5 (by kernel_rfl) ?hQ5 (Or.inl ⟨?hg5, ?hy5⟩) hH ?rest5
  case hi5 => simp only [List.getElem?_toArray, List.getElem?_cons_succ, List.getElem?_cons_zero]; rfl
  case hQ5 => exact fun _ _ _ h => h
  case hg5 => rfl
  case hy5 => intro W hSw; obtain ⟨s0, s1, s2⟩ := hSw; go_simp; try with_reducible rfl
  case rest5 =>
  try simp only [Act.put, List.setIfInBounds_toArray, List.set_cons_zero, List.set_cons_succ]
  refine HeadW.take (i := 5) (oi := ?oi6) (v := ?v6) ?hi6 (by kernel_rfl) ?hQ6 (Or.inl ⟨?hg6, ?hy6⟩) hH ?rest6
  case hi6 => simp only [List.getElem?_toArray, List.getElem?_cons_succ, List.getElem?_cons_zero]; rfl
  case hQ6 => exact fun _ _ _ h => h
  case hg6 => rfl
  case hy6 => intro W hSw; obtain ⟨s0, s1, s2⟩ := hSw; go_simp; try with_reducible rfl
  case rest6 =>
  try simp only [Act.put, List.setIfInBounds_toArray, List.set_cons_zero, List.set_cons_succ]
  refine HeadW.take (i := 6) (oi := ?oi7) (v := ?v7) ?hi7 (by kernel_rfl) ?hQ7 (Or.inl ⟨?hg7, ?hy7⟩) hH ?rest7
  case hi7 => simp only [List.getElem?_toArray, List.getElem?_cons_succ, List.getElem?_cons_zero]; rfl
  case hQ7 => exact fun _ _ _ h => h
  case hg7 => rfl
  case hy7 => intro W hSw; obtain ⟨s0, s1, s2⟩ := hSw; go_simp; try with_reducible rfl
  case rest7 =>
  try simp only [Act.put, List.setIfInBounds_toArray, List.set_cons_zero, List.set_cons_succ]
  refine HeadW.take (i := 8) (oi := ?oi8) (v := ?v8) ?hi8 (by kernel_rfl) ?hQ8 (Or.inl ⟨?hg8, ?hy8⟩) hH ?rest8
  case hi8 => simp only [List.getElem?_toArray, List.getElem?_cons_succ, List.getElem?_cons_zero]; rfl
  case hQ8 => exact fun _ _ _ h => h
  case hg8 => rfl
  case hy8 => intro W hSw; obtain ⟨s0, s1, s2⟩ := hSw; go_simp; try with_reducible rfl
  case rest8 =>
  try simp only [Act.put, List.setIfInBounds_toArray, List.set_cons_zero, List.set_cons_succ]
  refine HeadW.one (i := 7) (o := ?oi9) ?hi9 (by kernel_rfl) ?st9
  case hi9 => simp only [List.getElem?_toArray, List.getElem?_cons_succ, List.getElem?_cons_zero]; rfl
  case st9 =>
  intro K hK
  go_simp
  go_at_call 32
  refine (F3.out _ HS7.out).mono ?_
  rintro e w8 ⟨rfl, hb⟩
  have HS8 := Lib.hid (HS7.out.later hb)
  have P8 := Lib.hid (P7.out.later hb)
  have HB8 := Lib.hid (bTr HB7.out hb)
  clear hb HS7 HB7 hH
  have hH : BoxQ gs x.code x.var (.slice oo x.nP cc) w8 := ⟨P8.out.cell 0, P8.out.cell 1, P8.out.cell 2⟩
  try dsimp only
  refine hK.out _ _ hH ?_
  clear hK K
  try simp only [Act.put, List.setIfInBounds_toArray, List.set_cons_zero, List.set_cons_succ]
  refine HeadW.one (i := 9) (o := ?oi10) ?hi10 (by kernel_rfl) ?st10
  case hi10 => simp only [List.getElem?_toArray, List.getElem?_cons_succ, List.getElem?_cons_zero]; rfl
  case st10 =>
  intro K hK
  go_simp
  go_at_call 33
  refine (F4.out _ HS8.out).mono ?_
  rintro e w9 ⟨rfl, hb⟩
  have HS9 := Lib.hid (HS8.out.later hb)
  have P9 := Lib.hid (P8.out.later hb)
  have HB9 := Lib.hid (bTr HB8.out hb)
  clear hb HS8 HB8 hH
  have hH : BoxQ gs x.code x.var (.slice oo x.nP cc) w9 := ⟨P9.out.cell 0, P9.out.cell 1, P9.out.cell 2⟩
  try dsimp only
  refine hK.out _ _ hH ?_
  clear hK K
  try simp only [Act.put, List.setIfInBounds_toArray, List.set_cons_zero, List.set_cons_succ]
  refine HeadW.take (i := 10) (oi := ?oi11) (v := ?v11) ?hi11 (by kernel_rfl) ?hQ11 (Or.inl ⟨?hg11, ?hy11⟩) hH ?rest11
  case hi11 => simp only [List.getElem?_toArray, List.getElem?_cons_succ, List.getElem?_cons_zero]; rfl
  case hQ11 => exact fun _ _ _ h => h
  case hg11 => rfl
  case hy11 => intro W hSw; obtain ⟨s0, s1, s2⟩ := hSw; go_simp; try with_reducible rfl
  case rest11 =>
  try simp only [Act.put, List.setIfInBounds_toArray, List.set_cons_zero, List.set_cons_succ]
  refine HeadW.take (i := 11) (oi := ?oi12) (v := ?v12) ?hi12 (by kernel_rfl) ?hQ12 (Or.inl ⟨?hg12, ?hy12⟩) hH ?rest12
  case hi12 => simp only [List.getElem?_toArray, List.getElem?_cons_succ, List.getElem?_cons_zero]; rfl
  case hQ12 => exact fun _ _ _ h => h
  case hg12 => rfl
  case hy12 => intro W hSw; obtain ⟨s0, s1, s2⟩ := hSw; go_simp; try with_reducible rfl
  case rest12 =>
  try simp only [Act.put, List.setIfInBounds_toArray, List.set_cons_zero, List.set_cons_succ]
  refine HeadW.take (i := 12) (oi := ?oi13) (v := ?v13) ?hi13 (by kernel_rfl) ?hQ13 (Or.inl ⟨?hg13, ?hy13⟩) hH ?rest13
  case hi13 => simp only [List.getElem?_toArray, List.getElem?_cons_succ, List.getElem?_cons_zero]; rfl
  case hQ13 => exact fun _ _ _ h => h
  case hg13 => rfl
  case hy13 => intro W hSw; obtain ⟨s0, s1, s2⟩ := hSw; go_simp; try with_reducible rfl
  case rest13 =>
  try simp only [Act.put, List.setIfInBounds_toArray, List.set_cons_zero, List.set_cons_succ]
  refine HeadW.take (i := 13) (oi := ?oi14) (v := ?v14) ?hi14 (by kernel_rfl) ?hQ14 (Or.inl ⟨?hg14, ?hy14⟩) hH ?rest14
  case hi14 => simp only [List.getElem?_toArray, List.getElem?_cons_succ, List.getElem?_cons_zero]; rfl
  case hQ14 => exact fun _ _ _ h => h
  case hg14 => rfl
  case hy14 => intro W hSw; obtain ⟨s0, s1, s2⟩ := hSw; go_simp; try with_reducible rfl
  case rest14 =>
  try simp only [Act.put, List.setIfInBounds_toArray, List.set_cons_zero, List.set_cons_succ]
  refine HeadW.take (i := 15) (oi := ?oi15) (v := ?v15) ?hi15 (by kernel_rfl) ?hQ15 (Or.inl ⟨?hg15, ?hy15⟩) hH ?rest15
  case hi15 => simp only [List.getElem?_toArray, List.getElem?_cons_succ, List.getElem?_cons_zero]; rfl
  case hQ15 => exact fun _ _ _ h => h
  case hg15 => rfl
  case hy15 => intro W hSw; obtain ⟨s0, s1, s2⟩ := hSw; go_simp; try with_reducible rfl
  case rest15 =>
  try simp only [Act.put, List.setIfInBounds_toArray, List.set_cons_zero, List.set_cons_succ]
  refine HeadW.one (i := 14) (o := ?oi16) ?hi16 (by kernel_rfl) ?st16
  case hi16 => simp only [List.getElem?_toArray, List.getElem?_cons_succ, List.getElem?_cons_zero]; rfl
  case st16 =>
  intro K hK
  go_simp
  go_at_call 34
  refine (F5.out _ HS9.out).mono ?_
  rintro e w10 ⟨v10, rfl, hv, hb⟩
  obtain ⟨o10, c10, rfl, _, _, hrow⟩ := hv.row
  have R10 := Lib.hid hrow
  clear hv hrow
  have HS10 := Lib.hid (HS9.out.later hb)
  have P10 := Lib.hid (P9.out.later hb)
  have HB10 := Lib.hid (bTr HB9.out hb)
  clear hb HS9 HB9 hH
  have hH : BoxQ gs x.code x.var (.slice oo x.nP cc) w10 := ⟨P10.out.cell 0, P10.out.cell 1, P10.out.cell 2⟩
  try dsimp only
  refine hK.out _ _ hH ?_
  clear hK K
  try simp only [Act.put, List.setIfInBounds_toArray, List.set_cons_zero, List.set_cons_succ]
  refine HeadW.one (i := 16) (o := ?oi17) ?hi17 (by kernel_rfl) ?st17
  case hi17 => simp only [List.getElem?_toArray, List.getElem?_cons_succ, List.getElem?_cons_zero]; rfl
  case st17 =>
  intro K hK
  go_simp
  go_at_call 35
  refine (F6.out _ HS10.out).mono ?_
  rintro e w11 ⟨v11, rfl, hv, hb⟩
  obtain ⟨o11, c11, rfl, _, _, hrow⟩ := hv.row
  have R11 := Lib.hid hrow
  clear hv hrow
  have R10b := Lib.hid (R10.out.later hb)
  have HS11 := Lib.hid (HS10.out.later hb)
  have P11 := Lib.hid (P10.out.later hb)
  have HB11 := Lib.hid (bTr HB10.out hb)
  clear hb HS10 HB10 hH
  have hH : BoxQ gs x.code x.var (.slice oo x.nP cc) w11 := ⟨P11.out.cell 0, P11.out.cell 1, P11.out.cell 2⟩
  try dsimp only
  refine hK.out _ _ hH ?_
  clear hK K
  try simp only [Act.put, List.setIfInBounds_toArray, List.set_cons_zero, List.set_cons_succ]
  refine HeadW.one (i := 17) (o := ?oi18) ?hi18 (by kernel_rfl) ?st18
  case hi18 => simp only [List.getElem?_toArray, List.getElem?_cons_succ, List.getElem?_cons_zero]; rfl
  case st18 =>
  intro K hK
  go_simp
  go_at_call 24
  refine (ints_true o10 o11 l.length c10 c11 _ _ w11 R10b.out R11.out (by omega) (fun i hi => rfl)).mono ?_
  rintro e w12 ⟨rfl, hb⟩
  have HS12 := Lib.hid (HS11.out.later hb)
  have P12 := Lib.hid (P11.out.later hb)
  have HB12 := Lib.hid (bTr HB11.out hb)
  clear hb HS11 HB11 hH
  have hH : BoxQ gs x.code x.var (.slice oo x.nP cc) w12 := ⟨P12.out.cell 0, P12.out.cell 1, P12.out.cell 2⟩
  try dsimp only
  refine hK.out _ _ hH ?_
  clear hK K
  try simp only [Act.put, List.setIfInBounds_toArray, List.set_cons_zero, List.set_cons_succ]
  refine HeadW.take (i := 18) (oi := ?oi19) (v := ?v19) ?hi19 (by kernel_rfl) ?hQ19 (Or.inl ⟨?hg19, ?hy19⟩) hH ?rest19
  case hi19 => simp only [List.getElem?_toArray, List.getElem?_cons_succ, List.getElem?_cons_zero]; rfl
  case hQ19 => exact fun _ _ _ h => h
  case hg19 => rfl
  case hy19 => intro W hSw; obtain ⟨s0, s1, s2⟩ := hSw; go_simp; try with_reducible rfl
  case rest19 =>
  try simp only [Act.put, List.setIfInBounds_toArray, List.set_cons_zero, List.set_cons_succ]
  refine HeadW.take (i := 19) (oi := ?oi20) (v := ?v20) ?hi20 (by kernel_rfl) ?hQ20 (Or.inl ⟨?hg20, ?hy20⟩) hH ?rest20
  case hi20 => simp only [List.getElem?_toArray, List.getElem?_cons_succ, List.getElem?_cons_zero]; rfl
  case hQ20 => exact fun _ _ _ h => h
  case hg20 => rfl
  case hy20 => intro W hSw; obtain ⟨s0, s1, s2⟩ := hSw; go_simp; try with_reducible rfl
  case rest20 =>
  try simp only [Act.put, List.setIfInBounds_toArray, List.set_cons_zero, List.set_cons_succ]
  refine HeadW.one (i := 20) (o := ?oi21) ?hi21 (by kernel_rfl) ?st21
  case hi21 => simp only [List.getElem?_toArray, List.getElem?_cons_succ, List.getElem?_cons_zero]; rfl
  case st21 =>
  intro K hK
  go_simp
  go_at_call 14
  refine (awake_any _).mono ?_
  rintro e w13 ⟨rfl, hb⟩
  have HS13 := Lib.hid (HS12.out.later hb)
  have P13 := Lib.hid (P12.out.later hb)
  have HB13 := Lib.hid (bTr HB12.out hb)
  clear hb HS12 HB12 hH
  have hH : BoxQ gs x.code x.var (.slice oo x.nP cc) w13 := ⟨P13.out.cell 0, P13.out.cell 1, P13.out.cell 2⟩
  try dsimp only
  refine hK.out _ _ hH ?_
  clear hK K
  try simp only [Act.put, List.setIfInBounds_toArray, List.set_cons_zero, List.set_cons_succ]
  refine HeadW.take (i := 21) (oi := ?oi22) (v := ?v22) ?hi22 (by kernel_rfl) ?hQ22 (Or.inl ⟨?hg22, ?hy22⟩) hH ?rest22
  case hi22 => simp only [List.getElem?_toArray, List.getElem?_cons_succ, List.getElem?_cons_zero]; rfl
  case hQ22 => exact fun _ _ _ h => h
  case hg22 => rfl
  case hy22 => intro W hSw; obtain ⟨s0, s1, s2⟩ := hSw; go_simp; try with_reducible rfl
  case rest22 =>
  try simp only [Act.put, List.setIfInBounds_toArray, List.set_cons_zero, List.set_cons_succ]
  refine HeadW.done (by kernel_rfl) ?_
  go_wp2_with fail
  go_ret
  exact ⟨rfl, HB13.out⟩
end Go.Proofs.Ytjciniffkdadaaa
