/-
  The walk of the statement that Under and Path are inverse, and Common the last of both paths' common beginning.
-/
import Derived.Test.YtglikjdgjmijfaaSKit
import Derived.Test.YtglikjdgjmijfaaSInvM
import Derived.Test.YtglikjdgjmijfaaHeldTail
namespace Go.Proofs.Ytglikjdgjmijfaa
open Go.RowKit
set_option linter.unusedSimpArgs false
set_option linter.unusedVariables false

def BoxI (gs : Nat) (x y z : Value) (W : World) : Prop := W.cell? ⟨gs, 0, none⟩ = some x ∧ W.cell? ⟨gs, 1, none⟩ = some y ∧ W.cell? ⟨gs, 2, none⟩ = some z
def BoxJ (gs : Nat) (x y z : Value) (a : Addr) (v : Value) (b : Addr) (u : Value) (W : World) : Prop := BoxI gs x y z W ∧ W.cell? a = some v ∧ W.cell? b = some u
def CellAt (a : Addr) (v : Value) (W : World) : Prop := a.block < W.heap.size ∧ W.cell? a = some v
theorem CellAt.later {a : Addr} {v : Value} {W W' : World} (h : CellAt a v W) (hb : Below W.heap.size W W') : CellAt a v W' := ⟨Nat.lt_of_lt_of_le h.1 hb.size, (hb.cell h.1).trans h.2⟩
theorem RowI.at_ {w : World} {B n b off : Nat} {C : Nat → Int} (h : RowI w B (some ⟨b, off, none⟩) n C) {i : Nat} (hi : i < n) : b < B ∧ w.cell? ⟨b, off + i, none⟩ = some (.int .i64 (C i)) := by
  obtain ⟨b', off', e, hb, hc⟩ := h i hi
  injection e with e; injection e with e1 e2; subst e1; subst e2
  exact ⟨hb, hc⟩
theorem RowI.first {w : World} {B n : Nat} {o : Option Addr} {C : Nat → Int} (h : RowI w B o n C) (hi : 0 < n) : ∃ b off, o = some ⟨b, off, none⟩ ∧ b < B ∧ w.cell? ⟨b, off, none⟩ = some (.int .i64 (C 0)) := h 0 hi
theorem take_eq_succ {l m : List Nat} {k : Nat} (h : l.take k = m.take k) (h1 : k < l.length) (h2 : k < m.length) (he : l.getD k 0 = m.getD k 0) : l.take (k + 1) = m.take (k + 1) := by
  rw [List.take_add_one, List.take_add_one, h, natAt_mem h1, natAt_mem h2, he]
theorem lastAt_succ (l : List Nat) (k : Nat) : lastAt l (k + 1) = ((l.getD k 0 : Nat) : Int) := by unfold lastAt natAt; rw [if_neg (by omega)]; rfl
set_option maxRecDepth 100000 in
set_option maxHeartbeats 16000000 in
theorem walkSyllabusInverse (o : Option Addr) (n c : Nat) (zs : List Int) (a b : Int) (w : World) (h0 : IsRow .i64 w o n c zs) (l1 : -9223372036854775808 ≤ a) (u1 : a < 9223372036854775808) (l2 : -9223372036854775808 ≤ b) (u2 : b < 9223372036854775808) :
    Calls Try.prog 8 #[.slice o n c, .int .i64 a, .int .i64 b] w fun e w' => e = .returned (.bool true) ∧ Below w.heap.size w w' := by
  obtain ⟨hr, h1, h2, h3⟩ := row_of h0
  go_enter Try.func8, Try.ntmps8
  go_wp2_with fail
  refine (tape_new hr h1 h2 h3).mono ?_
  rintro e w1 ⟨g, n9, rfl, ht1, hb1, hg⟩
  go_wp2_with fail
  refine (draw_any 0 (by omega) (by omega) ht1).mono ?_
  rintro e w2 ⟨p, lt, lo, lc, rfl, hS, _, ht2, hg2, hl1, _, _, _, hz⟩
  obtain ⟨hchk, hl6, _⟩ := hz rfl
  have HB2 := Lib.hid (hb1.trans (bGr hg2 hg hb1.size))
  have hn1 : 1 ≤ (sylOf lt lo lc).nT := hl1
  have hn6 : (sylOf lt lo lc).nT ≤ 6 := hl6
  clear hz hl1 hl6
  generalize sylOf lt lo lc = S at hS hchk hn1 hn6 ⊢
  have hb3 := bAl (Below.refl _ w2) (.cells (sylC p S) 27)
  have P3 := Lib.hid (Blk.new w2 27 (sylC p S))
  have HS3 := Lib.hid (hS.later hb3)
  have HB3 := Lib.hid (bAl HB2.out (.cells (sylC p S) 27))
  clear hr h1 h2 h3 hb1 ht1 hg hS ht2 hg2 hb3 HB2
  have HXX := Lib.hid (fun W => cut_any a S.nT (by omega) (by omega) ⟨l1, u1⟩ W)
  have HYY := Lib.hid (fun W => cut_any b S.nT (by omega) (by omega) ⟨l2, u2⟩ W)
  obtain ⟨A, hA⟩ : ∃ A : Nat, a % (S.nT : Int) = (A : Int) := ⟨(a % (S.nT : Int)).toNat, by have := Int.emod_nonneg a (show (S.nT : Int) ≠ 0 by omega); omega⟩
  obtain ⟨B, hB⟩ : ∃ B : Nat, b % (S.nT : Int) = (B : Int) := ⟨(b % (S.nT : Int)).toNat, by have := Int.emod_nonneg b (show (S.nT : Int) ≠ 0 by omega); omega⟩
  have hAn : A < S.nT := by have := Int.emod_lt_of_pos a (show 0 < (S.nT : Int) by omega); omega
  have hBn : B < S.nT := by have := Int.emod_lt_of_pos b (show 0 < (S.nT : Int) by omega); omega
  rw [hA] at HXX
  rw [hB] at HYY
  clear hA hB
  have hF : Fst S.tp S.nT := (S.ok hchk).2.2.2.1
  have hasA : S.has (A : Int) = true := by unfold Syl.has; exact decide_eq_true ⟨hchk, by omega, by omega⟩
  have hasB : S.has (B : Int) = true := by unfold Syl.has; exact decide_eq_true ⟨hchk, by omega, by omega⟩
  have ePA : S.pth (A : Int) = path S.tp A := by unfold Syl.pth; rw [if_pos hasA]; rfl
  have ePB : S.pth (B : Int) = path S.tp B := by unfold Syl.pth; rw [if_pos hasB]; rfl
  have eU : S.und (A : Int) = underL S.tp S.nT A := by unfold Syl.und; rw [if_pos hasA]; rfl
  have eC : S.com (A : Int) (B : Int) = commonI S.tp A B := by unfold Syl.com; rw [if_pos ⟨hasA, hasB⟩]; rfl
  have F1 := Lib.hid (fun W (hX : SylIn W W.heap.size p S) => path_any p S A W hX)
  have F2 := Lib.hid (fun W (hX : SylIn W W.heap.size p S) => path_any p S B W hX)
  have F3 := Lib.hid (fun W (hX : SylIn W W.heap.size p S) => under_any p S A W hX)
  have F4 := Lib.hid (fun W (hX : SylIn W W.heap.size p S) => common_any p S A B W hX)
  rw [ePA] at F1
  rw [ePB] at F2
  rw [eU] at F3
  rw [eC] at F4
  clear ePA ePB eU eC hasA hasB
  have M1 := Lib.hid (under_path (pa := S.tp) (a := A) hBn)
  have M2 := Lib.hid (path_self S.tp A)
  have M3 := path_pos S.tp A
  have M3b := path_pos S.tp B
  obtain ⟨M4, M4b⟩ := path_root hF A hAn
  have M5 := Lib.hid (common_last S.tp A B)
  have L1 := Lib.hid (show (path S.tp A).length ≤ 1000000 by have := path_len S.tp A; omega)
  have L2 := Lib.hid (show (path S.tp B).length ≤ 1000000 by have := path_len S.tp B; omega)
  have L3 := Lib.hid (show (underL S.tp S.nT A).length ≤ 1000000 by have := filt_len (fun i => decide (A ∈ path S.tp i)) S.nT; unfold underL; omega)
  generalize path S.tp A = PA at F1 M1 M2 M3 M4 M4b M5 L1
  generalize path S.tp B = PB at F2 M1 M3b M5 L2
  generalize underL S.tp S.nT A = UA at F3 M1 L3
  generalize commonI S.tp A B = CM at F4 M5
  obtain ⟨bT, offT, ho1, hbT, _, ctp⟩ := HS3.out.t _ M4b
  rw [M4] at ctp
  obtain ⟨x, hx⟩ : ∃ x, PA.getD 0 0 = x := ⟨_, rfl⟩
  rw [hx] at ctp M4b
  have HX0 := Lib.hid hx
  have CT := Lib.hid (show CellAt ⟨bT, offT + x * 2 + 1, none⟩ (.int .i64 (-1)) (w2.alloc (.cells (sylC p S) 27)) from ⟨hbT, ctp⟩)
  clear hx ctp M4 hF hchk
  unfold sylC at P3 HS3 HB3 F1 F2 F3 F4 CT ⊢
  rw [ho1] at P3 HS3 HB3 F1 F2 F3 F4 CT ⊢
  go_wp2_with fail
  generalize w2.alloc _ = w3 at P3 HS3 HB3 CT ⊢
  generalize w2.heap.size = gs at P3 ⊢
  have q0 := P3.out.cell 0
  have q1 := P3.out.cell 1
  have q2 := P3.out.cell 2
  go_wp2_with fail
  refine (HXX.out _).mono ?_
  rintro e w' ⟨rfl, hw'⟩
  obtain rfl := hw'
  go_wp2_with fail
  refine (HYY.out _).mono ?_
  rintro e w' ⟨rfl, hw'⟩
  obtain rfl := hw'
  go_wp2_with fail
  have HSc := Lib.hid (HS3.out.later (bD1 (Below.refl w3.heap.size w3)))
  have PBc := Lib.hid (P3.out.later (bD1 (Below.refl w3.heap.size w3)))
  have HBc := Lib.hid (bTr HB3.out (bD1 (Below.refl w3.heap.size w3)))
  have CTc := Lib.hid (CT.out.later (bD1 (Below.refl w3.heap.size w3)))
  clear HS3 P3 HB3 CT q0 q1 q2 HXX HYY
  have hH : BoxI gs (.slice (some ⟨bT, offT, none⟩) S.nT p.c1) (.slice p.o2 S.nO p.c2) (.slice p.o3 S.nC p.c3) w3.drew := ⟨PBc.out.cell 0, PBc.out.cell 1, PBc.out.cell 2⟩
  refine wp_region_held_tail (BoxI gs (.slice (some ⟨bT, offT, none⟩) S.nT p.c1) (.slice p.o2 S.nO p.c2) (.slice p.o3 S.nC p.c3)) 7 (by kernel_rfl) (by kernel_rfl) ?_
  simp only [List.drop_succ_cons, List.drop_zero]
  refine HeadW.take (i := 0) (oi := ?oi1) (v := ?v1) ?hi1 (by kernel_rfl) ?hQ1 (Or.inl ⟨?hg1, ?hy1⟩) hH ?rest1
  case hi1 => simp only [List.getElem?_toArray, List.getElem?_cons_succ, List.getElem?_cons_zero]; rfl
  case hQ1 => exact fun _ _ _ h => h
  case hg1 => rfl
  case hy1 => intro W hSw; obtain ⟨s0, s1, s2⟩ := hSw; go_simp; try with_reducible rfl
  case rest1 =>
  try simp only [Act.put, List.setIfInBounds_toArray, List.set_cons_zero, List.set_cons_succ]
  refine HeadW.take (i := 1) (oi := ?oi2) (v := ?v2) ?hi2 (by kernel_rfl) ?hQ2 (Or.inl ⟨?hg2, ?hy2⟩) hH ?rest2
  case hi2 => simp only [List.getElem?_toArray, List.getElem?_cons_succ, List.getElem?_cons_zero]; rfl
  case hQ2 => exact fun _ _ _ h => h
  case hg2 => rfl
  case hy2 => intro W hSw; obtain ⟨s0, s1, s2⟩ := hSw; go_simp; try with_reducible rfl
  case rest2 =>
  try simp only [Act.put, List.setIfInBounds_toArray, List.set_cons_zero, List.set_cons_succ]
  refine HeadW.take (i := 3) (oi := ?oi3) (v := ?v3) ?hi3 (by kernel_rfl) ?hQ3 (Or.inl ⟨?hg3, ?hy3⟩) hH ?rest3
  case hi3 => simp only [List.getElem?_toArray, List.getElem?_cons_succ, List.getElem?_cons_zero]; rfl
  case hQ3 => exact fun _ _ _ h => h
  case hg3 => rfl
  case hy3 => intro W hSw; obtain ⟨s0, s1, s2⟩ := hSw; go_simp; try with_reducible rfl
  case rest3 =>
  try simp only [Act.put, List.setIfInBounds_toArray, List.set_cons_zero, List.set_cons_succ]
  refine HeadW.take (i := 4) (oi := ?oi4) (v := ?v4) ?hi4 (by kernel_rfl) ?hQ4 (Or.inl ⟨?hg4, ?hy4⟩) hH ?rest4
  case hi4 => simp only [List.getElem?_toArray, List.getElem?_cons_succ, List.getElem?_cons_zero]; rfl
  case hQ4 => exact fun _ _ _ h => h
  case hg4 => rfl
  case hy4 => intro W hSw; obtain ⟨s0, s1, s2⟩ := hSw; go_simp; try with_reducible rfl
  case rest4 =>
  try simp only [Act.put, List.setIfInBounds_toArray, List.set_cons_zero, List.set_cons_succ]
  refine HeadW.one (i := 2) (o := ?oi5) ?hi5 (by kernel_rfl) ?st5
  case hi5 => simp only [List.getElem?_toArray, List.getElem?_cons_succ, List.getElem?_cons_zero]; rfl
  case st5 =>
  intro K hK
  go_simp
  go_at_call 20
  refine (F1.out _ HSc.out).mono ?_
  rintro e w4 ⟨v4, rfl, hv4, hb⟩
  obtain ⟨oP, cP, rfl, _, _, hrow⟩ := hv4.row
  have RP := Lib.hid hrow
  clear hrow hv4
  have HSc := Lib.hid (HSc.out.later hb)
  have PBc := Lib.hid (PBc.out.later hb)
  have HBc := Lib.hid (bTr HBc.out hb)
  have CTc := Lib.hid (CTc.out.later hb)
  clear hb hH
  have hH : BoxI gs (.slice (some ⟨bT, offT, none⟩) S.nT p.c1) (.slice p.o2 S.nO p.c2) (.slice p.o3 S.nC p.c3) _ := ⟨PBc.out.cell 0, PBc.out.cell 1, PBc.out.cell 2⟩
  try dsimp only
  refine hK.out _ _ hH ?_
  clear hK K
  try simp only [Act.put, List.setIfInBounds_toArray, List.set_cons_zero, List.set_cons_succ]
  refine HeadW.one (i := 5) (o := ?oi6) ?hi6 (by kernel_rfl) ?st6
  case hi6 => simp only [List.getElem?_toArray, List.getElem?_cons_succ, List.getElem?_cons_zero]; rfl
  case st6 =>
  intro K hK
  go_simp
  go_at_call 20
  refine (F2.out _ HSc.out).mono ?_
  rintro e w5 ⟨v5, rfl, hv5, hb⟩
  obtain ⟨oQ, cQ, rfl, _, _, hrow⟩ := hv5.row
  have RQ := Lib.hid hrow
  have RP := Lib.hid ((RP.out.below hb (Nat.le_refl _)).more hb.size)
  clear hrow hv5
  have HSc := Lib.hid (HSc.out.later hb)
  have PBc := Lib.hid (PBc.out.later hb)
  have HBc := Lib.hid (bTr HBc.out hb)
  have CTc := Lib.hid (CTc.out.later hb)
  clear hb hH
  have hH : BoxI gs (.slice (some ⟨bT, offT, none⟩) S.nT p.c1) (.slice p.o2 S.nO p.c2) (.slice p.o3 S.nC p.c3) _ := ⟨PBc.out.cell 0, PBc.out.cell 1, PBc.out.cell 2⟩
  try dsimp only
  refine hK.out _ _ hH ?_
  clear hK K
  try simp only [Act.put, List.setIfInBounds_toArray, List.set_cons_zero, List.set_cons_succ]
  refine HeadW.take (i := 6) (oi := ?oi7) (v := ?v7) ?hi7 (by kernel_rfl) ?hQ7 (Or.inl ⟨?hg7, ?hy7⟩) hH ?rest7
  case hi7 => simp only [List.getElem?_toArray, List.getElem?_cons_succ, List.getElem?_cons_zero]; rfl
  case hQ7 => exact fun _ _ _ h => h
  case hg7 => rfl
  case hy7 => intro W hSw; obtain ⟨s0, s1, s2⟩ := hSw; go_simp; try with_reducible rfl
  case rest7 =>
  try simp only [Act.put, List.setIfInBounds_toArray, List.set_cons_zero, List.set_cons_succ]
  refine HeadW.done (by kernel_rfl) ?_
  obtain ⟨bP, offP, rfl, hbP, hcP⟩ := RP.out.first M3
  obtain ⟨bQ, offQ, rfl, hbQ, hcQ⟩ := RQ.out.first M3b
  have CPc := Lib.hid (show CellAt ⟨bP, offP, none⟩ (.int .i64 (x : Int)) w5 from ⟨hbP, by rw [hcP]; unfold natAt; rw [HX0.out]⟩)
  clear hbP hcP hbQ hcQ hH
  go_wp2_with fail
  go_loopw [11, 12] (fun v i wr => ∃ k : Nat, i = .int .i64 k ∧ k ≤ PA.length ∧ k ≤ PB.length ∧ Hid (PA.take k = PB.take k) ∧ v = .int .i64 (lastAt PA k) ∧ Hid (Below w5.heap.size w5 wr)) (fun _ i _ => PA.length - (intOf i).toNat)
  case atStart => exact ⟨0, rfl, Nat.zero_le _, Nat.zero_le _, Lib.hid rfl, rfl, Lib.hid (Below.refl _ _)⟩
  case round =>
    obtain ⟨k, rfl, hk1, hk2, HT, rfl, HW⟩ := hrel
    by_cases hkp : k < PA.length
    · have hkp' : (k : Int) < (PA.length : Int) := by omega
      have hLL := L1.out
      by_cases hkq : k < PB.length
      · have hkq' : (k : Int) < (PB.length : Int) := by omega
        have c1 : wr.cell? ⟨bP, offP + k, none⟩ = some (.int .i64 ((PA.getD k 0 : Nat) : Int)) := ((RP.out.below HW.out (Nat.le_refl _)).at_ hkp).2
        have c2 : wr.cell? ⟨bQ, offQ + k, none⟩ = some (.int .i64 ((PB.getD k 0 : Nat) : Int)) := ((RQ.out.below HW.out (Nat.le_refl _)).at_ hkq).2
        by_cases he : PA.getD k 0 = PB.getD k 0
        · have HT1 := Lib.hid (take_eq_succ HT.out hkp hkq he)
          have HLA := Lib.hid (lastAt_succ PA k)
          rw [← he] at c2
          generalize PA.getD k 0 = y at c1 c2 HLA
          generalize lastAt PA k = lk
          have hyy : ((y : Int) == (y : Int)) = true := by simp
          clear he
          go_wp2_with fail
          go_region
          go_wp2_with fail
          go_roundw
          case rel => exact ⟨k + 1, by go_num, by omega, by omega, HT1, by rw [HLA.out], Lib.hid (bTr HW.out (bD1 (Below.refl _ _)))⟩
          case measure => simp [intOf]; omega
        · have HCM := Lib.hid (M5.out k hk1 hk2 HT.out (.inr (.inr he)))
          generalize PA.getD k 0 = y at c1 he
          generalize PB.getD k 0 = z at c2 he
          have hyy : ((y : Int) == (z : Int)) = false := by rw [beq_eq_false_iff_ne]; omega
          rw [← HCM.out]
          go_wp2_with fail
          go_region
          go_wp2_with fail
          have hb := bTr HW.out (bD1 (Below.refl _ _))
          have HSc := Lib.hid (HSc.out.later (bD1 hb))
          have PBc := Lib.hid (PBc.out.later (bD1 hb))
          have HBc := Lib.hid (bTr HBc.out (bD1 hb))
          have CTc := Lib.hid (CTc.out.later (bD1 hb))
          have CPc := Lib.hid (CPc.out.later (bD1 hb))
          have RP := Lib.hid ((RP.out.below (bD1 hb) (Nat.le_refl _)).more (bD1 hb).size)
          have RQ := Lib.hid ((RQ.out.below (bD1 hb) (Nat.le_refl _)).more (bD1 hb).size)
          clear hb HW
          have hH : BoxJ gs (.slice (some ⟨bT, offT, none⟩) S.nT p.c1) (.slice p.o2 S.nO p.c2) (.slice p.o3 S.nC p.c3) ⟨bP, offP, none⟩ (.int .i64 (x : Int)) ⟨bT, offT + x * 2 + 1, none⟩ (.int .i64 (-1)) _ := ⟨⟨PBc.out.cell 0, PBc.out.cell 1, PBc.out.cell 2⟩, CPc.out.2, CTc.out.2⟩
          have hcc : (CM == CM) = true := by simp
          have hxn : (x : Int) < (S.nT : Int) := by omega
          have hp0 : (0 : Int) < (PA.length : Int) := by omega
          refine wp_region_held_tail (BoxJ gs (.slice (some ⟨bT, offT, none⟩) S.nT p.c1) (.slice p.o2 S.nO p.c2) (.slice p.o3 S.nC p.c3) ⟨bP, offP, none⟩ (.int .i64 (x : Int)) ⟨bT, offT + x * 2 + 1, none⟩ (.int .i64 (-1))) 41 (by kernel_rfl) (by kernel_rfl) ?_
          simp only [List.drop_succ_cons, List.drop_zero]
          refine HeadW.take (i := 0) (oi := ?oi8) (v := ?v8) ?hi8 (by kernel_rfl) ?hQ8 (Or.inl ⟨?hg8, ?hy8⟩) hH ?rest8
          case hi8 => simp only [List.getElem?_toArray, List.getElem?_cons_succ, List.getElem?_cons_zero]; rfl
          case hQ8 => exact fun _ _ _ h => h
          case hg8 => rfl
          case hy8 => intro W hSw; obtain ⟨⟨s0, s1, s2⟩, s3, s4⟩ := hSw; go_simp; try with_reducible rfl
          case rest8 =>
          try simp only [Act.put, List.setIfInBounds_toArray, List.set_cons_zero, List.set_cons_succ]
          refine HeadW.take (i := 1) (oi := ?oi9) (v := ?v9) ?hi9 (by kernel_rfl) ?hQ9 (Or.inl ⟨?hg9, ?hy9⟩) hH ?rest9
          case hi9 => simp only [List.getElem?_toArray, List.getElem?_cons_succ, List.getElem?_cons_zero]; rfl
          case hQ9 => exact fun _ _ _ h => h
          case hg9 => rfl
          case hy9 => intro W hSw; obtain ⟨⟨s0, s1, s2⟩, s3, s4⟩ := hSw; go_simp; try with_reducible rfl
          case rest9 =>
          try simp only [Act.put, List.setIfInBounds_toArray, List.set_cons_zero, List.set_cons_succ]
          refine HeadW.take (i := 3) (oi := ?oi10) (v := ?v10) ?hi10 (by kernel_rfl) ?hQ10 (Or.inl ⟨?hg10, ?hy10⟩) hH ?rest10
          case hi10 => simp only [List.getElem?_toArray, List.getElem?_cons_succ, List.getElem?_cons_zero]; rfl
          case hQ10 => exact fun _ _ _ h => h
          case hg10 => rfl
          case hy10 => intro W hSw; obtain ⟨⟨s0, s1, s2⟩, s3, s4⟩ := hSw; go_simp; try with_reducible rfl
          case rest10 =>
          try simp only [Act.put, List.setIfInBounds_toArray, List.set_cons_zero, List.set_cons_succ]
          refine HeadW.take (i := 4) (oi := ?oi11) (v := ?v11) ?hi11 (by kernel_rfl) ?hQ11 (Or.inl ⟨?hg11, ?hy11⟩) hH ?rest11
          case hi11 => simp only [List.getElem?_toArray, List.getElem?_cons_succ, List.getElem?_cons_zero]; rfl
          case hQ11 => exact fun _ _ _ h => h
          case hg11 => rfl
          case hy11 => intro W hSw; obtain ⟨⟨s0, s1, s2⟩, s3, s4⟩ := hSw; go_simp; try with_reducible rfl
          case rest11 =>
          try simp only [Act.put, List.setIfInBounds_toArray, List.set_cons_zero, List.set_cons_succ]
          refine HeadW.take (i := 6) (oi := ?oi12) (v := ?v12) ?hi12 (by kernel_rfl) ?hQ12 (Or.inl ⟨?hg12, ?hy12⟩) hH ?rest12
          case hi12 => simp only [List.getElem?_toArray, List.getElem?_cons_succ, List.getElem?_cons_zero]; rfl
          case hQ12 => exact fun _ _ _ h => h
          case hg12 => rfl
          case hy12 => intro W hSw; obtain ⟨⟨s0, s1, s2⟩, s3, s4⟩ := hSw; go_simp; try with_reducible rfl
          case rest12 =>
          try simp only [Act.put, List.setIfInBounds_toArray, List.set_cons_zero, List.set_cons_succ]
          refine HeadW.one (i := 2) (o := ?oi13) ?hi13 (by kernel_rfl) ?st13
          case hi13 => simp only [List.getElem?_toArray, List.getElem?_cons_succ, List.getElem?_cons_zero]; rfl
          case st13 =>
          intro K hK
          go_simp
          go_at_call 33
          refine (has_nat _ _ _ _ _ _ RQ.out L2.out).mono ?_
          rintro e w' ⟨rfl, hw'⟩
          obtain rfl := hw'.symm
          try dsimp only
          refine hK.out _ _ hH ?_
          clear hK K
          try simp only [Act.put, List.setIfInBounds_toArray, List.set_cons_zero, List.set_cons_succ]
          refine HeadW.one (i := 5) (o := ?oi14) ?hi14 (by kernel_rfl) ?st14
          case hi14 => simp only [List.getElem?_toArray, List.getElem?_cons_succ, List.getElem?_cons_zero]; rfl
          case st14 =>
          intro K hK
          go_simp
          go_at_call 18
          refine (F3.out _ HSc.out).mono ?_
          rintro e w7 ⟨v7, rfl, hv7, hb⟩
          obtain ⟨oU, cU, rfl, _, _, hrow⟩ := hv7.row
          have RU := Lib.hid hrow
          clear hrow hv7
          have HSc := Lib.hid (HSc.out.later hb)
          have PBc := Lib.hid (PBc.out.later hb)
          have HBc := Lib.hid (bTr HBc.out hb)
          have CTc := Lib.hid (CTc.out.later hb)
          have CPc := Lib.hid (CPc.out.later hb)
          have RP := Lib.hid ((RP.out.below hb (Nat.le_refl _)).more hb.size)
          have RQ := Lib.hid ((RQ.out.below hb (Nat.le_refl _)).more hb.size)
          clear hb hH
          have hH : BoxJ gs (.slice (some ⟨bT, offT, none⟩) S.nT p.c1) (.slice p.o2 S.nO p.c2) (.slice p.o3 S.nC p.c3) ⟨bP, offP, none⟩ (.int .i64 (x : Int)) ⟨bT, offT + x * 2 + 1, none⟩ (.int .i64 (-1)) _ := ⟨⟨PBc.out.cell 0, PBc.out.cell 1, PBc.out.cell 2⟩, CPc.out.2, CTc.out.2⟩
          try dsimp only
          refine hK.out _ _ hH ?_
          clear hK K
          try simp only [Act.put, List.setIfInBounds_toArray, List.set_cons_zero, List.set_cons_succ]
          refine HeadW.one (i := 7) (o := ?oi15) ?hi15 (by kernel_rfl) ?st15
          case hi15 => simp only [List.getElem?_toArray, List.getElem?_cons_succ, List.getElem?_cons_zero]; rfl
          case st15 =>
          intro K hK
          go_simp
          go_at_call 33
          refine (has_nat _ _ _ _ _ _ RU.out L3.out).mono ?_
          rintro e w' ⟨rfl, hw'⟩
          obtain rfl := hw'.symm
          rw [M1.out]
          generalize decide (A ∈ PB) = dd
          have hdd : (dd == dd) = true := by simp
          clear RU
          try dsimp only
          refine hK.out _ _ hH ?_
          clear hK K
          try simp only [Act.put, List.setIfInBounds_toArray, List.set_cons_zero, List.set_cons_succ]
          refine HeadW.take (i := 8) (oi := ?oi16) (v := ?v16) ?hi16 (by kernel_rfl) ?hQ16 (Or.inl ⟨?hg16, ?hy16⟩) hH ?rest16
          case hi16 => simp only [List.getElem?_toArray, List.getElem?_cons_succ, List.getElem?_cons_zero]; rfl
          case hQ16 => exact fun _ _ _ h => h
          case hg16 => rfl
          case hy16 => intro W hSw; obtain ⟨⟨s0, s1, s2⟩, s3, s4⟩ := hSw; go_simp; try with_reducible rfl
          case rest16 =>
          try simp only [Act.put, List.setIfInBounds_toArray, List.set_cons_zero, List.set_cons_succ]
          refine HeadW.take (i := 9) (oi := ?oi17) (v := ?v17) ?hi17 (by kernel_rfl) ?hQ17 (Or.inl ⟨?hg17, ?hy17⟩) hH ?rest17
          case hi17 => simp only [List.getElem?_toArray, List.getElem?_cons_succ, List.getElem?_cons_zero]; rfl
          case hQ17 => exact fun _ _ _ h => h
          case hg17 => rfl
          case hy17 => intro W hSw; obtain ⟨⟨s0, s1, s2⟩, s3, s4⟩ := hSw; go_simp; try with_reducible rfl
          case rest17 =>
          try simp only [Act.put, List.setIfInBounds_toArray, List.set_cons_zero, List.set_cons_succ]
          refine HeadW.take (i := 10) (oi := ?oi18) (v := ?v18) ?hi18 (by kernel_rfl) ?hQ18 (Or.inl ⟨?hg18, ?hy18⟩) hH ?rest18
          case hi18 => simp only [List.getElem?_toArray, List.getElem?_cons_succ, List.getElem?_cons_zero]; rfl
          case hQ18 => exact fun _ _ _ h => h
          case hg18 => rfl
          case hy18 => intro W hSw; obtain ⟨⟨s0, s1, s2⟩, s3, s4⟩ := hSw; go_simp; try with_reducible rfl
          case rest18 =>
          try simp only [Act.put, List.setIfInBounds_toArray, List.set_cons_zero, List.set_cons_succ]
          refine HeadW.take (i := 11) (oi := ?oi19) (v := ?v19) ?hi19 (by kernel_rfl) ?hQ19 (Or.inl ⟨?hg19, ?hy19⟩) hH ?rest19
          case hi19 => simp only [List.getElem?_toArray, List.getElem?_cons_succ, List.getElem?_cons_zero]; rfl
          case hQ19 => exact fun _ _ _ h => h
          case hg19 => rfl
          case hy19 => intro W hSw; obtain ⟨⟨s0, s1, s2⟩, s3, s4⟩ := hSw; go_simp; try with_reducible rfl
          case rest19 =>
          try simp only [Act.put, List.setIfInBounds_toArray, List.set_cons_zero, List.set_cons_succ]
          refine HeadW.one (i := 12) (o := ?oi20) ?hi20 (by kernel_rfl) ?st20
          case hi20 => simp only [List.getElem?_toArray, List.getElem?_cons_succ, List.getElem?_cons_zero]; rfl
          case st20 =>
          intro K hK
          go_simp
          go_at_call 33
          refine (has_nat _ _ _ _ _ _ RP.out L1.out).mono ?_
          rintro e w' ⟨rfl, hw'⟩
          obtain rfl := hw'.symm
          rw [decide_eq_true M2.out]
          try dsimp only
          refine hK.out _ _ hH ?_
          clear hK K
          try simp only [Act.put, List.setIfInBounds_toArray, List.set_cons_zero, List.set_cons_succ]
          refine HeadW.take (i := 13) (oi := ?oi21) (v := ?v21) ?hi21 (by kernel_rfl) ?hQ21 (Or.inl ⟨?hg21, ?hy21⟩) hH ?rest21
          case hi21 => simp only [List.getElem?_toArray, List.getElem?_cons_succ, List.getElem?_cons_zero]; rfl
          case hQ21 => exact fun _ _ _ h => h
          case hg21 => rfl
          case hy21 => intro W hSw; obtain ⟨⟨s0, s1, s2⟩, s3, s4⟩ := hSw; go_simp; try with_reducible rfl
          case rest21 =>
          try simp only [Act.put, List.setIfInBounds_toArray, List.set_cons_zero, List.set_cons_succ]
          refine HeadW.take (i := 14) (oi := ?oi22) (v := ?v22) ?hi22 (by kernel_rfl) ?hQ22 (Or.inl ⟨?hg22, ?hy22⟩) hH ?rest22
          case hi22 => simp only [List.getElem?_toArray, List.getElem?_cons_succ, List.getElem?_cons_zero]; rfl
          case hQ22 => exact fun _ _ _ h => h
          case hg22 => rfl
          case hy22 => intro W hSw; obtain ⟨⟨s0, s1, s2⟩, s3, s4⟩ := hSw; go_simp; try with_reducible rfl
          case rest22 =>
          try simp only [Act.put, List.setIfInBounds_toArray, List.set_cons_zero, List.set_cons_succ]
          refine HeadW.take (i := 15) (oi := ?oi23) (v := ?v23) ?hi23 (by kernel_rfl) ?hQ23 (Or.inl ⟨?hg23, ?hy23⟩) hH ?rest23
          case hi23 => simp only [List.getElem?_toArray, List.getElem?_cons_succ, List.getElem?_cons_zero]; rfl
          case hQ23 => exact fun _ _ _ h => h
          case hg23 => rfl
          case hy23 => intro W hSw; obtain ⟨⟨s0, s1, s2⟩, s3, s4⟩ := hSw; go_simp; try with_reducible rfl
          case rest23 =>
          try simp only [Act.put, List.setIfInBounds_toArray, List.set_cons_zero, List.set_cons_succ]
          refine HeadW.one (i := 16) (o := ?oi24) ?hi24 (by kernel_rfl) ?st24
          case hi24 => simp only [List.getElem?_toArray, List.getElem?_cons_succ, List.getElem?_cons_zero]; rfl
          case st24 =>
          intro K hK
          go_simp

          try dsimp only
          refine hK.out _ _ hH ?_
          clear hK K
          try simp only [Act.put, List.setIfInBounds_toArray, List.set_cons_zero, List.set_cons_succ]
          refine HeadW.take (i := 17) (oi := ?oi25) (v := ?v25) ?hi25 (by kernel_rfl) ?hQ25 (Or.inl ⟨?hg25, ?hy25⟩) hH ?rest25
          case hi25 => simp only [List.getElem?_toArray, List.getElem?_cons_succ, List.getElem?_cons_zero]; rfl
          case hQ25 => exact fun _ _ _ h => h
          case hg25 => rfl
          case hy25 => intro W hSw; obtain ⟨⟨s0, s1, s2⟩, s3, s4⟩ := hSw; go_simp; try with_reducible rfl
          case rest25 =>
          try simp only [Act.put, List.setIfInBounds_toArray, List.set_cons_zero, List.set_cons_succ]
          refine HeadW.take (i := 18) (oi := ?oi26) (v := ?v26) ?hi26 (by kernel_rfl) ?hQ26 (Or.inl ⟨?hg26, ?hy26⟩) hH ?rest26
          case hi26 => simp only [List.getElem?_toArray, List.getElem?_cons_succ, List.getElem?_cons_zero]; rfl
          case hQ26 => exact fun _ _ _ h => h
          case hg26 => rfl
          case hy26 => intro W hSw; obtain ⟨⟨s0, s1, s2⟩, s3, s4⟩ := hSw; go_simp; try with_reducible rfl
          case rest26 =>
          try simp only [Act.put, List.setIfInBounds_toArray, List.set_cons_zero, List.set_cons_succ]
          refine HeadW.take (i := 19) (oi := ?oi27) (v := ?v27) ?hi27 (by kernel_rfl) ?hQ27 (Or.inl ⟨?hg27, ?hy27⟩) hH ?rest27
          case hi27 => simp only [List.getElem?_toArray, List.getElem?_cons_succ, List.getElem?_cons_zero]; rfl
          case hQ27 => exact fun _ _ _ h => h
          case hg27 => rfl
          case hy27 => intro W hSw; obtain ⟨⟨s0, s1, s2⟩, s3, s4⟩ := hSw; go_simp; try with_reducible rfl
          case rest27 =>
          try simp only [Act.put, List.setIfInBounds_toArray, List.set_cons_zero, List.set_cons_succ]
          refine HeadW.take (i := 20) (oi := ?oi28) (v := ?v28) ?hi28 (by kernel_rfl) ?hQ28 (Or.inl ⟨?hg28, ?hy28⟩) hH ?rest28
          case hi28 => simp only [List.getElem?_toArray, List.getElem?_cons_succ, List.getElem?_cons_zero]; rfl
          case hQ28 => exact fun _ _ _ h => h
          case hg28 => rfl
          case hy28 => intro W hSw; obtain ⟨⟨s0, s1, s2⟩, s3, s4⟩ := hSw; go_simp; try with_reducible rfl
          case rest28 =>
          try simp only [Act.put, List.setIfInBounds_toArray, List.set_cons_zero, List.set_cons_succ]
          refine HeadW.take (i := 21) (oi := ?oi29) (v := ?v29) ?hi29 (by kernel_rfl) ?hQ29 (Or.inl ⟨?hg29, ?hy29⟩) hH ?rest29
          case hi29 => simp only [List.getElem?_toArray, List.getElem?_cons_succ, List.getElem?_cons_zero]; rfl
          case hQ29 => exact fun _ _ _ h => h
          case hg29 => rfl
          case hy29 => intro W hSw; obtain ⟨⟨s0, s1, s2⟩, s3, s4⟩ := hSw; go_simp; try with_reducible rfl
          case rest29 =>
          try simp only [Act.put, List.setIfInBounds_toArray, List.set_cons_zero, List.set_cons_succ]
          refine HeadW.take (i := 22) (oi := ?oi30) (v := ?v30) ?hi30 (by kernel_rfl) ?hQ30 (Or.inl ⟨?hg30, ?hy30⟩) hH ?rest30
          case hi30 => simp only [List.getElem?_toArray, List.getElem?_cons_succ, List.getElem?_cons_zero]; rfl
          case hQ30 => exact fun _ _ _ h => h
          case hg30 => rfl
          case hy30 => intro W hSw; obtain ⟨⟨s0, s1, s2⟩, s3, s4⟩ := hSw; go_simp; try with_reducible rfl
          case rest30 =>
          try simp only [Act.put, List.setIfInBounds_toArray, List.set_cons_zero, List.set_cons_succ]
          refine HeadW.take (i := 23) (oi := ?oi31) (v := ?v31) ?hi31 (by kernel_rfl) ?hQ31 (Or.inl ⟨?hg31, ?hy31⟩) hH ?rest31
          case hi31 => simp only [List.getElem?_toArray, List.getElem?_cons_succ, List.getElem?_cons_zero]; rfl
          case hQ31 => exact fun _ _ _ h => h
          case hg31 => rfl
          case hy31 => intro W hSw; obtain ⟨⟨s0, s1, s2⟩, s3, s4⟩ := hSw; go_simp; try with_reducible rfl
          case rest31 =>
          try simp only [Act.put, List.setIfInBounds_toArray, List.set_cons_zero, List.set_cons_succ]
          refine HeadW.take (i := 24) (oi := ?oi32) (v := ?v32) ?hi32 (by kernel_rfl) ?hQ32 (Or.inl ⟨?hg32, ?hy32⟩) hH ?rest32
          case hi32 => simp only [List.getElem?_toArray, List.getElem?_cons_succ, List.getElem?_cons_zero]; rfl
          case hQ32 => exact fun _ _ _ h => h
          case hg32 => rfl
          case hy32 => intro W hSw; obtain ⟨⟨s0, s1, s2⟩, s3, s4⟩ := hSw; go_simp; try with_reducible rfl
          case rest32 =>
          try simp only [Act.put, List.setIfInBounds_toArray, List.set_cons_zero, List.set_cons_succ]
          refine HeadW.take (i := 25) (oi := ?oi33) (v := ?v33) ?hi33 (by kernel_rfl) ?hQ33 (Or.inl ⟨?hg33, ?hy33⟩) hH ?rest33
          case hi33 => simp only [List.getElem?_toArray, List.getElem?_cons_succ, List.getElem?_cons_zero]; rfl
          case hQ33 => exact fun _ _ _ h => h
          case hg33 => rfl
          case hy33 => intro W hSw; obtain ⟨⟨s0, s1, s2⟩, s3, s4⟩ := hSw; go_simp; try with_reducible rfl
          case rest33 =>
          try simp only [Act.put, List.setIfInBounds_toArray, List.set_cons_zero, List.set_cons_succ]
          refine HeadW.take (i := 26) (oi := ?oi34) (v := ?v34) ?hi34 (by kernel_rfl) ?hQ34 (Or.inl ⟨?hg34, ?hy34⟩) hH ?rest34
          case hi34 => simp only [List.getElem?_toArray, List.getElem?_cons_succ, List.getElem?_cons_zero]; rfl
          case hQ34 => exact fun _ _ _ h => h
          case hg34 => rfl
          case hy34 => intro W hSw; obtain ⟨⟨s0, s1, s2⟩, s3, s4⟩ := hSw; go_simp; try with_reducible rfl
          case rest34 =>
          try simp only [Act.put, List.setIfInBounds_toArray, List.set_cons_zero, List.set_cons_succ]
          refine HeadW.take (i := 27) (oi := ?oi35) (v := ?v35) ?hi35 (by kernel_rfl) ?hQ35 (Or.inl ⟨?hg35, ?hy35⟩) hH ?rest35
          case hi35 => simp only [List.getElem?_toArray, List.getElem?_cons_succ, List.getElem?_cons_zero]; rfl
          case hQ35 => exact fun _ _ _ h => h
          case hg35 => rfl
          case hy35 => intro W hSw; obtain ⟨⟨s0, s1, s2⟩, s3, s4⟩ := hSw; go_simp; try with_reducible rfl
          case rest35 =>
          try simp only [Act.put, List.setIfInBounds_toArray, List.set_cons_zero, List.set_cons_succ]
          refine HeadW.take (i := 28) (oi := ?oi36) (v := ?v36) ?hi36 (by kernel_rfl) ?hQ36 (Or.inl ⟨?hg36, ?hy36⟩) hH ?rest36
          case hi36 => simp only [List.getElem?_toArray, List.getElem?_cons_succ, List.getElem?_cons_zero]; rfl
          case hQ36 => exact fun _ _ _ h => h
          case hg36 => rfl
          case hy36 => intro W hSw; obtain ⟨⟨s0, s1, s2⟩, s3, s4⟩ := hSw; go_simp; try with_reducible rfl
          case rest36 =>
          try simp only [Act.put, List.setIfInBounds_toArray, List.set_cons_zero, List.set_cons_succ]
          refine HeadW.take (i := 29) (oi := ?oi37) (v := ?v37) ?hi37 (by kernel_rfl) ?hQ37 (Or.inl ⟨?hg37, ?hy37⟩) hH ?rest37
          case hi37 => simp only [List.getElem?_toArray, List.getElem?_cons_succ, List.getElem?_cons_zero]; rfl
          case hQ37 => exact fun _ _ _ h => h
          case hg37 => rfl
          case hy37 => intro W hSw; obtain ⟨⟨s0, s1, s2⟩, s3, s4⟩ := hSw; go_simp; try with_reducible rfl
          case rest37 =>
          try simp only [Act.put, List.setIfInBounds_toArray, List.set_cons_zero, List.set_cons_succ]
          refine HeadW.take (i := 30) (oi := ?oi38) (v := ?v38) ?hi38 (by kernel_rfl) ?hQ38 (Or.inl ⟨?hg38, ?hy38⟩) hH ?rest38
          case hi38 => simp only [List.getElem?_toArray, List.getElem?_cons_succ, List.getElem?_cons_zero]; rfl
          case hQ38 => exact fun _ _ _ h => h
          case hg38 => rfl
          case hy38 => intro W hSw; obtain ⟨⟨s0, s1, s2⟩, s3, s4⟩ := hSw; go_simp; try with_reducible rfl
          case rest38 =>
          try simp only [Act.put, List.setIfInBounds_toArray, List.set_cons_zero, List.set_cons_succ]
          refine HeadW.take (i := 31) (oi := ?oi39) (v := ?v39) ?hi39 (by kernel_rfl) ?hQ39 (Or.inl ⟨?hg39, ?hy39⟩) hH ?rest39
          case hi39 => simp only [List.getElem?_toArray, List.getElem?_cons_succ, List.getElem?_cons_zero]; rfl
          case hQ39 => exact fun _ _ _ h => h
          case hg39 => rfl
          case hy39 => intro W hSw; obtain ⟨⟨s0, s1, s2⟩, s3, s4⟩ := hSw; go_simp; try with_reducible rfl
          case rest39 =>
          try simp only [Act.put, List.setIfInBounds_toArray, List.set_cons_zero, List.set_cons_succ]
          refine HeadW.take (i := 32) (oi := ?oi40) (v := ?v40) ?hi40 (by kernel_rfl) ?hQ40 (Or.inl ⟨?hg40, ?hy40⟩) hH ?rest40
          case hi40 => simp only [List.getElem?_toArray, List.getElem?_cons_succ, List.getElem?_cons_zero]; rfl
          case hQ40 => exact fun _ _ _ h => h
          case hg40 => rfl
          case hy40 => intro W hSw; obtain ⟨⟨s0, s1, s2⟩, s3, s4⟩ := hSw; go_simp; try with_reducible rfl
          case rest40 =>
          try simp only [Act.put, List.setIfInBounds_toArray, List.set_cons_zero, List.set_cons_succ]
          refine HeadW.take (i := 33) (oi := ?oi41) (v := ?v41) ?hi41 (by kernel_rfl) ?hQ41 (Or.inl ⟨?hg41, ?hy41⟩) hH ?rest41
          case hi41 => simp only [List.getElem?_toArray, List.getElem?_cons_succ, List.getElem?_cons_zero]; rfl
          case hQ41 => exact fun _ _ _ h => h
          case hg41 => rfl
          case hy41 => intro W hSw; obtain ⟨⟨s0, s1, s2⟩, s3, s4⟩ := hSw; go_simp; try with_reducible rfl
          case rest41 =>
          try simp only [Act.put, List.setIfInBounds_toArray, List.set_cons_zero, List.set_cons_succ]
          refine HeadW.take (i := 35) (oi := ?oi42) (v := ?v42) ?hi42 (by kernel_rfl) ?hQ42 (Or.inl ⟨?hg42, ?hy42⟩) hH ?rest42
          case hi42 => simp only [List.getElem?_toArray, List.getElem?_cons_succ, List.getElem?_cons_zero]; rfl
          case hQ42 => exact fun _ _ _ h => h
          case hg42 => rfl
          case hy42 => intro W hSw; obtain ⟨⟨s0, s1, s2⟩, s3, s4⟩ := hSw; go_simp; try with_reducible rfl
          case rest42 =>
          try simp only [Act.put, List.setIfInBounds_toArray, List.set_cons_zero, List.set_cons_succ]
          refine HeadW.one (i := 34) (o := ?oi43) ?hi43 (by kernel_rfl) ?st43
          case hi43 => simp only [List.getElem?_toArray, List.getElem?_cons_succ, List.getElem?_cons_zero]; rfl
          case st43 =>
          intro K hK
          go_simp
          go_at_call 22
          refine (F4.out _ HSc.out).mono ?_
          rintro e w8 ⟨rfl, hb⟩
          have HSc := Lib.hid (HSc.out.later hb)
          have PBc := Lib.hid (PBc.out.later hb)
          have HBc := Lib.hid (bTr HBc.out hb)
          have CTc := Lib.hid (CTc.out.later hb)
          have CPc := Lib.hid (CPc.out.later hb)
          have RP := Lib.hid ((RP.out.below hb (Nat.le_refl _)).more hb.size)
          have RQ := Lib.hid ((RQ.out.below hb (Nat.le_refl _)).more hb.size)
          clear hb hH
          have hH : BoxJ gs (.slice (some ⟨bT, offT, none⟩) S.nT p.c1) (.slice p.o2 S.nO p.c2) (.slice p.o3 S.nC p.c3) ⟨bP, offP, none⟩ (.int .i64 (x : Int)) ⟨bT, offT + x * 2 + 1, none⟩ (.int .i64 (-1)) _ := ⟨⟨PBc.out.cell 0, PBc.out.cell 1, PBc.out.cell 2⟩, CPc.out.2, CTc.out.2⟩
          try dsimp only
          refine hK.out _ _ hH ?_
          clear hK K
          try simp only [Act.put, List.setIfInBounds_toArray, List.set_cons_zero, List.set_cons_succ]
          refine HeadW.take (i := 36) (oi := ?oi44) (v := ?v44) ?hi44 (by kernel_rfl) ?hQ44 (Or.inl ⟨?hg44, ?hy44⟩) hH ?rest44
          case hi44 => simp only [List.getElem?_toArray, List.getElem?_cons_succ, List.getElem?_cons_zero]; rfl
          case hQ44 => exact fun _ _ _ h => h
          case hg44 => rfl
          case hy44 => intro W hSw; obtain ⟨⟨s0, s1, s2⟩, s3, s4⟩ := hSw; go_simp; try with_reducible rfl
          case rest44 =>
          try simp only [Act.put, List.setIfInBounds_toArray, List.set_cons_zero, List.set_cons_succ]
          refine HeadW.take (i := 37) (oi := ?oi45) (v := ?v45) ?hi45 (by kernel_rfl) ?hQ45 (Or.inl ⟨?hg45, ?hy45⟩) hH ?rest45
          case hi45 => simp only [List.getElem?_toArray, List.getElem?_cons_succ, List.getElem?_cons_zero]; rfl
          case hQ45 => exact fun _ _ _ h => h
          case hg45 => rfl
          case hy45 => intro W hSw; obtain ⟨⟨s0, s1, s2⟩, s3, s4⟩ := hSw; go_simp; try with_reducible rfl
          case rest45 =>
          try simp only [Act.put, List.setIfInBounds_toArray, List.set_cons_zero, List.set_cons_succ]
          refine HeadW.take (i := 38) (oi := ?oi46) (v := ?v46) ?hi46 (by kernel_rfl) ?hQ46 (Or.inl ⟨?hg46, ?hy46⟩) hH ?rest46
          case hi46 => simp only [List.getElem?_toArray, List.getElem?_cons_succ, List.getElem?_cons_zero]; rfl
          case hQ46 => exact fun _ _ _ h => h
          case hg46 => rfl
          case hy46 => intro W hSw; obtain ⟨⟨s0, s1, s2⟩, s3, s4⟩ := hSw; go_simp; try with_reducible rfl
          case rest46 =>
          try simp only [Act.put, List.setIfInBounds_toArray, List.set_cons_zero, List.set_cons_succ]
          refine HeadW.one (i := 39) (o := ?oi47) ?hi47 (by kernel_rfl) ?st47
          case hi47 => simp only [List.getElem?_toArray, List.getElem?_cons_succ, List.getElem?_cons_zero]; rfl
          case st47 =>
          intro K hK
          go_simp
          go_at_call 15
          refine (awake_any _).mono ?_
          rintro e w9 ⟨rfl, hb⟩
          have HSc := Lib.hid (HSc.out.later hb)
          have PBc := Lib.hid (PBc.out.later hb)
          have HBc := Lib.hid (bTr HBc.out hb)
          have CTc := Lib.hid (CTc.out.later hb)
          have CPc := Lib.hid (CPc.out.later hb)
          have RP := Lib.hid ((RP.out.below hb (Nat.le_refl _)).more hb.size)
          have RQ := Lib.hid ((RQ.out.below hb (Nat.le_refl _)).more hb.size)
          clear hb hH
          have hH : BoxJ gs (.slice (some ⟨bT, offT, none⟩) S.nT p.c1) (.slice p.o2 S.nO p.c2) (.slice p.o3 S.nC p.c3) ⟨bP, offP, none⟩ (.int .i64 (x : Int)) ⟨bT, offT + x * 2 + 1, none⟩ (.int .i64 (-1)) _ := ⟨⟨PBc.out.cell 0, PBc.out.cell 1, PBc.out.cell 2⟩, CPc.out.2, CTc.out.2⟩
          try dsimp only
          refine hK.out _ _ hH ?_
          clear hK K
          try simp only [Act.put, List.setIfInBounds_toArray, List.set_cons_zero, List.set_cons_succ]
          refine HeadW.take (i := 40) (oi := ?oi48) (v := ?v48) ?hi48 (by kernel_rfl) ?hQ48 (Or.inl ⟨?hg48, ?hy48⟩) hH ?rest48
          case hi48 => simp only [List.getElem?_toArray, List.getElem?_cons_succ, List.getElem?_cons_zero]; rfl
          case hQ48 => exact fun _ _ _ h => h
          case hg48 => rfl
          case hy48 => intro W hSw; obtain ⟨⟨s0, s1, s2⟩, s3, s4⟩ := hSw; go_simp; try with_reducible rfl
          case rest48 =>
          try simp only [Act.put, List.setIfInBounds_toArray, List.set_cons_zero, List.set_cons_succ]
          refine HeadW.done (by kernel_rfl) ?_
          go_wp2_with fail
          go_ret
          exact ⟨rfl, HBc.out⟩
      · have HCM := Lib.hid (M5.out k hk1 hk2 HT.out (.inr (.inl (by omega))))
        have hkq' : ¬ (k : Int) < (PB.length : Int) := by omega
        rw [← HCM.out]
        go_wp2_with fail
        go_region
        go_wp2_with fail
        have hb := bTr HW.out (bD1 (Below.refl _ _))
        have HSc := Lib.hid (HSc.out.later (bD1 hb))
        have PBc := Lib.hid (PBc.out.later (bD1 hb))
        have HBc := Lib.hid (bTr HBc.out (bD1 hb))
        have CTc := Lib.hid (CTc.out.later (bD1 hb))
        have CPc := Lib.hid (CPc.out.later (bD1 hb))
        have RP := Lib.hid ((RP.out.below (bD1 hb) (Nat.le_refl _)).more (bD1 hb).size)
        have RQ := Lib.hid ((RQ.out.below (bD1 hb) (Nat.le_refl _)).more (bD1 hb).size)
        clear hb HW
        have hH : BoxJ gs (.slice (some ⟨bT, offT, none⟩) S.nT p.c1) (.slice p.o2 S.nO p.c2) (.slice p.o3 S.nC p.c3) ⟨bP, offP, none⟩ (.int .i64 (x : Int)) ⟨bT, offT + x * 2 + 1, none⟩ (.int .i64 (-1)) _ := ⟨⟨PBc.out.cell 0, PBc.out.cell 1, PBc.out.cell 2⟩, CPc.out.2, CTc.out.2⟩
        have hcc : (CM == CM) = true := by simp
        have hxn : (x : Int) < (S.nT : Int) := by omega
        have hp0 : (0 : Int) < (PA.length : Int) := by omega
        refine wp_region_held_tail (BoxJ gs (.slice (some ⟨bT, offT, none⟩) S.nT p.c1) (.slice p.o2 S.nO p.c2) (.slice p.o3 S.nC p.c3) ⟨bP, offP, none⟩ (.int .i64 (x : Int)) ⟨bT, offT + x * 2 + 1, none⟩ (.int .i64 (-1))) 41 (by kernel_rfl) (by kernel_rfl) ?_
        simp only [List.drop_succ_cons, List.drop_zero]
        refine HeadW.take (i := 0) (oi := ?oi49) (v := ?v49) ?hi49 (by kernel_rfl) ?hQ49 (Or.inl ⟨?hg49, ?hy49⟩) hH ?rest49
        case hi49 => simp only [List.getElem?_toArray, List.getElem?_cons_succ, List.getElem?_cons_zero]; rfl
        case hQ49 => exact fun _ _ _ h => h
        case hg49 => rfl
        case hy49 => intro W hSw; obtain ⟨⟨s0, s1, s2⟩, s3, s4⟩ := hSw; go_simp; try with_reducible rfl
        case rest49 =>
        try simp only [Act.put, List.setIfInBounds_toArray, List.set_cons_zero, List.set_cons_succ]
        refine HeadW.take (i := 1) (oi := ?oi50) (v := ?v50) ?hi50 (by kernel_rfl) ?hQ50 (Or.inl ⟨?hg50, ?hy50⟩) hH ?rest50
        case hi50 => simp only [List.getElem?_toArray, List.getElem?_cons_succ, List.getElem?_cons_zero]; rfl
        case hQ50 => exact fun _ _ _ h => h
        case hg50 => rfl
        case hy50 => intro W hSw; obtain ⟨⟨s0, s1, s2⟩, s3, s4⟩ := hSw; go_simp; try with_reducible rfl
        case rest50 =>
        try simp only [Act.put, List.setIfInBounds_toArray, List.set_cons_zero, List.set_cons_succ]
        refine HeadW.take (i := 3) (oi := ?oi51) (v := ?v51) ?hi51 (by kernel_rfl) ?hQ51 (Or.inl ⟨?hg51, ?hy51⟩) hH ?rest51
        case hi51 => simp only [List.getElem?_toArray, List.getElem?_cons_succ, List.getElem?_cons_zero]; rfl
        case hQ51 => exact fun _ _ _ h => h
        case hg51 => rfl
        case hy51 => intro W hSw; obtain ⟨⟨s0, s1, s2⟩, s3, s4⟩ := hSw; go_simp; try with_reducible rfl
        case rest51 =>
        try simp only [Act.put, List.setIfInBounds_toArray, List.set_cons_zero, List.set_cons_succ]
        refine HeadW.take (i := 4) (oi := ?oi52) (v := ?v52) ?hi52 (by kernel_rfl) ?hQ52 (Or.inl ⟨?hg52, ?hy52⟩) hH ?rest52
        case hi52 => simp only [List.getElem?_toArray, List.getElem?_cons_succ, List.getElem?_cons_zero]; rfl
        case hQ52 => exact fun _ _ _ h => h
        case hg52 => rfl
        case hy52 => intro W hSw; obtain ⟨⟨s0, s1, s2⟩, s3, s4⟩ := hSw; go_simp; try with_reducible rfl
        case rest52 =>
        try simp only [Act.put, List.setIfInBounds_toArray, List.set_cons_zero, List.set_cons_succ]
        refine HeadW.take (i := 6) (oi := ?oi53) (v := ?v53) ?hi53 (by kernel_rfl) ?hQ53 (Or.inl ⟨?hg53, ?hy53⟩) hH ?rest53
        case hi53 => simp only [List.getElem?_toArray, List.getElem?_cons_succ, List.getElem?_cons_zero]; rfl
        case hQ53 => exact fun _ _ _ h => h
        case hg53 => rfl
        case hy53 => intro W hSw; obtain ⟨⟨s0, s1, s2⟩, s3, s4⟩ := hSw; go_simp; try with_reducible rfl
        case rest53 =>
        try simp only [Act.put, List.setIfInBounds_toArray, List.set_cons_zero, List.set_cons_succ]
        refine HeadW.one (i := 2) (o := ?oi54) ?hi54 (by kernel_rfl) ?st54
        case hi54 => simp only [List.getElem?_toArray, List.getElem?_cons_succ, List.getElem?_cons_zero]; rfl
        case st54 =>
        intro K hK
        go_simp
        go_at_call 33
        refine (has_nat _ _ _ _ _ _ RQ.out L2.out).mono ?_
        rintro e w' ⟨rfl, hw'⟩
        obtain rfl := hw'.symm
        try dsimp only
        refine hK.out _ _ hH ?_
        clear hK K
        try simp only [Act.put, List.setIfInBounds_toArray, List.set_cons_zero, List.set_cons_succ]
        refine HeadW.one (i := 5) (o := ?oi55) ?hi55 (by kernel_rfl) ?st55
        case hi55 => simp only [List.getElem?_toArray, List.getElem?_cons_succ, List.getElem?_cons_zero]; rfl
        case st55 =>
        intro K hK
        go_simp
        go_at_call 18
        refine (F3.out _ HSc.out).mono ?_
        rintro e w7 ⟨v7, rfl, hv7, hb⟩
        obtain ⟨oU, cU, rfl, _, _, hrow⟩ := hv7.row
        have RU := Lib.hid hrow
        clear hrow hv7
        have HSc := Lib.hid (HSc.out.later hb)
        have PBc := Lib.hid (PBc.out.later hb)
        have HBc := Lib.hid (bTr HBc.out hb)
        have CTc := Lib.hid (CTc.out.later hb)
        have CPc := Lib.hid (CPc.out.later hb)
        have RP := Lib.hid ((RP.out.below hb (Nat.le_refl _)).more hb.size)
        have RQ := Lib.hid ((RQ.out.below hb (Nat.le_refl _)).more hb.size)
        clear hb hH
        have hH : BoxJ gs (.slice (some ⟨bT, offT, none⟩) S.nT p.c1) (.slice p.o2 S.nO p.c2) (.slice p.o3 S.nC p.c3) ⟨bP, offP, none⟩ (.int .i64 (x : Int)) ⟨bT, offT + x * 2 + 1, none⟩ (.int .i64 (-1)) _ := ⟨⟨PBc.out.cell 0, PBc.out.cell 1, PBc.out.cell 2⟩, CPc.out.2, CTc.out.2⟩
        try dsimp only
        refine hK.out _ _ hH ?_
        clear hK K
        try simp only [Act.put, List.setIfInBounds_toArray, List.set_cons_zero, List.set_cons_succ]
        refine HeadW.one (i := 7) (o := ?oi56) ?hi56 (by kernel_rfl) ?st56
        case hi56 => simp only [List.getElem?_toArray, List.getElem?_cons_succ, List.getElem?_cons_zero]; rfl
        case st56 =>
        intro K hK
        go_simp
        go_at_call 33
        refine (has_nat _ _ _ _ _ _ RU.out L3.out).mono ?_
        rintro e w' ⟨rfl, hw'⟩
        obtain rfl := hw'.symm
        rw [M1.out]
        generalize decide (A ∈ PB) = dd
        have hdd : (dd == dd) = true := by simp
        clear RU
        try dsimp only
        refine hK.out _ _ hH ?_
        clear hK K
        try simp only [Act.put, List.setIfInBounds_toArray, List.set_cons_zero, List.set_cons_succ]
        refine HeadW.take (i := 8) (oi := ?oi57) (v := ?v57) ?hi57 (by kernel_rfl) ?hQ57 (Or.inl ⟨?hg57, ?hy57⟩) hH ?rest57
        case hi57 => simp only [List.getElem?_toArray, List.getElem?_cons_succ, List.getElem?_cons_zero]; rfl
        case hQ57 => exact fun _ _ _ h => h
        case hg57 => rfl
        case hy57 => intro W hSw; obtain ⟨⟨s0, s1, s2⟩, s3, s4⟩ := hSw; go_simp; try with_reducible rfl
        case rest57 =>
        try simp only [Act.put, List.setIfInBounds_toArray, List.set_cons_zero, List.set_cons_succ]
        refine HeadW.take (i := 9) (oi := ?oi58) (v := ?v58) ?hi58 (by kernel_rfl) ?hQ58 (Or.inl ⟨?hg58, ?hy58⟩) hH ?rest58
        case hi58 => simp only [List.getElem?_toArray, List.getElem?_cons_succ, List.getElem?_cons_zero]; rfl
        case hQ58 => exact fun _ _ _ h => h
        case hg58 => rfl
        case hy58 => intro W hSw; obtain ⟨⟨s0, s1, s2⟩, s3, s4⟩ := hSw; go_simp; try with_reducible rfl
        case rest58 =>
        try simp only [Act.put, List.setIfInBounds_toArray, List.set_cons_zero, List.set_cons_succ]
        refine HeadW.take (i := 10) (oi := ?oi59) (v := ?v59) ?hi59 (by kernel_rfl) ?hQ59 (Or.inl ⟨?hg59, ?hy59⟩) hH ?rest59
        case hi59 => simp only [List.getElem?_toArray, List.getElem?_cons_succ, List.getElem?_cons_zero]; rfl
        case hQ59 => exact fun _ _ _ h => h
        case hg59 => rfl
        case hy59 => intro W hSw; obtain ⟨⟨s0, s1, s2⟩, s3, s4⟩ := hSw; go_simp; try with_reducible rfl
        case rest59 =>
        try simp only [Act.put, List.setIfInBounds_toArray, List.set_cons_zero, List.set_cons_succ]
        refine HeadW.take (i := 11) (oi := ?oi60) (v := ?v60) ?hi60 (by kernel_rfl) ?hQ60 (Or.inl ⟨?hg60, ?hy60⟩) hH ?rest60
        case hi60 => simp only [List.getElem?_toArray, List.getElem?_cons_succ, List.getElem?_cons_zero]; rfl
        case hQ60 => exact fun _ _ _ h => h
        case hg60 => rfl
        case hy60 => intro W hSw; obtain ⟨⟨s0, s1, s2⟩, s3, s4⟩ := hSw; go_simp; try with_reducible rfl
        case rest60 =>
        try simp only [Act.put, List.setIfInBounds_toArray, List.set_cons_zero, List.set_cons_succ]
        refine HeadW.one (i := 12) (o := ?oi61) ?hi61 (by kernel_rfl) ?st61
        case hi61 => simp only [List.getElem?_toArray, List.getElem?_cons_succ, List.getElem?_cons_zero]; rfl
        case st61 =>
        intro K hK
        go_simp
        go_at_call 33
        refine (has_nat _ _ _ _ _ _ RP.out L1.out).mono ?_
        rintro e w' ⟨rfl, hw'⟩
        obtain rfl := hw'.symm
        rw [decide_eq_true M2.out]
        try dsimp only
        refine hK.out _ _ hH ?_
        clear hK K
        try simp only [Act.put, List.setIfInBounds_toArray, List.set_cons_zero, List.set_cons_succ]
        refine HeadW.take (i := 13) (oi := ?oi62) (v := ?v62) ?hi62 (by kernel_rfl) ?hQ62 (Or.inl ⟨?hg62, ?hy62⟩) hH ?rest62
        case hi62 => simp only [List.getElem?_toArray, List.getElem?_cons_succ, List.getElem?_cons_zero]; rfl
        case hQ62 => exact fun _ _ _ h => h
        case hg62 => rfl
        case hy62 => intro W hSw; obtain ⟨⟨s0, s1, s2⟩, s3, s4⟩ := hSw; go_simp; try with_reducible rfl
        case rest62 =>
        try simp only [Act.put, List.setIfInBounds_toArray, List.set_cons_zero, List.set_cons_succ]
        refine HeadW.take (i := 14) (oi := ?oi63) (v := ?v63) ?hi63 (by kernel_rfl) ?hQ63 (Or.inl ⟨?hg63, ?hy63⟩) hH ?rest63
        case hi63 => simp only [List.getElem?_toArray, List.getElem?_cons_succ, List.getElem?_cons_zero]; rfl
        case hQ63 => exact fun _ _ _ h => h
        case hg63 => rfl
        case hy63 => intro W hSw; obtain ⟨⟨s0, s1, s2⟩, s3, s4⟩ := hSw; go_simp; try with_reducible rfl
        case rest63 =>
        try simp only [Act.put, List.setIfInBounds_toArray, List.set_cons_zero, List.set_cons_succ]
        refine HeadW.take (i := 15) (oi := ?oi64) (v := ?v64) ?hi64 (by kernel_rfl) ?hQ64 (Or.inl ⟨?hg64, ?hy64⟩) hH ?rest64
        case hi64 => simp only [List.getElem?_toArray, List.getElem?_cons_succ, List.getElem?_cons_zero]; rfl
        case hQ64 => exact fun _ _ _ h => h
        case hg64 => rfl
        case hy64 => intro W hSw; obtain ⟨⟨s0, s1, s2⟩, s3, s4⟩ := hSw; go_simp; try with_reducible rfl
        case rest64 =>
        try simp only [Act.put, List.setIfInBounds_toArray, List.set_cons_zero, List.set_cons_succ]
        refine HeadW.one (i := 16) (o := ?oi65) ?hi65 (by kernel_rfl) ?st65
        case hi65 => simp only [List.getElem?_toArray, List.getElem?_cons_succ, List.getElem?_cons_zero]; rfl
        case st65 =>
        intro K hK
        go_simp

        try dsimp only
        refine hK.out _ _ hH ?_
        clear hK K
        try simp only [Act.put, List.setIfInBounds_toArray, List.set_cons_zero, List.set_cons_succ]
        refine HeadW.take (i := 17) (oi := ?oi66) (v := ?v66) ?hi66 (by kernel_rfl) ?hQ66 (Or.inl ⟨?hg66, ?hy66⟩) hH ?rest66
        case hi66 => simp only [List.getElem?_toArray, List.getElem?_cons_succ, List.getElem?_cons_zero]; rfl
        case hQ66 => exact fun _ _ _ h => h
        case hg66 => rfl
        case hy66 => intro W hSw; obtain ⟨⟨s0, s1, s2⟩, s3, s4⟩ := hSw; go_simp; try with_reducible rfl
        case rest66 =>
        try simp only [Act.put, List.setIfInBounds_toArray, List.set_cons_zero, List.set_cons_succ]
        refine HeadW.take (i := 18) (oi := ?oi67) (v := ?v67) ?hi67 (by kernel_rfl) ?hQ67 (Or.inl ⟨?hg67, ?hy67⟩) hH ?rest67
        case hi67 => simp only [List.getElem?_toArray, List.getElem?_cons_succ, List.getElem?_cons_zero]; rfl
        case hQ67 => exact fun _ _ _ h => h
        case hg67 => rfl
        case hy67 => intro W hSw; obtain ⟨⟨s0, s1, s2⟩, s3, s4⟩ := hSw; go_simp; try with_reducible rfl
        case rest67 =>
        try simp only [Act.put, List.setIfInBounds_toArray, List.set_cons_zero, List.set_cons_succ]
        refine HeadW.take (i := 19) (oi := ?oi68) (v := ?v68) ?hi68 (by kernel_rfl) ?hQ68 (Or.inl ⟨?hg68, ?hy68⟩) hH ?rest68
        case hi68 => simp only [List.getElem?_toArray, List.getElem?_cons_succ, List.getElem?_cons_zero]; rfl
        case hQ68 => exact fun _ _ _ h => h
        case hg68 => rfl
        case hy68 => intro W hSw; obtain ⟨⟨s0, s1, s2⟩, s3, s4⟩ := hSw; go_simp; try with_reducible rfl
        case rest68 =>
        try simp only [Act.put, List.setIfInBounds_toArray, List.set_cons_zero, List.set_cons_succ]
        refine HeadW.take (i := 20) (oi := ?oi69) (v := ?v69) ?hi69 (by kernel_rfl) ?hQ69 (Or.inl ⟨?hg69, ?hy69⟩) hH ?rest69
        case hi69 => simp only [List.getElem?_toArray, List.getElem?_cons_succ, List.getElem?_cons_zero]; rfl
        case hQ69 => exact fun _ _ _ h => h
        case hg69 => rfl
        case hy69 => intro W hSw; obtain ⟨⟨s0, s1, s2⟩, s3, s4⟩ := hSw; go_simp; try with_reducible rfl
        case rest69 =>
        try simp only [Act.put, List.setIfInBounds_toArray, List.set_cons_zero, List.set_cons_succ]
        refine HeadW.take (i := 21) (oi := ?oi70) (v := ?v70) ?hi70 (by kernel_rfl) ?hQ70 (Or.inl ⟨?hg70, ?hy70⟩) hH ?rest70
        case hi70 => simp only [List.getElem?_toArray, List.getElem?_cons_succ, List.getElem?_cons_zero]; rfl
        case hQ70 => exact fun _ _ _ h => h
        case hg70 => rfl
        case hy70 => intro W hSw; obtain ⟨⟨s0, s1, s2⟩, s3, s4⟩ := hSw; go_simp; try with_reducible rfl
        case rest70 =>
        try simp only [Act.put, List.setIfInBounds_toArray, List.set_cons_zero, List.set_cons_succ]
        refine HeadW.take (i := 22) (oi := ?oi71) (v := ?v71) ?hi71 (by kernel_rfl) ?hQ71 (Or.inl ⟨?hg71, ?hy71⟩) hH ?rest71
        case hi71 => simp only [List.getElem?_toArray, List.getElem?_cons_succ, List.getElem?_cons_zero]; rfl
        case hQ71 => exact fun _ _ _ h => h
        case hg71 => rfl
        case hy71 => intro W hSw; obtain ⟨⟨s0, s1, s2⟩, s3, s4⟩ := hSw; go_simp; try with_reducible rfl
        case rest71 =>
        try simp only [Act.put, List.setIfInBounds_toArray, List.set_cons_zero, List.set_cons_succ]
        refine HeadW.take (i := 23) (oi := ?oi72) (v := ?v72) ?hi72 (by kernel_rfl) ?hQ72 (Or.inl ⟨?hg72, ?hy72⟩) hH ?rest72
        case hi72 => simp only [List.getElem?_toArray, List.getElem?_cons_succ, List.getElem?_cons_zero]; rfl
        case hQ72 => exact fun _ _ _ h => h
        case hg72 => rfl
        case hy72 => intro W hSw; obtain ⟨⟨s0, s1, s2⟩, s3, s4⟩ := hSw; go_simp; try with_reducible rfl
        case rest72 =>
        try simp only [Act.put, List.setIfInBounds_toArray, List.set_cons_zero, List.set_cons_succ]
        refine HeadW.take (i := 24) (oi := ?oi73) (v := ?v73) ?hi73 (by kernel_rfl) ?hQ73 (Or.inl ⟨?hg73, ?hy73⟩) hH ?rest73
        case hi73 => simp only [List.getElem?_toArray, List.getElem?_cons_succ, List.getElem?_cons_zero]; rfl
        case hQ73 => exact fun _ _ _ h => h
        case hg73 => rfl
        case hy73 => intro W hSw; obtain ⟨⟨s0, s1, s2⟩, s3, s4⟩ := hSw; go_simp; try with_reducible rfl
        case rest73 =>
        try simp only [Act.put, List.setIfInBounds_toArray, List.set_cons_zero, List.set_cons_succ]
        refine HeadW.take (i := 25) (oi := ?oi74) (v := ?v74) ?hi74 (by kernel_rfl) ?hQ74 (Or.inl ⟨?hg74, ?hy74⟩) hH ?rest74
        case hi74 => simp only [List.getElem?_toArray, List.getElem?_cons_succ, List.getElem?_cons_zero]; rfl
        case hQ74 => exact fun _ _ _ h => h
        case hg74 => rfl
        case hy74 => intro W hSw; obtain ⟨⟨s0, s1, s2⟩, s3, s4⟩ := hSw; go_simp; try with_reducible rfl
        case rest74 =>
        try simp only [Act.put, List.setIfInBounds_toArray, List.set_cons_zero, List.set_cons_succ]
        refine HeadW.take (i := 26) (oi := ?oi75) (v := ?v75) ?hi75 (by kernel_rfl) ?hQ75 (Or.inl ⟨?hg75, ?hy75⟩) hH ?rest75
        case hi75 => simp only [List.getElem?_toArray, List.getElem?_cons_succ, List.getElem?_cons_zero]; rfl
        case hQ75 => exact fun _ _ _ h => h
        case hg75 => rfl
        case hy75 => intro W hSw; obtain ⟨⟨s0, s1, s2⟩, s3, s4⟩ := hSw; go_simp; try with_reducible rfl
        case rest75 =>
        try simp only [Act.put, List.setIfInBounds_toArray, List.set_cons_zero, List.set_cons_succ]
        refine HeadW.take (i := 27) (oi := ?oi76) (v := ?v76) ?hi76 (by kernel_rfl) ?hQ76 (Or.inl ⟨?hg76, ?hy76⟩) hH ?rest76
        case hi76 => simp only [List.getElem?_toArray, List.getElem?_cons_succ, List.getElem?_cons_zero]; rfl
        case hQ76 => exact fun _ _ _ h => h
        case hg76 => rfl
        case hy76 => intro W hSw; obtain ⟨⟨s0, s1, s2⟩, s3, s4⟩ := hSw; go_simp; try with_reducible rfl
        case rest76 =>
        try simp only [Act.put, List.setIfInBounds_toArray, List.set_cons_zero, List.set_cons_succ]
        refine HeadW.take (i := 28) (oi := ?oi77) (v := ?v77) ?hi77 (by kernel_rfl) ?hQ77 (Or.inl ⟨?hg77, ?hy77⟩) hH ?rest77
        case hi77 => simp only [List.getElem?_toArray, List.getElem?_cons_succ, List.getElem?_cons_zero]; rfl
        case hQ77 => exact fun _ _ _ h => h
        case hg77 => rfl
        case hy77 => intro W hSw; obtain ⟨⟨s0, s1, s2⟩, s3, s4⟩ := hSw; go_simp; try with_reducible rfl
        case rest77 =>
        try simp only [Act.put, List.setIfInBounds_toArray, List.set_cons_zero, List.set_cons_succ]
        refine HeadW.take (i := 29) (oi := ?oi78) (v := ?v78) ?hi78 (by kernel_rfl) ?hQ78 (Or.inl ⟨?hg78, ?hy78⟩) hH ?rest78
        case hi78 => simp only [List.getElem?_toArray, List.getElem?_cons_succ, List.getElem?_cons_zero]; rfl
        case hQ78 => exact fun _ _ _ h => h
        case hg78 => rfl
        case hy78 => intro W hSw; obtain ⟨⟨s0, s1, s2⟩, s3, s4⟩ := hSw; go_simp; try with_reducible rfl
        case rest78 =>
        try simp only [Act.put, List.setIfInBounds_toArray, List.set_cons_zero, List.set_cons_succ]
        refine HeadW.take (i := 30) (oi := ?oi79) (v := ?v79) ?hi79 (by kernel_rfl) ?hQ79 (Or.inl ⟨?hg79, ?hy79⟩) hH ?rest79
        case hi79 => simp only [List.getElem?_toArray, List.getElem?_cons_succ, List.getElem?_cons_zero]; rfl
        case hQ79 => exact fun _ _ _ h => h
        case hg79 => rfl
        case hy79 => intro W hSw; obtain ⟨⟨s0, s1, s2⟩, s3, s4⟩ := hSw; go_simp; try with_reducible rfl
        case rest79 =>
        try simp only [Act.put, List.setIfInBounds_toArray, List.set_cons_zero, List.set_cons_succ]
        refine HeadW.take (i := 31) (oi := ?oi80) (v := ?v80) ?hi80 (by kernel_rfl) ?hQ80 (Or.inl ⟨?hg80, ?hy80⟩) hH ?rest80
        case hi80 => simp only [List.getElem?_toArray, List.getElem?_cons_succ, List.getElem?_cons_zero]; rfl
        case hQ80 => exact fun _ _ _ h => h
        case hg80 => rfl
        case hy80 => intro W hSw; obtain ⟨⟨s0, s1, s2⟩, s3, s4⟩ := hSw; go_simp; try with_reducible rfl
        case rest80 =>
        try simp only [Act.put, List.setIfInBounds_toArray, List.set_cons_zero, List.set_cons_succ]
        refine HeadW.take (i := 32) (oi := ?oi81) (v := ?v81) ?hi81 (by kernel_rfl) ?hQ81 (Or.inl ⟨?hg81, ?hy81⟩) hH ?rest81
        case hi81 => simp only [List.getElem?_toArray, List.getElem?_cons_succ, List.getElem?_cons_zero]; rfl
        case hQ81 => exact fun _ _ _ h => h
        case hg81 => rfl
        case hy81 => intro W hSw; obtain ⟨⟨s0, s1, s2⟩, s3, s4⟩ := hSw; go_simp; try with_reducible rfl
        case rest81 =>
        try simp only [Act.put, List.setIfInBounds_toArray, List.set_cons_zero, List.set_cons_succ]
        refine HeadW.take (i := 33) (oi := ?oi82) (v := ?v82) ?hi82 (by kernel_rfl) ?hQ82 (Or.inl ⟨?hg82, ?hy82⟩) hH ?rest82
        case hi82 => simp only [List.getElem?_toArray, List.getElem?_cons_succ, List.getElem?_cons_zero]; rfl
        case hQ82 => exact fun _ _ _ h => h
        case hg82 => rfl
        case hy82 => intro W hSw; obtain ⟨⟨s0, s1, s2⟩, s3, s4⟩ := hSw; go_simp; try with_reducible rfl
        case rest82 =>
        try simp only [Act.put, List.setIfInBounds_toArray, List.set_cons_zero, List.set_cons_succ]
        refine HeadW.take (i := 35) (oi := ?oi83) (v := ?v83) ?hi83 (by kernel_rfl) ?hQ83 (Or.inl ⟨?hg83, ?hy83⟩) hH ?rest83
        case hi83 => simp only [List.getElem?_toArray, List.getElem?_cons_succ, List.getElem?_cons_zero]; rfl
        case hQ83 => exact fun _ _ _ h => h
        case hg83 => rfl
        case hy83 => intro W hSw; obtain ⟨⟨s0, s1, s2⟩, s3, s4⟩ := hSw; go_simp; try with_reducible rfl
        case rest83 =>
        try simp only [Act.put, List.setIfInBounds_toArray, List.set_cons_zero, List.set_cons_succ]
        refine HeadW.one (i := 34) (o := ?oi84) ?hi84 (by kernel_rfl) ?st84
        case hi84 => simp only [List.getElem?_toArray, List.getElem?_cons_succ, List.getElem?_cons_zero]; rfl
        case st84 =>
        intro K hK
        go_simp
        go_at_call 22
        refine (F4.out _ HSc.out).mono ?_
        rintro e w8 ⟨rfl, hb⟩
        have HSc := Lib.hid (HSc.out.later hb)
        have PBc := Lib.hid (PBc.out.later hb)
        have HBc := Lib.hid (bTr HBc.out hb)
        have CTc := Lib.hid (CTc.out.later hb)
        have CPc := Lib.hid (CPc.out.later hb)
        have RP := Lib.hid ((RP.out.below hb (Nat.le_refl _)).more hb.size)
        have RQ := Lib.hid ((RQ.out.below hb (Nat.le_refl _)).more hb.size)
        clear hb hH
        have hH : BoxJ gs (.slice (some ⟨bT, offT, none⟩) S.nT p.c1) (.slice p.o2 S.nO p.c2) (.slice p.o3 S.nC p.c3) ⟨bP, offP, none⟩ (.int .i64 (x : Int)) ⟨bT, offT + x * 2 + 1, none⟩ (.int .i64 (-1)) _ := ⟨⟨PBc.out.cell 0, PBc.out.cell 1, PBc.out.cell 2⟩, CPc.out.2, CTc.out.2⟩
        try dsimp only
        refine hK.out _ _ hH ?_
        clear hK K
        try simp only [Act.put, List.setIfInBounds_toArray, List.set_cons_zero, List.set_cons_succ]
        refine HeadW.take (i := 36) (oi := ?oi85) (v := ?v85) ?hi85 (by kernel_rfl) ?hQ85 (Or.inl ⟨?hg85, ?hy85⟩) hH ?rest85
        case hi85 => simp only [List.getElem?_toArray, List.getElem?_cons_succ, List.getElem?_cons_zero]; rfl
        case hQ85 => exact fun _ _ _ h => h
        case hg85 => rfl
        case hy85 => intro W hSw; obtain ⟨⟨s0, s1, s2⟩, s3, s4⟩ := hSw; go_simp; try with_reducible rfl
        case rest85 =>
        try simp only [Act.put, List.setIfInBounds_toArray, List.set_cons_zero, List.set_cons_succ]
        refine HeadW.take (i := 37) (oi := ?oi86) (v := ?v86) ?hi86 (by kernel_rfl) ?hQ86 (Or.inl ⟨?hg86, ?hy86⟩) hH ?rest86
        case hi86 => simp only [List.getElem?_toArray, List.getElem?_cons_succ, List.getElem?_cons_zero]; rfl
        case hQ86 => exact fun _ _ _ h => h
        case hg86 => rfl
        case hy86 => intro W hSw; obtain ⟨⟨s0, s1, s2⟩, s3, s4⟩ := hSw; go_simp; try with_reducible rfl
        case rest86 =>
        try simp only [Act.put, List.setIfInBounds_toArray, List.set_cons_zero, List.set_cons_succ]
        refine HeadW.take (i := 38) (oi := ?oi87) (v := ?v87) ?hi87 (by kernel_rfl) ?hQ87 (Or.inl ⟨?hg87, ?hy87⟩) hH ?rest87
        case hi87 => simp only [List.getElem?_toArray, List.getElem?_cons_succ, List.getElem?_cons_zero]; rfl
        case hQ87 => exact fun _ _ _ h => h
        case hg87 => rfl
        case hy87 => intro W hSw; obtain ⟨⟨s0, s1, s2⟩, s3, s4⟩ := hSw; go_simp; try with_reducible rfl
        case rest87 =>
        try simp only [Act.put, List.setIfInBounds_toArray, List.set_cons_zero, List.set_cons_succ]
        refine HeadW.one (i := 39) (o := ?oi88) ?hi88 (by kernel_rfl) ?st88
        case hi88 => simp only [List.getElem?_toArray, List.getElem?_cons_succ, List.getElem?_cons_zero]; rfl
        case st88 =>
        intro K hK
        go_simp
        go_at_call 15
        refine (awake_any _).mono ?_
        rintro e w9 ⟨rfl, hb⟩
        have HSc := Lib.hid (HSc.out.later hb)
        have PBc := Lib.hid (PBc.out.later hb)
        have HBc := Lib.hid (bTr HBc.out hb)
        have CTc := Lib.hid (CTc.out.later hb)
        have CPc := Lib.hid (CPc.out.later hb)
        have RP := Lib.hid ((RP.out.below hb (Nat.le_refl _)).more hb.size)
        have RQ := Lib.hid ((RQ.out.below hb (Nat.le_refl _)).more hb.size)
        clear hb hH
        have hH : BoxJ gs (.slice (some ⟨bT, offT, none⟩) S.nT p.c1) (.slice p.o2 S.nO p.c2) (.slice p.o3 S.nC p.c3) ⟨bP, offP, none⟩ (.int .i64 (x : Int)) ⟨bT, offT + x * 2 + 1, none⟩ (.int .i64 (-1)) _ := ⟨⟨PBc.out.cell 0, PBc.out.cell 1, PBc.out.cell 2⟩, CPc.out.2, CTc.out.2⟩
        try dsimp only
        refine hK.out _ _ hH ?_
        clear hK K
        try simp only [Act.put, List.setIfInBounds_toArray, List.set_cons_zero, List.set_cons_succ]
        refine HeadW.take (i := 40) (oi := ?oi89) (v := ?v89) ?hi89 (by kernel_rfl) ?hQ89 (Or.inl ⟨?hg89, ?hy89⟩) hH ?rest89
        case hi89 => simp only [List.getElem?_toArray, List.getElem?_cons_succ, List.getElem?_cons_zero]; rfl
        case hQ89 => exact fun _ _ _ h => h
        case hg89 => rfl
        case hy89 => intro W hSw; obtain ⟨⟨s0, s1, s2⟩, s3, s4⟩ := hSw; go_simp; try with_reducible rfl
        case rest89 =>
        try simp only [Act.put, List.setIfInBounds_toArray, List.set_cons_zero, List.set_cons_succ]
        refine HeadW.done (by kernel_rfl) ?_
        go_wp2_with fail
        go_ret
        exact ⟨rfl, HBc.out⟩
    · have HCM := Lib.hid (M5.out k hk1 hk2 HT.out (.inl (by omega)))
      have hkp' : ¬ (k : Int) < (PA.length : Int) := by omega
      rw [← HCM.out]
      go_wp2_with fail
      go_region
      go_wp2_with fail
      have hb := bTr HW.out (bD1 (Below.refl _ _))
      have HSc := Lib.hid (HSc.out.later (bD1 hb))
      have PBc := Lib.hid (PBc.out.later (bD1 hb))
      have HBc := Lib.hid (bTr HBc.out (bD1 hb))
      have CTc := Lib.hid (CTc.out.later (bD1 hb))
      have CPc := Lib.hid (CPc.out.later (bD1 hb))
      have RP := Lib.hid ((RP.out.below (bD1 hb) (Nat.le_refl _)).more (bD1 hb).size)
      have RQ := Lib.hid ((RQ.out.below (bD1 hb) (Nat.le_refl _)).more (bD1 hb).size)
      clear hb HW
      have hH : BoxJ gs (.slice (some ⟨bT, offT, none⟩) S.nT p.c1) (.slice p.o2 S.nO p.c2) (.slice p.o3 S.nC p.c3) ⟨bP, offP, none⟩ (.int .i64 (x : Int)) ⟨bT, offT + x * 2 + 1, none⟩ (.int .i64 (-1)) _ := ⟨⟨PBc.out.cell 0, PBc.out.cell 1, PBc.out.cell 2⟩, CPc.out.2, CTc.out.2⟩
      have hcc : (CM == CM) = true := by simp
      have hxn : (x : Int) < (S.nT : Int) := by omega
      have hp0 : (0 : Int) < (PA.length : Int) := by omega
      refine wp_region_held_tail (BoxJ gs (.slice (some ⟨bT, offT, none⟩) S.nT p.c1) (.slice p.o2 S.nO p.c2) (.slice p.o3 S.nC p.c3) ⟨bP, offP, none⟩ (.int .i64 (x : Int)) ⟨bT, offT + x * 2 + 1, none⟩ (.int .i64 (-1))) 41 (by kernel_rfl) (by kernel_rfl) ?_
      simp only [List.drop_succ_cons, List.drop_zero]
      refine HeadW.take (i := 0) (oi := ?oi90) (v := ?v90) ?hi90 (by kernel_rfl) ?hQ90 (Or.inl ⟨?hg90, ?hy90⟩) hH ?rest90
      case hi90 => simp only [List.getElem?_toArray, List.getElem?_cons_succ, List.getElem?_cons_zero]; rfl
      case hQ90 => exact fun _ _ _ h => h
      case hg90 => rfl
      case hy90 => intro W hSw; obtain ⟨⟨s0, s1, s2⟩, s3, s4⟩ := hSw; go_simp; try with_reducible rfl
      case rest90 =>
      try simp only [Act.put, List.setIfInBounds_toArray, List.set_cons_zero, List.set_cons_succ]
      refine HeadW.take (i := 1) (oi := ?oi91) (v := ?v91) ?hi91 (by kernel_rfl) ?hQ91 (Or.inl ⟨?hg91, ?hy91⟩) hH ?rest91
      case hi91 => simp only [List.getElem?_toArray, List.getElem?_cons_succ, List.getElem?_cons_zero]; rfl
      case hQ91 => exact fun _ _ _ h => h
      case hg91 => rfl
      case hy91 => intro W hSw; obtain ⟨⟨s0, s1, s2⟩, s3, s4⟩ := hSw; go_simp; try with_reducible rfl
      case rest91 =>
      try simp only [Act.put, List.setIfInBounds_toArray, List.set_cons_zero, List.set_cons_succ]
      refine HeadW.take (i := 3) (oi := ?oi92) (v := ?v92) ?hi92 (by kernel_rfl) ?hQ92 (Or.inl ⟨?hg92, ?hy92⟩) hH ?rest92
      case hi92 => simp only [List.getElem?_toArray, List.getElem?_cons_succ, List.getElem?_cons_zero]; rfl
      case hQ92 => exact fun _ _ _ h => h
      case hg92 => rfl
      case hy92 => intro W hSw; obtain ⟨⟨s0, s1, s2⟩, s3, s4⟩ := hSw; go_simp; try with_reducible rfl
      case rest92 =>
      try simp only [Act.put, List.setIfInBounds_toArray, List.set_cons_zero, List.set_cons_succ]
      refine HeadW.take (i := 4) (oi := ?oi93) (v := ?v93) ?hi93 (by kernel_rfl) ?hQ93 (Or.inl ⟨?hg93, ?hy93⟩) hH ?rest93
      case hi93 => simp only [List.getElem?_toArray, List.getElem?_cons_succ, List.getElem?_cons_zero]; rfl
      case hQ93 => exact fun _ _ _ h => h
      case hg93 => rfl
      case hy93 => intro W hSw; obtain ⟨⟨s0, s1, s2⟩, s3, s4⟩ := hSw; go_simp; try with_reducible rfl
      case rest93 =>
      try simp only [Act.put, List.setIfInBounds_toArray, List.set_cons_zero, List.set_cons_succ]
      refine HeadW.take (i := 6) (oi := ?oi94) (v := ?v94) ?hi94 (by kernel_rfl) ?hQ94 (Or.inl ⟨?hg94, ?hy94⟩) hH ?rest94
      case hi94 => simp only [List.getElem?_toArray, List.getElem?_cons_succ, List.getElem?_cons_zero]; rfl
      case hQ94 => exact fun _ _ _ h => h
      case hg94 => rfl
      case hy94 => intro W hSw; obtain ⟨⟨s0, s1, s2⟩, s3, s4⟩ := hSw; go_simp; try with_reducible rfl
      case rest94 =>
      try simp only [Act.put, List.setIfInBounds_toArray, List.set_cons_zero, List.set_cons_succ]
      refine HeadW.one (i := 2) (o := ?oi95) ?hi95 (by kernel_rfl) ?st95
      case hi95 => simp only [List.getElem?_toArray, List.getElem?_cons_succ, List.getElem?_cons_zero]; rfl
      case st95 =>
      intro K hK
      go_simp
      go_at_call 33
      refine (has_nat _ _ _ _ _ _ RQ.out L2.out).mono ?_
      rintro e w' ⟨rfl, hw'⟩
      obtain rfl := hw'.symm
      try dsimp only
      refine hK.out _ _ hH ?_
      clear hK K
      try simp only [Act.put, List.setIfInBounds_toArray, List.set_cons_zero, List.set_cons_succ]
      refine HeadW.one (i := 5) (o := ?oi96) ?hi96 (by kernel_rfl) ?st96
      case hi96 => simp only [List.getElem?_toArray, List.getElem?_cons_succ, List.getElem?_cons_zero]; rfl
      case st96 =>
      intro K hK
      go_simp
      go_at_call 18
      refine (F3.out _ HSc.out).mono ?_
      rintro e w7 ⟨v7, rfl, hv7, hb⟩
      obtain ⟨oU, cU, rfl, _, _, hrow⟩ := hv7.row
      have RU := Lib.hid hrow
      clear hrow hv7
      have HSc := Lib.hid (HSc.out.later hb)
      have PBc := Lib.hid (PBc.out.later hb)
      have HBc := Lib.hid (bTr HBc.out hb)
      have CTc := Lib.hid (CTc.out.later hb)
      have CPc := Lib.hid (CPc.out.later hb)
      have RP := Lib.hid ((RP.out.below hb (Nat.le_refl _)).more hb.size)
      have RQ := Lib.hid ((RQ.out.below hb (Nat.le_refl _)).more hb.size)
      clear hb hH
      have hH : BoxJ gs (.slice (some ⟨bT, offT, none⟩) S.nT p.c1) (.slice p.o2 S.nO p.c2) (.slice p.o3 S.nC p.c3) ⟨bP, offP, none⟩ (.int .i64 (x : Int)) ⟨bT, offT + x * 2 + 1, none⟩ (.int .i64 (-1)) _ := ⟨⟨PBc.out.cell 0, PBc.out.cell 1, PBc.out.cell 2⟩, CPc.out.2, CTc.out.2⟩
      try dsimp only
      refine hK.out _ _ hH ?_
      clear hK K
      try simp only [Act.put, List.setIfInBounds_toArray, List.set_cons_zero, List.set_cons_succ]
      refine HeadW.one (i := 7) (o := ?oi97) ?hi97 (by kernel_rfl) ?st97
      case hi97 => simp only [List.getElem?_toArray, List.getElem?_cons_succ, List.getElem?_cons_zero]; rfl
      case st97 =>
      intro K hK
      go_simp
      go_at_call 33
      refine (has_nat _ _ _ _ _ _ RU.out L3.out).mono ?_
      rintro e w' ⟨rfl, hw'⟩
      obtain rfl := hw'.symm
      rw [M1.out]
      generalize decide (A ∈ PB) = dd
      have hdd : (dd == dd) = true := by simp
      clear RU
      try dsimp only
      refine hK.out _ _ hH ?_
      clear hK K
      try simp only [Act.put, List.setIfInBounds_toArray, List.set_cons_zero, List.set_cons_succ]
      refine HeadW.take (i := 8) (oi := ?oi98) (v := ?v98) ?hi98 (by kernel_rfl) ?hQ98 (Or.inl ⟨?hg98, ?hy98⟩) hH ?rest98
      case hi98 => simp only [List.getElem?_toArray, List.getElem?_cons_succ, List.getElem?_cons_zero]; rfl
      case hQ98 => exact fun _ _ _ h => h
      case hg98 => rfl
      case hy98 => intro W hSw; obtain ⟨⟨s0, s1, s2⟩, s3, s4⟩ := hSw; go_simp; try with_reducible rfl
      case rest98 =>
      try simp only [Act.put, List.setIfInBounds_toArray, List.set_cons_zero, List.set_cons_succ]
      refine HeadW.take (i := 9) (oi := ?oi99) (v := ?v99) ?hi99 (by kernel_rfl) ?hQ99 (Or.inl ⟨?hg99, ?hy99⟩) hH ?rest99
      case hi99 => simp only [List.getElem?_toArray, List.getElem?_cons_succ, List.getElem?_cons_zero]; rfl
      case hQ99 => exact fun _ _ _ h => h
      case hg99 => rfl
      case hy99 => intro W hSw; obtain ⟨⟨s0, s1, s2⟩, s3, s4⟩ := hSw; go_simp; try with_reducible rfl
      case rest99 =>
      try simp only [Act.put, List.setIfInBounds_toArray, List.set_cons_zero, List.set_cons_succ]
      refine HeadW.take (i := 10) (oi := ?oi100) (v := ?v100) ?hi100 (by kernel_rfl) ?hQ100 (Or.inl ⟨?hg100, ?hy100⟩) hH ?rest100
      case hi100 => simp only [List.getElem?_toArray, List.getElem?_cons_succ, List.getElem?_cons_zero]; rfl
      case hQ100 => exact fun _ _ _ h => h
      case hg100 => rfl
      case hy100 => intro W hSw; obtain ⟨⟨s0, s1, s2⟩, s3, s4⟩ := hSw; go_simp; try with_reducible rfl
      case rest100 =>
      try simp only [Act.put, List.setIfInBounds_toArray, List.set_cons_zero, List.set_cons_succ]
      refine HeadW.take (i := 11) (oi := ?oi101) (v := ?v101) ?hi101 (by kernel_rfl) ?hQ101 (Or.inl ⟨?hg101, ?hy101⟩) hH ?rest101
      case hi101 => simp only [List.getElem?_toArray, List.getElem?_cons_succ, List.getElem?_cons_zero]; rfl
      case hQ101 => exact fun _ _ _ h => h
      case hg101 => rfl
      case hy101 => intro W hSw; obtain ⟨⟨s0, s1, s2⟩, s3, s4⟩ := hSw; go_simp; try with_reducible rfl
      case rest101 =>
      try simp only [Act.put, List.setIfInBounds_toArray, List.set_cons_zero, List.set_cons_succ]
      refine HeadW.one (i := 12) (o := ?oi102) ?hi102 (by kernel_rfl) ?st102
      case hi102 => simp only [List.getElem?_toArray, List.getElem?_cons_succ, List.getElem?_cons_zero]; rfl
      case st102 =>
      intro K hK
      go_simp
      go_at_call 33
      refine (has_nat _ _ _ _ _ _ RP.out L1.out).mono ?_
      rintro e w' ⟨rfl, hw'⟩
      obtain rfl := hw'.symm
      rw [decide_eq_true M2.out]
      try dsimp only
      refine hK.out _ _ hH ?_
      clear hK K
      try simp only [Act.put, List.setIfInBounds_toArray, List.set_cons_zero, List.set_cons_succ]
      refine HeadW.take (i := 13) (oi := ?oi103) (v := ?v103) ?hi103 (by kernel_rfl) ?hQ103 (Or.inl ⟨?hg103, ?hy103⟩) hH ?rest103
      case hi103 => simp only [List.getElem?_toArray, List.getElem?_cons_succ, List.getElem?_cons_zero]; rfl
      case hQ103 => exact fun _ _ _ h => h
      case hg103 => rfl
      case hy103 => intro W hSw; obtain ⟨⟨s0, s1, s2⟩, s3, s4⟩ := hSw; go_simp; try with_reducible rfl
      case rest103 =>
      try simp only [Act.put, List.setIfInBounds_toArray, List.set_cons_zero, List.set_cons_succ]
      refine HeadW.take (i := 14) (oi := ?oi104) (v := ?v104) ?hi104 (by kernel_rfl) ?hQ104 (Or.inl ⟨?hg104, ?hy104⟩) hH ?rest104
      case hi104 => simp only [List.getElem?_toArray, List.getElem?_cons_succ, List.getElem?_cons_zero]; rfl
      case hQ104 => exact fun _ _ _ h => h
      case hg104 => rfl
      case hy104 => intro W hSw; obtain ⟨⟨s0, s1, s2⟩, s3, s4⟩ := hSw; go_simp; try with_reducible rfl
      case rest104 =>
      try simp only [Act.put, List.setIfInBounds_toArray, List.set_cons_zero, List.set_cons_succ]
      refine HeadW.take (i := 15) (oi := ?oi105) (v := ?v105) ?hi105 (by kernel_rfl) ?hQ105 (Or.inl ⟨?hg105, ?hy105⟩) hH ?rest105
      case hi105 => simp only [List.getElem?_toArray, List.getElem?_cons_succ, List.getElem?_cons_zero]; rfl
      case hQ105 => exact fun _ _ _ h => h
      case hg105 => rfl
      case hy105 => intro W hSw; obtain ⟨⟨s0, s1, s2⟩, s3, s4⟩ := hSw; go_simp; try with_reducible rfl
      case rest105 =>
      try simp only [Act.put, List.setIfInBounds_toArray, List.set_cons_zero, List.set_cons_succ]
      refine HeadW.one (i := 16) (o := ?oi106) ?hi106 (by kernel_rfl) ?st106
      case hi106 => simp only [List.getElem?_toArray, List.getElem?_cons_succ, List.getElem?_cons_zero]; rfl
      case st106 =>
      intro K hK
      go_simp

      try dsimp only
      refine hK.out _ _ hH ?_
      clear hK K
      try simp only [Act.put, List.setIfInBounds_toArray, List.set_cons_zero, List.set_cons_succ]
      refine HeadW.take (i := 17) (oi := ?oi107) (v := ?v107) ?hi107 (by kernel_rfl) ?hQ107 (Or.inl ⟨?hg107, ?hy107⟩) hH ?rest107
      case hi107 => simp only [List.getElem?_toArray, List.getElem?_cons_succ, List.getElem?_cons_zero]; rfl
      case hQ107 => exact fun _ _ _ h => h
      case hg107 => rfl
      case hy107 => intro W hSw; obtain ⟨⟨s0, s1, s2⟩, s3, s4⟩ := hSw; go_simp; try with_reducible rfl
      case rest107 =>
      try simp only [Act.put, List.setIfInBounds_toArray, List.set_cons_zero, List.set_cons_succ]
      refine HeadW.take (i := 18) (oi := ?oi108) (v := ?v108) ?hi108 (by kernel_rfl) ?hQ108 (Or.inl ⟨?hg108, ?hy108⟩) hH ?rest108
      case hi108 => simp only [List.getElem?_toArray, List.getElem?_cons_succ, List.getElem?_cons_zero]; rfl
      case hQ108 => exact fun _ _ _ h => h
      case hg108 => rfl
      case hy108 => intro W hSw; obtain ⟨⟨s0, s1, s2⟩, s3, s4⟩ := hSw; go_simp; try with_reducible rfl
      case rest108 =>
      try simp only [Act.put, List.setIfInBounds_toArray, List.set_cons_zero, List.set_cons_succ]
      refine HeadW.take (i := 19) (oi := ?oi109) (v := ?v109) ?hi109 (by kernel_rfl) ?hQ109 (Or.inl ⟨?hg109, ?hy109⟩) hH ?rest109
      case hi109 => simp only [List.getElem?_toArray, List.getElem?_cons_succ, List.getElem?_cons_zero]; rfl
      case hQ109 => exact fun _ _ _ h => h
      case hg109 => rfl
      case hy109 => intro W hSw; obtain ⟨⟨s0, s1, s2⟩, s3, s4⟩ := hSw; go_simp; try with_reducible rfl
      case rest109 =>
      try simp only [Act.put, List.setIfInBounds_toArray, List.set_cons_zero, List.set_cons_succ]
      refine HeadW.take (i := 20) (oi := ?oi110) (v := ?v110) ?hi110 (by kernel_rfl) ?hQ110 (Or.inl ⟨?hg110, ?hy110⟩) hH ?rest110
      case hi110 => simp only [List.getElem?_toArray, List.getElem?_cons_succ, List.getElem?_cons_zero]; rfl
      case hQ110 => exact fun _ _ _ h => h
      case hg110 => rfl
      case hy110 => intro W hSw; obtain ⟨⟨s0, s1, s2⟩, s3, s4⟩ := hSw; go_simp; try with_reducible rfl
      case rest110 =>
      try simp only [Act.put, List.setIfInBounds_toArray, List.set_cons_zero, List.set_cons_succ]
      refine HeadW.take (i := 21) (oi := ?oi111) (v := ?v111) ?hi111 (by kernel_rfl) ?hQ111 (Or.inl ⟨?hg111, ?hy111⟩) hH ?rest111
      case hi111 => simp only [List.getElem?_toArray, List.getElem?_cons_succ, List.getElem?_cons_zero]; rfl
      case hQ111 => exact fun _ _ _ h => h
      case hg111 => rfl
      case hy111 => intro W hSw; obtain ⟨⟨s0, s1, s2⟩, s3, s4⟩ := hSw; go_simp; try with_reducible rfl
      case rest111 =>
      try simp only [Act.put, List.setIfInBounds_toArray, List.set_cons_zero, List.set_cons_succ]
      refine HeadW.take (i := 22) (oi := ?oi112) (v := ?v112) ?hi112 (by kernel_rfl) ?hQ112 (Or.inl ⟨?hg112, ?hy112⟩) hH ?rest112
      case hi112 => simp only [List.getElem?_toArray, List.getElem?_cons_succ, List.getElem?_cons_zero]; rfl
      case hQ112 => exact fun _ _ _ h => h
      case hg112 => rfl
      case hy112 => intro W hSw; obtain ⟨⟨s0, s1, s2⟩, s3, s4⟩ := hSw; go_simp; try with_reducible rfl
      case rest112 =>
      try simp only [Act.put, List.setIfInBounds_toArray, List.set_cons_zero, List.set_cons_succ]
      refine HeadW.take (i := 23) (oi := ?oi113) (v := ?v113) ?hi113 (by kernel_rfl) ?hQ113 (Or.inl ⟨?hg113, ?hy113⟩) hH ?rest113
      case hi113 => simp only [List.getElem?_toArray, List.getElem?_cons_succ, List.getElem?_cons_zero]; rfl
      case hQ113 => exact fun _ _ _ h => h
      case hg113 => rfl
      case hy113 => intro W hSw; obtain ⟨⟨s0, s1, s2⟩, s3, s4⟩ := hSw; go_simp; try with_reducible rfl
      case rest113 =>
      try simp only [Act.put, List.setIfInBounds_toArray, List.set_cons_zero, List.set_cons_succ]
      refine HeadW.take (i := 24) (oi := ?oi114) (v := ?v114) ?hi114 (by kernel_rfl) ?hQ114 (Or.inl ⟨?hg114, ?hy114⟩) hH ?rest114
      case hi114 => simp only [List.getElem?_toArray, List.getElem?_cons_succ, List.getElem?_cons_zero]; rfl
      case hQ114 => exact fun _ _ _ h => h
      case hg114 => rfl
      case hy114 => intro W hSw; obtain ⟨⟨s0, s1, s2⟩, s3, s4⟩ := hSw; go_simp; try with_reducible rfl
      case rest114 =>
      try simp only [Act.put, List.setIfInBounds_toArray, List.set_cons_zero, List.set_cons_succ]
      refine HeadW.take (i := 25) (oi := ?oi115) (v := ?v115) ?hi115 (by kernel_rfl) ?hQ115 (Or.inl ⟨?hg115, ?hy115⟩) hH ?rest115
      case hi115 => simp only [List.getElem?_toArray, List.getElem?_cons_succ, List.getElem?_cons_zero]; rfl
      case hQ115 => exact fun _ _ _ h => h
      case hg115 => rfl
      case hy115 => intro W hSw; obtain ⟨⟨s0, s1, s2⟩, s3, s4⟩ := hSw; go_simp; try with_reducible rfl
      case rest115 =>
      try simp only [Act.put, List.setIfInBounds_toArray, List.set_cons_zero, List.set_cons_succ]
      refine HeadW.take (i := 26) (oi := ?oi116) (v := ?v116) ?hi116 (by kernel_rfl) ?hQ116 (Or.inl ⟨?hg116, ?hy116⟩) hH ?rest116
      case hi116 => simp only [List.getElem?_toArray, List.getElem?_cons_succ, List.getElem?_cons_zero]; rfl
      case hQ116 => exact fun _ _ _ h => h
      case hg116 => rfl
      case hy116 => intro W hSw; obtain ⟨⟨s0, s1, s2⟩, s3, s4⟩ := hSw; go_simp; try with_reducible rfl
      case rest116 =>
      try simp only [Act.put, List.setIfInBounds_toArray, List.set_cons_zero, List.set_cons_succ]
      refine HeadW.take (i := 27) (oi := ?oi117) (v := ?v117) ?hi117 (by kernel_rfl) ?hQ117 (Or.inl ⟨?hg117, ?hy117⟩) hH ?rest117
      case hi117 => simp only [List.getElem?_toArray, List.getElem?_cons_succ, List.getElem?_cons_zero]; rfl
      case hQ117 => exact fun _ _ _ h => h
      case hg117 => rfl
      case hy117 => intro W hSw; obtain ⟨⟨s0, s1, s2⟩, s3, s4⟩ := hSw; go_simp; try with_reducible rfl
      case rest117 =>
      try simp only [Act.put, List.setIfInBounds_toArray, List.set_cons_zero, List.set_cons_succ]
      refine HeadW.take (i := 28) (oi := ?oi118) (v := ?v118) ?hi118 (by kernel_rfl) ?hQ118 (Or.inl ⟨?hg118, ?hy118⟩) hH ?rest118
      case hi118 => simp only [List.getElem?_toArray, List.getElem?_cons_succ, List.getElem?_cons_zero]; rfl
      case hQ118 => exact fun _ _ _ h => h
      case hg118 => rfl
      case hy118 => intro W hSw; obtain ⟨⟨s0, s1, s2⟩, s3, s4⟩ := hSw; go_simp; try with_reducible rfl
      case rest118 =>
      try simp only [Act.put, List.setIfInBounds_toArray, List.set_cons_zero, List.set_cons_succ]
      refine HeadW.take (i := 29) (oi := ?oi119) (v := ?v119) ?hi119 (by kernel_rfl) ?hQ119 (Or.inl ⟨?hg119, ?hy119⟩) hH ?rest119
      case hi119 => simp only [List.getElem?_toArray, List.getElem?_cons_succ, List.getElem?_cons_zero]; rfl
      case hQ119 => exact fun _ _ _ h => h
      case hg119 => rfl
      case hy119 => intro W hSw; obtain ⟨⟨s0, s1, s2⟩, s3, s4⟩ := hSw; go_simp; try with_reducible rfl
      case rest119 =>
      try simp only [Act.put, List.setIfInBounds_toArray, List.set_cons_zero, List.set_cons_succ]
      refine HeadW.take (i := 30) (oi := ?oi120) (v := ?v120) ?hi120 (by kernel_rfl) ?hQ120 (Or.inl ⟨?hg120, ?hy120⟩) hH ?rest120
      case hi120 => simp only [List.getElem?_toArray, List.getElem?_cons_succ, List.getElem?_cons_zero]; rfl
      case hQ120 => exact fun _ _ _ h => h
      case hg120 => rfl
      case hy120 => intro W hSw; obtain ⟨⟨s0, s1, s2⟩, s3, s4⟩ := hSw; go_simp; try with_reducible rfl
      case rest120 =>
      try simp only [Act.put, List.setIfInBounds_toArray, List.set_cons_zero, List.set_cons_succ]
      refine HeadW.take (i := 31) (oi := ?oi121) (v := ?v121) ?hi121 (by kernel_rfl) ?hQ121 (Or.inl ⟨?hg121, ?hy121⟩) hH ?rest121
      case hi121 => simp only [List.getElem?_toArray, List.getElem?_cons_succ, List.getElem?_cons_zero]; rfl
      case hQ121 => exact fun _ _ _ h => h
      case hg121 => rfl
      case hy121 => intro W hSw; obtain ⟨⟨s0, s1, s2⟩, s3, s4⟩ := hSw; go_simp; try with_reducible rfl
      case rest121 =>
      try simp only [Act.put, List.setIfInBounds_toArray, List.set_cons_zero, List.set_cons_succ]
      refine HeadW.take (i := 32) (oi := ?oi122) (v := ?v122) ?hi122 (by kernel_rfl) ?hQ122 (Or.inl ⟨?hg122, ?hy122⟩) hH ?rest122
      case hi122 => simp only [List.getElem?_toArray, List.getElem?_cons_succ, List.getElem?_cons_zero]; rfl
      case hQ122 => exact fun _ _ _ h => h
      case hg122 => rfl
      case hy122 => intro W hSw; obtain ⟨⟨s0, s1, s2⟩, s3, s4⟩ := hSw; go_simp; try with_reducible rfl
      case rest122 =>
      try simp only [Act.put, List.setIfInBounds_toArray, List.set_cons_zero, List.set_cons_succ]
      refine HeadW.take (i := 33) (oi := ?oi123) (v := ?v123) ?hi123 (by kernel_rfl) ?hQ123 (Or.inl ⟨?hg123, ?hy123⟩) hH ?rest123
      case hi123 => simp only [List.getElem?_toArray, List.getElem?_cons_succ, List.getElem?_cons_zero]; rfl
      case hQ123 => exact fun _ _ _ h => h
      case hg123 => rfl
      case hy123 => intro W hSw; obtain ⟨⟨s0, s1, s2⟩, s3, s4⟩ := hSw; go_simp; try with_reducible rfl
      case rest123 =>
      try simp only [Act.put, List.setIfInBounds_toArray, List.set_cons_zero, List.set_cons_succ]
      refine HeadW.take (i := 35) (oi := ?oi124) (v := ?v124) ?hi124 (by kernel_rfl) ?hQ124 (Or.inl ⟨?hg124, ?hy124⟩) hH ?rest124
      case hi124 => simp only [List.getElem?_toArray, List.getElem?_cons_succ, List.getElem?_cons_zero]; rfl
      case hQ124 => exact fun _ _ _ h => h
      case hg124 => rfl
      case hy124 => intro W hSw; obtain ⟨⟨s0, s1, s2⟩, s3, s4⟩ := hSw; go_simp; try with_reducible rfl
      case rest124 =>
      try simp only [Act.put, List.setIfInBounds_toArray, List.set_cons_zero, List.set_cons_succ]
      refine HeadW.one (i := 34) (o := ?oi125) ?hi125 (by kernel_rfl) ?st125
      case hi125 => simp only [List.getElem?_toArray, List.getElem?_cons_succ, List.getElem?_cons_zero]; rfl
      case st125 =>
      intro K hK
      go_simp
      go_at_call 22
      refine (F4.out _ HSc.out).mono ?_
      rintro e w8 ⟨rfl, hb⟩
      have HSc := Lib.hid (HSc.out.later hb)
      have PBc := Lib.hid (PBc.out.later hb)
      have HBc := Lib.hid (bTr HBc.out hb)
      have CTc := Lib.hid (CTc.out.later hb)
      have CPc := Lib.hid (CPc.out.later hb)
      have RP := Lib.hid ((RP.out.below hb (Nat.le_refl _)).more hb.size)
      have RQ := Lib.hid ((RQ.out.below hb (Nat.le_refl _)).more hb.size)
      clear hb hH
      have hH : BoxJ gs (.slice (some ⟨bT, offT, none⟩) S.nT p.c1) (.slice p.o2 S.nO p.c2) (.slice p.o3 S.nC p.c3) ⟨bP, offP, none⟩ (.int .i64 (x : Int)) ⟨bT, offT + x * 2 + 1, none⟩ (.int .i64 (-1)) _ := ⟨⟨PBc.out.cell 0, PBc.out.cell 1, PBc.out.cell 2⟩, CPc.out.2, CTc.out.2⟩
      try dsimp only
      refine hK.out _ _ hH ?_
      clear hK K
      try simp only [Act.put, List.setIfInBounds_toArray, List.set_cons_zero, List.set_cons_succ]
      refine HeadW.take (i := 36) (oi := ?oi126) (v := ?v126) ?hi126 (by kernel_rfl) ?hQ126 (Or.inl ⟨?hg126, ?hy126⟩) hH ?rest126
      case hi126 => simp only [List.getElem?_toArray, List.getElem?_cons_succ, List.getElem?_cons_zero]; rfl
      case hQ126 => exact fun _ _ _ h => h
      case hg126 => rfl
      case hy126 => intro W hSw; obtain ⟨⟨s0, s1, s2⟩, s3, s4⟩ := hSw; go_simp; try with_reducible rfl
      case rest126 =>
      try simp only [Act.put, List.setIfInBounds_toArray, List.set_cons_zero, List.set_cons_succ]
      refine HeadW.take (i := 37) (oi := ?oi127) (v := ?v127) ?hi127 (by kernel_rfl) ?hQ127 (Or.inl ⟨?hg127, ?hy127⟩) hH ?rest127
      case hi127 => simp only [List.getElem?_toArray, List.getElem?_cons_succ, List.getElem?_cons_zero]; rfl
      case hQ127 => exact fun _ _ _ h => h
      case hg127 => rfl
      case hy127 => intro W hSw; obtain ⟨⟨s0, s1, s2⟩, s3, s4⟩ := hSw; go_simp; try with_reducible rfl
      case rest127 =>
      try simp only [Act.put, List.setIfInBounds_toArray, List.set_cons_zero, List.set_cons_succ]
      refine HeadW.take (i := 38) (oi := ?oi128) (v := ?v128) ?hi128 (by kernel_rfl) ?hQ128 (Or.inl ⟨?hg128, ?hy128⟩) hH ?rest128
      case hi128 => simp only [List.getElem?_toArray, List.getElem?_cons_succ, List.getElem?_cons_zero]; rfl
      case hQ128 => exact fun _ _ _ h => h
      case hg128 => rfl
      case hy128 => intro W hSw; obtain ⟨⟨s0, s1, s2⟩, s3, s4⟩ := hSw; go_simp; try with_reducible rfl
      case rest128 =>
      try simp only [Act.put, List.setIfInBounds_toArray, List.set_cons_zero, List.set_cons_succ]
      refine HeadW.one (i := 39) (o := ?oi129) ?hi129 (by kernel_rfl) ?st129
      case hi129 => simp only [List.getElem?_toArray, List.getElem?_cons_succ, List.getElem?_cons_zero]; rfl
      case st129 =>
      intro K hK
      go_simp
      go_at_call 15
      refine (awake_any _).mono ?_
      rintro e w9 ⟨rfl, hb⟩
      have HSc := Lib.hid (HSc.out.later hb)
      have PBc := Lib.hid (PBc.out.later hb)
      have HBc := Lib.hid (bTr HBc.out hb)
      have CTc := Lib.hid (CTc.out.later hb)
      have CPc := Lib.hid (CPc.out.later hb)
      have RP := Lib.hid ((RP.out.below hb (Nat.le_refl _)).more hb.size)
      have RQ := Lib.hid ((RQ.out.below hb (Nat.le_refl _)).more hb.size)
      clear hb hH
      have hH : BoxJ gs (.slice (some ⟨bT, offT, none⟩) S.nT p.c1) (.slice p.o2 S.nO p.c2) (.slice p.o3 S.nC p.c3) ⟨bP, offP, none⟩ (.int .i64 (x : Int)) ⟨bT, offT + x * 2 + 1, none⟩ (.int .i64 (-1)) _ := ⟨⟨PBc.out.cell 0, PBc.out.cell 1, PBc.out.cell 2⟩, CPc.out.2, CTc.out.2⟩
      try dsimp only
      refine hK.out _ _ hH ?_
      clear hK K
      try simp only [Act.put, List.setIfInBounds_toArray, List.set_cons_zero, List.set_cons_succ]
      refine HeadW.take (i := 40) (oi := ?oi130) (v := ?v130) ?hi130 (by kernel_rfl) ?hQ130 (Or.inl ⟨?hg130, ?hy130⟩) hH ?rest130
      case hi130 => simp only [List.getElem?_toArray, List.getElem?_cons_succ, List.getElem?_cons_zero]; rfl
      case hQ130 => exact fun _ _ _ h => h
      case hg130 => rfl
      case hy130 => intro W hSw; obtain ⟨⟨s0, s1, s2⟩, s3, s4⟩ := hSw; go_simp; try with_reducible rfl
      case rest130 =>
      try simp only [Act.put, List.setIfInBounds_toArray, List.set_cons_zero, List.set_cons_succ]
      refine HeadW.done (by kernel_rfl) ?_
      go_wp2_with fail
      go_ret
      exact ⟨rfl, HBc.out⟩
end Go.Proofs.Ytglikjdgjmijfaa
