/-
  The walk of the statement on loose items.
-/
import Derived.Test.YtjciniffkdadaaaIKit
import Derived.Test.YtjciniffkdadaaaIDraw
import Derived.Test.YtjciniffkdadaaaIPap3
import Derived.Test.YtjciniffkdadaaaIHead
namespace Go.Proofs.Ytjciniffkdadaaa
open Go.RowKit
set_option linter.unusedSimpArgs false
set_option linter.unusedVariables false

def BoxL (gs : Nat) (id ver : Int) (st : ByteArray) (v1 v2 : Value) (W : World) : Prop := W.cell? ⟨gs, 0, none⟩ = some (.int .i64 id) ∧ W.cell? ⟨gs, 1, none⟩ = some (.int .i64 ver) ∧ W.cell? ⟨gs, 2, none⟩ = some (.string st) ∧ W.cell? ⟨gs, 3, none⟩ = some v1 ∧ W.cell? ⟨gs, 4, none⟩ = some v2
def ckI (id ver : Int) (st : ByteArray) (n : Nat) (P : Nat → Pt) (m : Nat) (E : Nat → Int) : Int := Itm.chk ⟨id, ver, st, n, P, m, E⟩
def toI (id ver : Int) (st : ByteArray) (n : Nat) (P : Nat → Pt) (m : Nat) (E : Nat → Int) : Int := Itm.tot ⟨id, ver, st, n, P, m, E⟩
section
variable (o1 o2 : Option Addr) (n1 c1 n2 c2 : Nat) (id ver : Int) (st : ByteArray) (P : Nat → Pt) (E : Nat → Int) (w : World)
theorem ck_lit (h : ItmIn w w.heap.size ⟨o1, c1, o2, c2⟩ ⟨id, ver, st, n1, P, n2, E⟩) : Calls Try.prog 19 #[.agg #[.int .i64 id, .int .i64 ver, .string st, .slice o1 n1 c1, .slice o2 n2 c2]] w fun e w' => e = .returned (.int .i64 (ckI id ver st n1 P n2 E)) ∧ Below w.heap.size w w' := icheck_any ⟨o1, c1, o2, c2⟩ ⟨id, ver, st, n1, P, n2, E⟩ w h
theorem rck_lit (h : ItmIn w w.heap.size ⟨o1, c1, o2, c2⟩ ⟨id, ver, st, n1, P, n2, E⟩) : Calls Try.prog 20 #[.agg #[.int .i64 id, .int .i64 ver, .string st, .slice o1 n1 c1, .slice o2 n2 c2]] w fun e w' => e = .returned (.int .i64 (ckI id ver st n1 P n2 E)) ∧ Below w.heap.size w w' := rcheck_any ⟨o1, c1, o2, c2⟩ ⟨id, ver, st, n1, P, n2, E⟩ w h
theorem to_lit (h : ItmIn w w.heap.size ⟨o1, c1, o2, c2⟩ ⟨id, ver, st, n1, P, n2, E⟩) : Calls Try.prog 21 #[.agg #[.int .i64 id, .int .i64 ver, .string st, .slice o1 n1 c1, .slice o2 n2 c2]] w fun e w' => e = .returned (.int .i64 (toI id ver st n1 P n2 E)) ∧ Below w.heap.size w w' := itotal_any ⟨o1, c1, o2, c2⟩ ⟨id, ver, st, n1, P, n2, E⟩ w h
theorem rto_lit (h : ItmIn w w.heap.size ⟨o1, c1, o2, c2⟩ ⟨id, ver, st, n1, P, n2, E⟩) : Calls Try.prog 22 #[.agg #[.int .i64 id, .int .i64 ver, .string st, .slice o1 n1 c1, .slice o2 n2 c2]] w fun e w' => e = .returned (.int .i64 (toI id ver st n1 P n2 E)) ∧ Below w.heap.size w w' := rtotal_any ⟨o1, c1, o2, c2⟩ ⟨id, ver, st, n1, P, n2, E⟩ w h
end
/-- four copies of one item -/
structure Four (w0 : World) (cs : Array Value) (a b c d : Nat) (wx : World) : Prop where
  be : Below w0.heap.size w0 wx
  ba : Blk wx a 33 cs
  bb : Blk wx b 33 cs
  bc : Blk wx c 33 cs
  bd : Blk wx d 33 cs
  la : w0.heap.size ≤ a ∧ w0.heap.size ≤ b ∧ w0.heap.size ≤ c ∧ w0.heap.size ≤ d
  ne : a ≠ b ∧ a ≠ c ∧ a ≠ d ∧ b ≠ c ∧ b ≠ d ∧ c ≠ d
theorem four_new (w : World) (cs : Array Value) (a b c d : Nat) (ha : a < w.heap.size + 4) (hb : b < w.heap.size + 4) (hc : c < w.heap.size + 4) (hd : d < w.heap.size + 4) (h1 : a ≠ b) (h2 : a ≠ c) (h3 : a ≠ d) (h4 : b ≠ c) (h5 : b ≠ d) (h6 : c ≠ d) (la : w.heap.size ≤ a) (lb : w.heap.size ≤ b) (lc : w.heap.size ≤ c) (ld : w.heap.size ≤ d) :
    Four w cs a b c d ((((w.alloc (.cells cs 33)).alloc (.cells cs 33)).alloc (.cells cs 33)).alloc (.cells cs 33)).drew := by
  have hz : w.drew.heap.size = w.heap.size := rfl
  have hk : ∀ k, w.heap.size ≤ k → k < w.heap.size + 4 → Blk ((((w.alloc (.cells cs 33)).alloc (.cells cs 33)).alloc (.cells cs 33)).alloc (.cells cs 33)).drew k 33 cs := by
    intro k h1 h2
    have : k = w.heap.size ∨ k = w.heap.size + 1 ∨ k = w.heap.size + 2 ∨ k = w.heap.size + 3 := by omega
    rcases this with rfl | rfl | rfl | rfl
    · exact (((Blk.newAt (w := w) rfl).alloc _).alloc _).alloc _
    · exact ((Blk.newAt (by simp)).alloc _).alloc _
    · exact (Blk.newAt (by simp)).alloc _
    · exact Blk.newAt (by simp)
  exact ⟨bD1 (bAl (bAl (bAl (bAl (Below.refl _ _) _) _) _) _), hk a la ha, hk b lb hb, hk c lc hc, hk d ld hd, ⟨la, lb, lc, ld⟩, ⟨h1, h2, h3, h4, h5, h6⟩⟩
attribute [local irreducible] ckI toI in
set_option maxRecDepth 100000 in
set_option maxHeartbeats 16000000 in
theorem walkItemLoose (o : Option Addr) (n c : Nat) (zs : List Int) (a1 a2 : Int) (a3 : ByteArray) (oe : Option Addr) (ne ce : Nat) (ze : List Int) (w : World) (h0 : IsRow .i64 w o n c zs) (l1 : -9223372036854775808 ≤ a1) (u1 : a1 < 9223372036854775808) (l2 : -9223372036854775808 ≤ a2) (u2 : a2 < 9223372036854775808) (hs3 : a3.size ≤ maxLen) (h4 : IsRow .i64 w oe ne ce ze) :
    Calls Try.prog 5 #[.slice o n c, .int .i64 a1, .int .i64 a2, .string a3, .slice oe ne ce] w fun e w' => e = .returned (.bool true) ∧ Below w.heap.size w w' := by
  obtain ⟨hr, h1, h2, h3⟩ := row_of h0
  obtain ⟨hre, he1, _, _⟩ := row_of h4
  have HE0 : Hid (RowI w w.heap.size oe ne (fun i => ze.getD i 0)) := Lib.hid (fun i hi => (hre i hi).1)
  have HE1 := Lib.hid he1
  clear hre he1 h4 l1 u1 l2 u2
  go_enter Try.func5, Try.ntmps5
  go_wp2_with fail
  refine (tape_new hr h1 h2 h3).mono ?_
  rintro e w1 ⟨g, n9, rfl, ht1, hb1, hg⟩
  have T1 := Lib.hid ht1
  have HB1 := Lib.hid hb1
  have HG := Lib.hid hg
  clear ht1 hb1 hg hr h1 h2 h3
  go_wp2_with fail
  refine (item_any 0 3 1 (by omega) (by omega) (by omega) (by omega) T1.out).mono ?_
  rintro e w4 ⟨p, x, rfl, hS, _, ht4, hg4, hn1, hn2, hn3, hx0⟩
  clear hx0 hn1 hn2 hn3
  have HB4 := Lib.hid (HB1.out.trans (bGr hg4 HG.out HB1.out.size))
  have hbb := bAl (Below.refl _ w4) (.cells (itmC p x) 33)
  have P5 := Lib.hid (Blk.new w4 33 (itmC p x))
  have HS5 := Lib.hid (hS.later hbb)
  have HB5 := Lib.hid (bTr HB4.out hbb)
  clear HB1 T1 HG hS ht4 hg4 hbb HB4
  unfold itmC at P5 HS5 HB5 ⊢
  by_cases hst : 60 < a3.size
  · have hst' : (60 : Int) < (a3.size : Int) := by omega
    go_wp2_with fail
    go_ret
    exact ⟨rfl, HB5.out⟩
  have hst' : ¬ (60 : Int) < (a3.size : Int) := by omega
  by_cases hen : 12 < ne
  · have hen' : (12 : Int) < (ne : Int) := by omega
    go_wp2_with fail
    go_ret
    exact ⟨rfl, HB5.out⟩
  have hen' : ¬ (12 : Int) < (ne : Int) := by omega
  clear hst hen
  go_upto_region 5 with fail
  generalize w4.alloc _ = w5 at P5 HS5 HB5 ⊢
  generalize w4.heap.size = gs at P5 ⊢
  have HS6 := Lib.hid (fun W (hb : Below w5.heap.size w5 W) => (⟨(P5.out.later hb).cell 0, (P5.out.later hb).cell 1, (P5.out.later hb).cell 2, (P5.out.later hb).cell 3, (P5.out.later hb).cell 4⟩ : BoxL gs x.id x.ver x.st (.slice p.o1 x.nP p.c1) (.slice p.o2 x.nE p.c2) W))
  have HREL := Lib.hid (four_new w5 #[.int .i64 x.id, .int .i64 x.ver, .string x.st, .slice p.o1 x.nP p.c1, .slice p.o2 x.nE p.c2])
  go_cut [13, 14, 15, 16] (fun s13 s14 s15 s16 wx => ∃ ga gb gc gd : Nat, s13 = .pointer (some ⟨ga, 0, none⟩) ∧ s14 = .pointer (some ⟨gb, 0, none⟩) ∧ s15 = .pointer (some ⟨gc, 0, none⟩) ∧ s16 = .pointer (some ⟨gd, 0, none⟩) ∧ Four w5 #[.int .i64 x.id, .int .i64 x.ver, .string x.st, .slice p.o1 x.nP p.c1, .slice p.o2 x.nE p.c2] ga gb gc gd wx)
  case first =>
    have hH : BoxL gs x.id x.ver x.st (.slice p.o1 x.nP p.c1) (.slice p.o2 x.nE p.c2) w5.drew := HS6.out _ (bD1 (Below.refl _ _))
    refine wp_region_held_tail (BoxL gs x.id x.ver x.st (.slice p.o1 x.nP p.c1) (.slice p.o2 x.nE p.c2)) 11 (by kernel_rfl) (by kernel_rfl) ?_
    simp only [List.drop_succ_cons, List.drop_zero]
    refine HeadW.take (i := 0) (oi := ?oi1) (v := ?v1) ?hi1 (by kernel_rfl) ?hQ1 (Or.inl ⟨?hg1, ?hy1⟩) hH ?rest1
    case hi1 => simp only [List.getElem?_toArray, List.getElem?_cons_succ, List.getElem?_cons_zero]; rfl
    case hQ1 => exact fun _ _ _ h => h
    case hg1 => rfl
    case hy1 => intro W hSw; obtain ⟨s0, s1, s2, s3, s4⟩ := hSw; go_simp; try with_reducible rfl
    case rest1 =>
    try simp only [Act.put, List.setIfInBounds_toArray, List.set_cons_zero, List.set_cons_succ]
    refine HeadW.take (i := 1) (oi := ?oi2) (v := ?v2) ?hi2 (by kernel_rfl) ?hQ2 (Or.inl ⟨?hg2, ?hy2⟩) hH ?rest2
    case hi2 => simp only [List.getElem?_toArray, List.getElem?_cons_succ, List.getElem?_cons_zero]; rfl
    case hQ2 => exact fun _ _ _ h => h
    case hg2 => rfl
    case hy2 => intro W hSw; obtain ⟨s0, s1, s2, s3, s4⟩ := hSw; go_simp; try with_reducible rfl
    case rest2 =>
    try simp only [Act.put, List.setIfInBounds_toArray, List.set_cons_zero, List.set_cons_succ]
    refine HeadW.take (i := 2) (oi := ?oi3) (v := ?v3) ?hi3 (by kernel_rfl) ?hQ3 (Or.inl ⟨?hg3, ?hy3⟩) hH ?rest3
    case hi3 => simp only [List.getElem?_toArray, List.getElem?_cons_succ, List.getElem?_cons_zero]; rfl
    case hQ3 => exact fun _ _ _ h => h
    case hg3 => rfl
    case hy3 => intro W hSw; obtain ⟨s0, s1, s2, s3, s4⟩ := hSw; go_simp; try with_reducible rfl
    case rest3 =>
    try simp only [Act.put, List.setIfInBounds_toArray, List.set_cons_zero, List.set_cons_succ]
    refine HeadW.take (i := 3) (oi := ?oi4) (v := ?v4) ?hi4 (by kernel_rfl) ?hQ4 (Or.inl ⟨?hg4, ?hy4⟩) hH ?rest4
    case hi4 => simp only [List.getElem?_toArray, List.getElem?_cons_succ, List.getElem?_cons_zero]; rfl
    case hQ4 => exact fun _ _ _ h => h
    case hg4 => rfl
    case hy4 => intro W hSw; obtain ⟨s0, s1, s2, s3, s4⟩ := hSw; go_simp; try with_reducible rfl
    case rest4 =>
    try simp only [Act.put, List.setIfInBounds_toArray, List.set_cons_zero, List.set_cons_succ]
    refine HeadW.some_ [4, 5, 6, 7] (by kernel_rfl) (fun i hi => ?_)
    simp only [List.mem_cons, List.mem_nil_iff, or_false] at hi
    rcases hi with rfl | rfl | rfl | rfl
    · refine ⟨_, (by simp only [List.getElem?_toArray, List.getElem?_cons_succ, List.getElem?_cons_zero]; rfl), ?_⟩
      unfold StepAt
      intro K hK
      go_simp
      refine hK.out _ _ (HS6.out _ (bAl (bD1 (Below.refl w5.heap.size w5)) _)) ?_
      clear hK K
      try simp only [Act.put, List.setIfInBounds_toArray, List.set_cons_zero, List.set_cons_succ]
      refine HeadW.some_ [5, 6, 7] (by kernel_rfl) (fun i hi => ?_)
      simp only [List.mem_cons, List.mem_nil_iff, or_false] at hi
      rcases hi with rfl | rfl | rfl
      · refine ⟨_, (by simp only [List.getElem?_toArray, List.getElem?_cons_succ, List.getElem?_cons_zero]; rfl), ?_⟩
        unfold StepAt
        intro K hK
        go_simp
        refine hK.out _ _ (HS6.out _ (bAl (bAl (bD1 (Below.refl w5.heap.size w5)) _) _)) ?_
        clear hK K
        try simp only [Act.put, List.setIfInBounds_toArray, List.set_cons_zero, List.set_cons_succ]
        refine HeadW.some_ [6, 7] (by kernel_rfl) (fun i hi => ?_)
        simp only [List.mem_cons, List.mem_nil_iff, or_false] at hi
        rcases hi with rfl | rfl
        · refine ⟨_, (by simp only [List.getElem?_toArray, List.getElem?_cons_succ, List.getElem?_cons_zero]; rfl), ?_⟩
          unfold StepAt
          intro K hK
          go_simp
          refine hK.out _ _ (HS6.out _ (bAl (bAl (bAl (bD1 (Below.refl w5.heap.size w5)) _) _) _)) ?_
          clear hK K
          try simp only [Act.put, List.setIfInBounds_toArray, List.set_cons_zero, List.set_cons_succ]
          refine HeadW.some_ [7] (by kernel_rfl) (fun i hi => ?_)
          simp only [List.mem_cons, List.mem_nil_iff, or_false] at hi
          subst hi
          refine ⟨_, (by simp only [List.getElem?_toArray, List.getElem?_cons_succ, List.getElem?_cons_zero]; rfl), ?_⟩
          unfold StepAt
          intro K hK
          go_simp
          refine hK.out _ _ (HS6.out _ (bAl (bAl (bAl (bAl (bD1 (Below.refl w5.heap.size w5)) _) _) _) _)) ?_
          clear hK K
          try simp only [Act.put, List.setIfInBounds_toArray, List.set_cons_zero, List.set_cons_succ]
          refine HeadW.one (i := 8) (o := ?oi5) ?hi5 (by kernel_rfl) ?st5
          case hi5 => simp only [List.getElem?_toArray, List.getElem?_cons_succ, List.getElem?_cons_zero]; rfl
          case st5 =>
          intro K hK
          go_simp
          try dsimp only
          refine hK.out _ _ (HS6.out _ (by first | exact bAl (bAl (bAl (bAl (bD1 (Below.refl w5.heap.size w5)) _) _) _) _ | exact bD1 (bAl (bAl (bAl (bAl (Below.refl w5.heap.size w5) _) _) _) _))) ?_
          clear hK K
          try simp only [Act.put, List.setIfInBounds_toArray, List.set_cons_zero, List.set_cons_succ]
          refine HeadW.one (i := 9) (o := ?oi6) ?hi6 (by kernel_rfl) ?st6
          case hi6 => simp only [List.getElem?_toArray, List.getElem?_cons_succ, List.getElem?_cons_zero]; rfl
          case st6 =>
          intro K hK
          go_simp
          try dsimp only
          refine hK.out _ _ (HS6.out _ (by first | exact bAl (bAl (bAl (bAl (bD1 (Below.refl w5.heap.size w5)) _) _) _) _ | exact bD1 (bAl (bAl (bAl (bAl (Below.refl w5.heap.size w5) _) _) _) _))) ?_
          clear hK K
          try simp only [Act.put, List.setIfInBounds_toArray, List.set_cons_zero, List.set_cons_succ]
          refine HeadW.one (i := 10) (o := ?oi7) ?hi7 (by kernel_rfl) ?st7
          case hi7 => simp only [List.getElem?_toArray, List.getElem?_cons_succ, List.getElem?_cons_zero]; rfl
          case st7 =>
          intro K hK
          go_simp
          try dsimp only
          refine hK.out _ _ (HS6.out _ (by first | exact bAl (bAl (bAl (bAl (bD1 (Below.refl w5.heap.size w5)) _) _) _) _ | exact bD1 (bAl (bAl (bAl (bAl (Below.refl w5.heap.size w5) _) _) _) _))) ?_
          clear hK K
          try simp only [Act.put, List.setIfInBounds_toArray, List.set_cons_zero, List.set_cons_succ]
          refine HeadW.done (by kernel_rfl) ?_
          go_wp2_with fail
          go_meet
          case rel => exact ⟨(w5.heap.size), (w5.heap.size + 1), (w5.heap.size + 1 + 1), (w5.heap.size + 1 + 1 + 1), rfl, rfl, rfl, rfl, HREL.out (w5.heap.size) (w5.heap.size + 1) (w5.heap.size + 1 + 1) (w5.heap.size + 1 + 1 + 1) (by omega) (by omega) (by omega) (by omega) (by omega) (by omega) (by omega) (by omega) (by omega) (by omega) (by omega) (by omega) (by omega) (by omega) ⟩
        · refine ⟨_, (by simp only [List.getElem?_toArray, List.getElem?_cons_succ, List.getElem?_cons_zero]; rfl), ?_⟩
          unfold StepAt
          intro K hK
          go_simp
          refine hK.out _ _ (HS6.out _ (bAl (bAl (bAl (bD1 (Below.refl w5.heap.size w5)) _) _) _)) ?_
          clear hK K
          try simp only [Act.put, List.setIfInBounds_toArray, List.set_cons_zero, List.set_cons_succ]
          refine HeadW.some_ [6] (by kernel_rfl) (fun i hi => ?_)
          simp only [List.mem_cons, List.mem_nil_iff, or_false] at hi
          subst hi
          refine ⟨_, (by simp only [List.getElem?_toArray, List.getElem?_cons_succ, List.getElem?_cons_zero]; rfl), ?_⟩
          unfold StepAt
          intro K hK
          go_simp
          refine hK.out _ _ (HS6.out _ (bAl (bAl (bAl (bAl (bD1 (Below.refl w5.heap.size w5)) _) _) _) _)) ?_
          clear hK K
          try simp only [Act.put, List.setIfInBounds_toArray, List.set_cons_zero, List.set_cons_succ]
          refine HeadW.one (i := 8) (o := ?oi8) ?hi8 (by kernel_rfl) ?st8
          case hi8 => simp only [List.getElem?_toArray, List.getElem?_cons_succ, List.getElem?_cons_zero]; rfl
          case st8 =>
          intro K hK
          go_simp
          try dsimp only
          refine hK.out _ _ (HS6.out _ (by first | exact bAl (bAl (bAl (bAl (bD1 (Below.refl w5.heap.size w5)) _) _) _) _ | exact bD1 (bAl (bAl (bAl (bAl (Below.refl w5.heap.size w5) _) _) _) _))) ?_
          clear hK K
          try simp only [Act.put, List.setIfInBounds_toArray, List.set_cons_zero, List.set_cons_succ]
          refine HeadW.one (i := 9) (o := ?oi9) ?hi9 (by kernel_rfl) ?st9
          case hi9 => simp only [List.getElem?_toArray, List.getElem?_cons_succ, List.getElem?_cons_zero]; rfl
          case st9 =>
          intro K hK
          go_simp
          try dsimp only
          refine hK.out _ _ (HS6.out _ (by first | exact bAl (bAl (bAl (bAl (bD1 (Below.refl w5.heap.size w5)) _) _) _) _ | exact bD1 (bAl (bAl (bAl (bAl (Below.refl w5.heap.size w5) _) _) _) _))) ?_
          clear hK K
          try simp only [Act.put, List.setIfInBounds_toArray, List.set_cons_zero, List.set_cons_succ]
          refine HeadW.one (i := 10) (o := ?oi10) ?hi10 (by kernel_rfl) ?st10
          case hi10 => simp only [List.getElem?_toArray, List.getElem?_cons_succ, List.getElem?_cons_zero]; rfl
          case st10 =>
          intro K hK
          go_simp
          try dsimp only
          refine hK.out _ _ (HS6.out _ (by first | exact bAl (bAl (bAl (bAl (bD1 (Below.refl w5.heap.size w5)) _) _) _) _ | exact bD1 (bAl (bAl (bAl (bAl (Below.refl w5.heap.size w5) _) _) _) _))) ?_
          clear hK K
          try simp only [Act.put, List.setIfInBounds_toArray, List.set_cons_zero, List.set_cons_succ]
          refine HeadW.done (by kernel_rfl) ?_
          go_wp2_with fail
          go_meet
          case rel => exact ⟨(w5.heap.size), (w5.heap.size + 1), (w5.heap.size + 1 + 1 + 1), (w5.heap.size + 1 + 1), rfl, rfl, rfl, rfl, HREL.out (w5.heap.size) (w5.heap.size + 1) (w5.heap.size + 1 + 1 + 1) (w5.heap.size + 1 + 1) (by omega) (by omega) (by omega) (by omega) (by omega) (by omega) (by omega) (by omega) (by omega) (by omega) (by omega) (by omega) (by omega) (by omega) ⟩
      · refine ⟨_, (by simp only [List.getElem?_toArray, List.getElem?_cons_succ, List.getElem?_cons_zero]; rfl), ?_⟩
        unfold StepAt
        intro K hK
        go_simp
        refine hK.out _ _ (HS6.out _ (bAl (bAl (bD1 (Below.refl w5.heap.size w5)) _) _)) ?_
        clear hK K
        try simp only [Act.put, List.setIfInBounds_toArray, List.set_cons_zero, List.set_cons_succ]
        refine HeadW.some_ [5, 7] (by kernel_rfl) (fun i hi => ?_)
        simp only [List.mem_cons, List.mem_nil_iff, or_false] at hi
        rcases hi with rfl | rfl
        · refine ⟨_, (by simp only [List.getElem?_toArray, List.getElem?_cons_succ, List.getElem?_cons_zero]; rfl), ?_⟩
          unfold StepAt
          intro K hK
          go_simp
          refine hK.out _ _ (HS6.out _ (bAl (bAl (bAl (bD1 (Below.refl w5.heap.size w5)) _) _) _)) ?_
          clear hK K
          try simp only [Act.put, List.setIfInBounds_toArray, List.set_cons_zero, List.set_cons_succ]
          refine HeadW.some_ [7] (by kernel_rfl) (fun i hi => ?_)
          simp only [List.mem_cons, List.mem_nil_iff, or_false] at hi
          subst hi
          refine ⟨_, (by simp only [List.getElem?_toArray, List.getElem?_cons_succ, List.getElem?_cons_zero]; rfl), ?_⟩
          unfold StepAt
          intro K hK
          go_simp
          refine hK.out _ _ (HS6.out _ (bAl (bAl (bAl (bAl (bD1 (Below.refl w5.heap.size w5)) _) _) _) _)) ?_
          clear hK K
          try simp only [Act.put, List.setIfInBounds_toArray, List.set_cons_zero, List.set_cons_succ]
          refine HeadW.one (i := 8) (o := ?oi11) ?hi11 (by kernel_rfl) ?st11
          case hi11 => simp only [List.getElem?_toArray, List.getElem?_cons_succ, List.getElem?_cons_zero]; rfl
          case st11 =>
          intro K hK
          go_simp
          try dsimp only
          refine hK.out _ _ (HS6.out _ (by first | exact bAl (bAl (bAl (bAl (bD1 (Below.refl w5.heap.size w5)) _) _) _) _ | exact bD1 (bAl (bAl (bAl (bAl (Below.refl w5.heap.size w5) _) _) _) _))) ?_
          clear hK K
          try simp only [Act.put, List.setIfInBounds_toArray, List.set_cons_zero, List.set_cons_succ]
          refine HeadW.one (i := 9) (o := ?oi12) ?hi12 (by kernel_rfl) ?st12
          case hi12 => simp only [List.getElem?_toArray, List.getElem?_cons_succ, List.getElem?_cons_zero]; rfl
          case st12 =>
          intro K hK
          go_simp
          try dsimp only
          refine hK.out _ _ (HS6.out _ (by first | exact bAl (bAl (bAl (bAl (bD1 (Below.refl w5.heap.size w5)) _) _) _) _ | exact bD1 (bAl (bAl (bAl (bAl (Below.refl w5.heap.size w5) _) _) _) _))) ?_
          clear hK K
          try simp only [Act.put, List.setIfInBounds_toArray, List.set_cons_zero, List.set_cons_succ]
          refine HeadW.one (i := 10) (o := ?oi13) ?hi13 (by kernel_rfl) ?st13
          case hi13 => simp only [List.getElem?_toArray, List.getElem?_cons_succ, List.getElem?_cons_zero]; rfl
          case st13 =>
          intro K hK
          go_simp
          try dsimp only
          refine hK.out _ _ (HS6.out _ (by first | exact bAl (bAl (bAl (bAl (bD1 (Below.refl w5.heap.size w5)) _) _) _) _ | exact bD1 (bAl (bAl (bAl (bAl (Below.refl w5.heap.size w5) _) _) _) _))) ?_
          clear hK K
          try simp only [Act.put, List.setIfInBounds_toArray, List.set_cons_zero, List.set_cons_succ]
          refine HeadW.done (by kernel_rfl) ?_
          go_wp2_with fail
          go_meet
          case rel => exact ⟨(w5.heap.size), (w5.heap.size + 1 + 1), (w5.heap.size + 1), (w5.heap.size + 1 + 1 + 1), rfl, rfl, rfl, rfl, HREL.out (w5.heap.size) (w5.heap.size + 1 + 1) (w5.heap.size + 1) (w5.heap.size + 1 + 1 + 1) (by omega) (by omega) (by omega) (by omega) (by omega) (by omega) (by omega) (by omega) (by omega) (by omega) (by omega) (by omega) (by omega) (by omega) ⟩
        · refine ⟨_, (by simp only [List.getElem?_toArray, List.getElem?_cons_succ, List.getElem?_cons_zero]; rfl), ?_⟩
          unfold StepAt
          intro K hK
          go_simp
          refine hK.out _ _ (HS6.out _ (bAl (bAl (bAl (bD1 (Below.refl w5.heap.size w5)) _) _) _)) ?_
          clear hK K
          try simp only [Act.put, List.setIfInBounds_toArray, List.set_cons_zero, List.set_cons_succ]
          refine HeadW.some_ [5] (by kernel_rfl) (fun i hi => ?_)
          simp only [List.mem_cons, List.mem_nil_iff, or_false] at hi
          subst hi
          refine ⟨_, (by simp only [List.getElem?_toArray, List.getElem?_cons_succ, List.getElem?_cons_zero]; rfl), ?_⟩
          unfold StepAt
          intro K hK
          go_simp
          refine hK.out _ _ (HS6.out _ (bAl (bAl (bAl (bAl (bD1 (Below.refl w5.heap.size w5)) _) _) _) _)) ?_
          clear hK K
          try simp only [Act.put, List.setIfInBounds_toArray, List.set_cons_zero, List.set_cons_succ]
          refine HeadW.one (i := 8) (o := ?oi14) ?hi14 (by kernel_rfl) ?st14
          case hi14 => simp only [List.getElem?_toArray, List.getElem?_cons_succ, List.getElem?_cons_zero]; rfl
          case st14 =>
          intro K hK
          go_simp
          try dsimp only
          refine hK.out _ _ (HS6.out _ (by first | exact bAl (bAl (bAl (bAl (bD1 (Below.refl w5.heap.size w5)) _) _) _) _ | exact bD1 (bAl (bAl (bAl (bAl (Below.refl w5.heap.size w5) _) _) _) _))) ?_
          clear hK K
          try simp only [Act.put, List.setIfInBounds_toArray, List.set_cons_zero, List.set_cons_succ]
          refine HeadW.one (i := 9) (o := ?oi15) ?hi15 (by kernel_rfl) ?st15
          case hi15 => simp only [List.getElem?_toArray, List.getElem?_cons_succ, List.getElem?_cons_zero]; rfl
          case st15 =>
          intro K hK
          go_simp
          try dsimp only
          refine hK.out _ _ (HS6.out _ (by first | exact bAl (bAl (bAl (bAl (bD1 (Below.refl w5.heap.size w5)) _) _) _) _ | exact bD1 (bAl (bAl (bAl (bAl (Below.refl w5.heap.size w5) _) _) _) _))) ?_
          clear hK K
          try simp only [Act.put, List.setIfInBounds_toArray, List.set_cons_zero, List.set_cons_succ]
          refine HeadW.one (i := 10) (o := ?oi16) ?hi16 (by kernel_rfl) ?st16
          case hi16 => simp only [List.getElem?_toArray, List.getElem?_cons_succ, List.getElem?_cons_zero]; rfl
          case st16 =>
          intro K hK
          go_simp
          try dsimp only
          refine hK.out _ _ (HS6.out _ (by first | exact bAl (bAl (bAl (bAl (bD1 (Below.refl w5.heap.size w5)) _) _) _) _ | exact bD1 (bAl (bAl (bAl (bAl (Below.refl w5.heap.size w5) _) _) _) _))) ?_
          clear hK K
          try simp only [Act.put, List.setIfInBounds_toArray, List.set_cons_zero, List.set_cons_succ]
          refine HeadW.done (by kernel_rfl) ?_
          go_wp2_with fail
          go_meet
          case rel => exact ⟨(w5.heap.size), (w5.heap.size + 1 + 1 + 1), (w5.heap.size + 1), (w5.heap.size + 1 + 1), rfl, rfl, rfl, rfl, HREL.out (w5.heap.size) (w5.heap.size + 1 + 1 + 1) (w5.heap.size + 1) (w5.heap.size + 1 + 1) (by omega) (by omega) (by omega) (by omega) (by omega) (by omega) (by omega) (by omega) (by omega) (by omega) (by omega) (by omega) (by omega) (by omega) ⟩
      · refine ⟨_, (by simp only [List.getElem?_toArray, List.getElem?_cons_succ, List.getElem?_cons_zero]; rfl), ?_⟩
        unfold StepAt
        intro K hK
        go_simp
        refine hK.out _ _ (HS6.out _ (bAl (bAl (bD1 (Below.refl w5.heap.size w5)) _) _)) ?_
        clear hK K
        try simp only [Act.put, List.setIfInBounds_toArray, List.set_cons_zero, List.set_cons_succ]
        refine HeadW.some_ [5, 6] (by kernel_rfl) (fun i hi => ?_)
        simp only [List.mem_cons, List.mem_nil_iff, or_false] at hi
        rcases hi with rfl | rfl
        · refine ⟨_, (by simp only [List.getElem?_toArray, List.getElem?_cons_succ, List.getElem?_cons_zero]; rfl), ?_⟩
          unfold StepAt
          intro K hK
          go_simp
          refine hK.out _ _ (HS6.out _ (bAl (bAl (bAl (bD1 (Below.refl w5.heap.size w5)) _) _) _)) ?_
          clear hK K
          try simp only [Act.put, List.setIfInBounds_toArray, List.set_cons_zero, List.set_cons_succ]
          refine HeadW.some_ [6] (by kernel_rfl) (fun i hi => ?_)
          simp only [List.mem_cons, List.mem_nil_iff, or_false] at hi
          subst hi
          refine ⟨_, (by simp only [List.getElem?_toArray, List.getElem?_cons_succ, List.getElem?_cons_zero]; rfl), ?_⟩
          unfold StepAt
          intro K hK
          go_simp
          refine hK.out _ _ (HS6.out _ (bAl (bAl (bAl (bAl (bD1 (Below.refl w5.heap.size w5)) _) _) _) _)) ?_
          clear hK K
          try simp only [Act.put, List.setIfInBounds_toArray, List.set_cons_zero, List.set_cons_succ]
          refine HeadW.one (i := 8) (o := ?oi17) ?hi17 (by kernel_rfl) ?st17
          case hi17 => simp only [List.getElem?_toArray, List.getElem?_cons_succ, List.getElem?_cons_zero]; rfl
          case st17 =>
          intro K hK
          go_simp
          try dsimp only
          refine hK.out _ _ (HS6.out _ (by first | exact bAl (bAl (bAl (bAl (bD1 (Below.refl w5.heap.size w5)) _) _) _) _ | exact bD1 (bAl (bAl (bAl (bAl (Below.refl w5.heap.size w5) _) _) _) _))) ?_
          clear hK K
          try simp only [Act.put, List.setIfInBounds_toArray, List.set_cons_zero, List.set_cons_succ]
          refine HeadW.one (i := 9) (o := ?oi18) ?hi18 (by kernel_rfl) ?st18
          case hi18 => simp only [List.getElem?_toArray, List.getElem?_cons_succ, List.getElem?_cons_zero]; rfl
          case st18 =>
          intro K hK
          go_simp
          try dsimp only
          refine hK.out _ _ (HS6.out _ (by first | exact bAl (bAl (bAl (bAl (bD1 (Below.refl w5.heap.size w5)) _) _) _) _ | exact bD1 (bAl (bAl (bAl (bAl (Below.refl w5.heap.size w5) _) _) _) _))) ?_
          clear hK K
          try simp only [Act.put, List.setIfInBounds_toArray, List.set_cons_zero, List.set_cons_succ]
          refine HeadW.one (i := 10) (o := ?oi19) ?hi19 (by kernel_rfl) ?st19
          case hi19 => simp only [List.getElem?_toArray, List.getElem?_cons_succ, List.getElem?_cons_zero]; rfl
          case st19 =>
          intro K hK
          go_simp
          try dsimp only
          refine hK.out _ _ (HS6.out _ (by first | exact bAl (bAl (bAl (bAl (bD1 (Below.refl w5.heap.size w5)) _) _) _) _ | exact bD1 (bAl (bAl (bAl (bAl (Below.refl w5.heap.size w5) _) _) _) _))) ?_
          clear hK K
          try simp only [Act.put, List.setIfInBounds_toArray, List.set_cons_zero, List.set_cons_succ]
          refine HeadW.done (by kernel_rfl) ?_
          go_wp2_with fail
          go_meet
          case rel => exact ⟨(w5.heap.size), (w5.heap.size + 1 + 1), (w5.heap.size + 1 + 1 + 1), (w5.heap.size + 1), rfl, rfl, rfl, rfl, HREL.out (w5.heap.size) (w5.heap.size + 1 + 1) (w5.heap.size + 1 + 1 + 1) (w5.heap.size + 1) (by omega) (by omega) (by omega) (by omega) (by omega) (by omega) (by omega) (by omega) (by omega) (by omega) (by omega) (by omega) (by omega) (by omega) ⟩
        · refine ⟨_, (by simp only [List.getElem?_toArray, List.getElem?_cons_succ, List.getElem?_cons_zero]; rfl), ?_⟩
          unfold StepAt
          intro K hK
          go_simp
          refine hK.out _ _ (HS6.out _ (bAl (bAl (bAl (bD1 (Below.refl w5.heap.size w5)) _) _) _)) ?_
          clear hK K
          try simp only [Act.put, List.setIfInBounds_toArray, List.set_cons_zero, List.set_cons_succ]
          refine HeadW.some_ [5] (by kernel_rfl) (fun i hi => ?_)
          simp only [List.mem_cons, List.mem_nil_iff, or_false] at hi
          subst hi
          refine ⟨_, (by simp only [List.getElem?_toArray, List.getElem?_cons_succ, List.getElem?_cons_zero]; rfl), ?_⟩
          unfold StepAt
          intro K hK
          go_simp
          refine hK.out _ _ (HS6.out _ (bAl (bAl (bAl (bAl (bD1 (Below.refl w5.heap.size w5)) _) _) _) _)) ?_
          clear hK K
          try simp only [Act.put, List.setIfInBounds_toArray, List.set_cons_zero, List.set_cons_succ]
          refine HeadW.one (i := 8) (o := ?oi20) ?hi20 (by kernel_rfl) ?st20
          case hi20 => simp only [List.getElem?_toArray, List.getElem?_cons_succ, List.getElem?_cons_zero]; rfl
          case st20 =>
          intro K hK
          go_simp
          try dsimp only
          refine hK.out _ _ (HS6.out _ (by first | exact bAl (bAl (bAl (bAl (bD1 (Below.refl w5.heap.size w5)) _) _) _) _ | exact bD1 (bAl (bAl (bAl (bAl (Below.refl w5.heap.size w5) _) _) _) _))) ?_
          clear hK K
          try simp only [Act.put, List.setIfInBounds_toArray, List.set_cons_zero, List.set_cons_succ]
          refine HeadW.one (i := 9) (o := ?oi21) ?hi21 (by kernel_rfl) ?st21
          case hi21 => simp only [List.getElem?_toArray, List.getElem?_cons_succ, List.getElem?_cons_zero]; rfl
          case st21 =>
          intro K hK
          go_simp
          try dsimp only
          refine hK.out _ _ (HS6.out _ (by first | exact bAl (bAl (bAl (bAl (bD1 (Below.refl w5.heap.size w5)) _) _) _) _ | exact bD1 (bAl (bAl (bAl (bAl (Below.refl w5.heap.size w5) _) _) _) _))) ?_
          clear hK K
          try simp only [Act.put, List.setIfInBounds_toArray, List.set_cons_zero, List.set_cons_succ]
          refine HeadW.one (i := 10) (o := ?oi22) ?hi22 (by kernel_rfl) ?st22
          case hi22 => simp only [List.getElem?_toArray, List.getElem?_cons_succ, List.getElem?_cons_zero]; rfl
          case st22 =>
          intro K hK
          go_simp
          try dsimp only
          refine hK.out _ _ (HS6.out _ (by first | exact bAl (bAl (bAl (bAl (bD1 (Below.refl w5.heap.size w5)) _) _) _) _ | exact bD1 (bAl (bAl (bAl (bAl (Below.refl w5.heap.size w5) _) _) _) _))) ?_
          clear hK K
          try simp only [Act.put, List.setIfInBounds_toArray, List.set_cons_zero, List.set_cons_succ]
          refine HeadW.done (by kernel_rfl) ?_
          go_wp2_with fail
          go_meet
          case rel => exact ⟨(w5.heap.size), (w5.heap.size + 1 + 1 + 1), (w5.heap.size + 1 + 1), (w5.heap.size + 1), rfl, rfl, rfl, rfl, HREL.out (w5.heap.size) (w5.heap.size + 1 + 1 + 1) (w5.heap.size + 1 + 1) (w5.heap.size + 1) (by omega) (by omega) (by omega) (by omega) (by omega) (by omega) (by omega) (by omega) (by omega) (by omega) (by omega) (by omega) (by omega) (by omega) ⟩
    · refine ⟨_, (by simp only [List.getElem?_toArray, List.getElem?_cons_succ, List.getElem?_cons_zero]; rfl), ?_⟩
      unfold StepAt
      intro K hK
      go_simp
      refine hK.out _ _ (HS6.out _ (bAl (bD1 (Below.refl w5.heap.size w5)) _)) ?_
      clear hK K
      try simp only [Act.put, List.setIfInBounds_toArray, List.set_cons_zero, List.set_cons_succ]
      refine HeadW.some_ [4, 6, 7] (by kernel_rfl) (fun i hi => ?_)
      simp only [List.mem_cons, List.mem_nil_iff, or_false] at hi
      rcases hi with rfl | rfl | rfl
      · refine ⟨_, (by simp only [List.getElem?_toArray, List.getElem?_cons_succ, List.getElem?_cons_zero]; rfl), ?_⟩
        unfold StepAt
        intro K hK
        go_simp
        refine hK.out _ _ (HS6.out _ (bAl (bAl (bD1 (Below.refl w5.heap.size w5)) _) _)) ?_
        clear hK K
        try simp only [Act.put, List.setIfInBounds_toArray, List.set_cons_zero, List.set_cons_succ]
        refine HeadW.some_ [6, 7] (by kernel_rfl) (fun i hi => ?_)
        simp only [List.mem_cons, List.mem_nil_iff, or_false] at hi
        rcases hi with rfl | rfl
        · refine ⟨_, (by simp only [List.getElem?_toArray, List.getElem?_cons_succ, List.getElem?_cons_zero]; rfl), ?_⟩
          unfold StepAt
          intro K hK
          go_simp
          refine hK.out _ _ (HS6.out _ (bAl (bAl (bAl (bD1 (Below.refl w5.heap.size w5)) _) _) _)) ?_
          clear hK K
          try simp only [Act.put, List.setIfInBounds_toArray, List.set_cons_zero, List.set_cons_succ]
          refine HeadW.some_ [7] (by kernel_rfl) (fun i hi => ?_)
          simp only [List.mem_cons, List.mem_nil_iff, or_false] at hi
          subst hi
          refine ⟨_, (by simp only [List.getElem?_toArray, List.getElem?_cons_succ, List.getElem?_cons_zero]; rfl), ?_⟩
          unfold StepAt
          intro K hK
          go_simp
          refine hK.out _ _ (HS6.out _ (bAl (bAl (bAl (bAl (bD1 (Below.refl w5.heap.size w5)) _) _) _) _)) ?_
          clear hK K
          try simp only [Act.put, List.setIfInBounds_toArray, List.set_cons_zero, List.set_cons_succ]
          refine HeadW.one (i := 8) (o := ?oi23) ?hi23 (by kernel_rfl) ?st23
          case hi23 => simp only [List.getElem?_toArray, List.getElem?_cons_succ, List.getElem?_cons_zero]; rfl
          case st23 =>
          intro K hK
          go_simp
          try dsimp only
          refine hK.out _ _ (HS6.out _ (by first | exact bAl (bAl (bAl (bAl (bD1 (Below.refl w5.heap.size w5)) _) _) _) _ | exact bD1 (bAl (bAl (bAl (bAl (Below.refl w5.heap.size w5) _) _) _) _))) ?_
          clear hK K
          try simp only [Act.put, List.setIfInBounds_toArray, List.set_cons_zero, List.set_cons_succ]
          refine HeadW.one (i := 9) (o := ?oi24) ?hi24 (by kernel_rfl) ?st24
          case hi24 => simp only [List.getElem?_toArray, List.getElem?_cons_succ, List.getElem?_cons_zero]; rfl
          case st24 =>
          intro K hK
          go_simp
          try dsimp only
          refine hK.out _ _ (HS6.out _ (by first | exact bAl (bAl (bAl (bAl (bD1 (Below.refl w5.heap.size w5)) _) _) _) _ | exact bD1 (bAl (bAl (bAl (bAl (Below.refl w5.heap.size w5) _) _) _) _))) ?_
          clear hK K
          try simp only [Act.put, List.setIfInBounds_toArray, List.set_cons_zero, List.set_cons_succ]
          refine HeadW.one (i := 10) (o := ?oi25) ?hi25 (by kernel_rfl) ?st25
          case hi25 => simp only [List.getElem?_toArray, List.getElem?_cons_succ, List.getElem?_cons_zero]; rfl
          case st25 =>
          intro K hK
          go_simp
          try dsimp only
          refine hK.out _ _ (HS6.out _ (by first | exact bAl (bAl (bAl (bAl (bD1 (Below.refl w5.heap.size w5)) _) _) _) _ | exact bD1 (bAl (bAl (bAl (bAl (Below.refl w5.heap.size w5) _) _) _) _))) ?_
          clear hK K
          try simp only [Act.put, List.setIfInBounds_toArray, List.set_cons_zero, List.set_cons_succ]
          refine HeadW.done (by kernel_rfl) ?_
          go_wp2_with fail
          go_meet
          case rel => exact ⟨(w5.heap.size + 1), (w5.heap.size), (w5.heap.size + 1 + 1), (w5.heap.size + 1 + 1 + 1), rfl, rfl, rfl, rfl, HREL.out (w5.heap.size + 1) (w5.heap.size) (w5.heap.size + 1 + 1) (w5.heap.size + 1 + 1 + 1) (by omega) (by omega) (by omega) (by omega) (by omega) (by omega) (by omega) (by omega) (by omega) (by omega) (by omega) (by omega) (by omega) (by omega) ⟩
        · refine ⟨_, (by simp only [List.getElem?_toArray, List.getElem?_cons_succ, List.getElem?_cons_zero]; rfl), ?_⟩
          unfold StepAt
          intro K hK
          go_simp
          refine hK.out _ _ (HS6.out _ (bAl (bAl (bAl (bD1 (Below.refl w5.heap.size w5)) _) _) _)) ?_
          clear hK K
          try simp only [Act.put, List.setIfInBounds_toArray, List.set_cons_zero, List.set_cons_succ]
          refine HeadW.some_ [6] (by kernel_rfl) (fun i hi => ?_)
          simp only [List.mem_cons, List.mem_nil_iff, or_false] at hi
          subst hi
          refine ⟨_, (by simp only [List.getElem?_toArray, List.getElem?_cons_succ, List.getElem?_cons_zero]; rfl), ?_⟩
          unfold StepAt
          intro K hK
          go_simp
          refine hK.out _ _ (HS6.out _ (bAl (bAl (bAl (bAl (bD1 (Below.refl w5.heap.size w5)) _) _) _) _)) ?_
          clear hK K
          try simp only [Act.put, List.setIfInBounds_toArray, List.set_cons_zero, List.set_cons_succ]
          refine HeadW.one (i := 8) (o := ?oi26) ?hi26 (by kernel_rfl) ?st26
          case hi26 => simp only [List.getElem?_toArray, List.getElem?_cons_succ, List.getElem?_cons_zero]; rfl
          case st26 =>
          intro K hK
          go_simp
          try dsimp only
          refine hK.out _ _ (HS6.out _ (by first | exact bAl (bAl (bAl (bAl (bD1 (Below.refl w5.heap.size w5)) _) _) _) _ | exact bD1 (bAl (bAl (bAl (bAl (Below.refl w5.heap.size w5) _) _) _) _))) ?_
          clear hK K
          try simp only [Act.put, List.setIfInBounds_toArray, List.set_cons_zero, List.set_cons_succ]
          refine HeadW.one (i := 9) (o := ?oi27) ?hi27 (by kernel_rfl) ?st27
          case hi27 => simp only [List.getElem?_toArray, List.getElem?_cons_succ, List.getElem?_cons_zero]; rfl
          case st27 =>
          intro K hK
          go_simp
          try dsimp only
          refine hK.out _ _ (HS6.out _ (by first | exact bAl (bAl (bAl (bAl (bD1 (Below.refl w5.heap.size w5)) _) _) _) _ | exact bD1 (bAl (bAl (bAl (bAl (Below.refl w5.heap.size w5) _) _) _) _))) ?_
          clear hK K
          try simp only [Act.put, List.setIfInBounds_toArray, List.set_cons_zero, List.set_cons_succ]
          refine HeadW.one (i := 10) (o := ?oi28) ?hi28 (by kernel_rfl) ?st28
          case hi28 => simp only [List.getElem?_toArray, List.getElem?_cons_succ, List.getElem?_cons_zero]; rfl
          case st28 =>
          intro K hK
          go_simp
          try dsimp only
          refine hK.out _ _ (HS6.out _ (by first | exact bAl (bAl (bAl (bAl (bD1 (Below.refl w5.heap.size w5)) _) _) _) _ | exact bD1 (bAl (bAl (bAl (bAl (Below.refl w5.heap.size w5) _) _) _) _))) ?_
          clear hK K
          try simp only [Act.put, List.setIfInBounds_toArray, List.set_cons_zero, List.set_cons_succ]
          refine HeadW.done (by kernel_rfl) ?_
          go_wp2_with fail
          go_meet
          case rel => exact ⟨(w5.heap.size + 1), (w5.heap.size), (w5.heap.size + 1 + 1 + 1), (w5.heap.size + 1 + 1), rfl, rfl, rfl, rfl, HREL.out (w5.heap.size + 1) (w5.heap.size) (w5.heap.size + 1 + 1 + 1) (w5.heap.size + 1 + 1) (by omega) (by omega) (by omega) (by omega) (by omega) (by omega) (by omega) (by omega) (by omega) (by omega) (by omega) (by omega) (by omega) (by omega) ⟩
      · refine ⟨_, (by simp only [List.getElem?_toArray, List.getElem?_cons_succ, List.getElem?_cons_zero]; rfl), ?_⟩
        unfold StepAt
        intro K hK
        go_simp
        refine hK.out _ _ (HS6.out _ (bAl (bAl (bD1 (Below.refl w5.heap.size w5)) _) _)) ?_
        clear hK K
        try simp only [Act.put, List.setIfInBounds_toArray, List.set_cons_zero, List.set_cons_succ]
        refine HeadW.some_ [4, 7] (by kernel_rfl) (fun i hi => ?_)
        simp only [List.mem_cons, List.mem_nil_iff, or_false] at hi
        rcases hi with rfl | rfl
        · refine ⟨_, (by simp only [List.getElem?_toArray, List.getElem?_cons_succ, List.getElem?_cons_zero]; rfl), ?_⟩
          unfold StepAt
          intro K hK
          go_simp
          refine hK.out _ _ (HS6.out _ (bAl (bAl (bAl (bD1 (Below.refl w5.heap.size w5)) _) _) _)) ?_
          clear hK K
          try simp only [Act.put, List.setIfInBounds_toArray, List.set_cons_zero, List.set_cons_succ]
          refine HeadW.some_ [7] (by kernel_rfl) (fun i hi => ?_)
          simp only [List.mem_cons, List.mem_nil_iff, or_false] at hi
          subst hi
          refine ⟨_, (by simp only [List.getElem?_toArray, List.getElem?_cons_succ, List.getElem?_cons_zero]; rfl), ?_⟩
          unfold StepAt
          intro K hK
          go_simp
          refine hK.out _ _ (HS6.out _ (bAl (bAl (bAl (bAl (bD1 (Below.refl w5.heap.size w5)) _) _) _) _)) ?_
          clear hK K
          try simp only [Act.put, List.setIfInBounds_toArray, List.set_cons_zero, List.set_cons_succ]
          refine HeadW.one (i := 8) (o := ?oi29) ?hi29 (by kernel_rfl) ?st29
          case hi29 => simp only [List.getElem?_toArray, List.getElem?_cons_succ, List.getElem?_cons_zero]; rfl
          case st29 =>
          intro K hK
          go_simp
          try dsimp only
          refine hK.out _ _ (HS6.out _ (by first | exact bAl (bAl (bAl (bAl (bD1 (Below.refl w5.heap.size w5)) _) _) _) _ | exact bD1 (bAl (bAl (bAl (bAl (Below.refl w5.heap.size w5) _) _) _) _))) ?_
          clear hK K
          try simp only [Act.put, List.setIfInBounds_toArray, List.set_cons_zero, List.set_cons_succ]
          refine HeadW.one (i := 9) (o := ?oi30) ?hi30 (by kernel_rfl) ?st30
          case hi30 => simp only [List.getElem?_toArray, List.getElem?_cons_succ, List.getElem?_cons_zero]; rfl
          case st30 =>
          intro K hK
          go_simp
          try dsimp only
          refine hK.out _ _ (HS6.out _ (by first | exact bAl (bAl (bAl (bAl (bD1 (Below.refl w5.heap.size w5)) _) _) _) _ | exact bD1 (bAl (bAl (bAl (bAl (Below.refl w5.heap.size w5) _) _) _) _))) ?_
          clear hK K
          try simp only [Act.put, List.setIfInBounds_toArray, List.set_cons_zero, List.set_cons_succ]
          refine HeadW.one (i := 10) (o := ?oi31) ?hi31 (by kernel_rfl) ?st31
          case hi31 => simp only [List.getElem?_toArray, List.getElem?_cons_succ, List.getElem?_cons_zero]; rfl
          case st31 =>
          intro K hK
          go_simp
          try dsimp only
          refine hK.out _ _ (HS6.out _ (by first | exact bAl (bAl (bAl (bAl (bD1 (Below.refl w5.heap.size w5)) _) _) _) _ | exact bD1 (bAl (bAl (bAl (bAl (Below.refl w5.heap.size w5) _) _) _) _))) ?_
          clear hK K
          try simp only [Act.put, List.setIfInBounds_toArray, List.set_cons_zero, List.set_cons_succ]
          refine HeadW.done (by kernel_rfl) ?_
          go_wp2_with fail
          go_meet
          case rel => exact ⟨(w5.heap.size + 1 + 1), (w5.heap.size), (w5.heap.size + 1), (w5.heap.size + 1 + 1 + 1), rfl, rfl, rfl, rfl, HREL.out (w5.heap.size + 1 + 1) (w5.heap.size) (w5.heap.size + 1) (w5.heap.size + 1 + 1 + 1) (by omega) (by omega) (by omega) (by omega) (by omega) (by omega) (by omega) (by omega) (by omega) (by omega) (by omega) (by omega) (by omega) (by omega) ⟩
        · refine ⟨_, (by simp only [List.getElem?_toArray, List.getElem?_cons_succ, List.getElem?_cons_zero]; rfl), ?_⟩
          unfold StepAt
          intro K hK
          go_simp
          refine hK.out _ _ (HS6.out _ (bAl (bAl (bAl (bD1 (Below.refl w5.heap.size w5)) _) _) _)) ?_
          clear hK K
          try simp only [Act.put, List.setIfInBounds_toArray, List.set_cons_zero, List.set_cons_succ]
          refine HeadW.some_ [4] (by kernel_rfl) (fun i hi => ?_)
          simp only [List.mem_cons, List.mem_nil_iff, or_false] at hi
          subst hi
          refine ⟨_, (by simp only [List.getElem?_toArray, List.getElem?_cons_succ, List.getElem?_cons_zero]; rfl), ?_⟩
          unfold StepAt
          intro K hK
          go_simp
          refine hK.out _ _ (HS6.out _ (bAl (bAl (bAl (bAl (bD1 (Below.refl w5.heap.size w5)) _) _) _) _)) ?_
          clear hK K
          try simp only [Act.put, List.setIfInBounds_toArray, List.set_cons_zero, List.set_cons_succ]
          refine HeadW.one (i := 8) (o := ?oi32) ?hi32 (by kernel_rfl) ?st32
          case hi32 => simp only [List.getElem?_toArray, List.getElem?_cons_succ, List.getElem?_cons_zero]; rfl
          case st32 =>
          intro K hK
          go_simp
          try dsimp only
          refine hK.out _ _ (HS6.out _ (by first | exact bAl (bAl (bAl (bAl (bD1 (Below.refl w5.heap.size w5)) _) _) _) _ | exact bD1 (bAl (bAl (bAl (bAl (Below.refl w5.heap.size w5) _) _) _) _))) ?_
          clear hK K
          try simp only [Act.put, List.setIfInBounds_toArray, List.set_cons_zero, List.set_cons_succ]
          refine HeadW.one (i := 9) (o := ?oi33) ?hi33 (by kernel_rfl) ?st33
          case hi33 => simp only [List.getElem?_toArray, List.getElem?_cons_succ, List.getElem?_cons_zero]; rfl
          case st33 =>
          intro K hK
          go_simp
          try dsimp only
          refine hK.out _ _ (HS6.out _ (by first | exact bAl (bAl (bAl (bAl (bD1 (Below.refl w5.heap.size w5)) _) _) _) _ | exact bD1 (bAl (bAl (bAl (bAl (Below.refl w5.heap.size w5) _) _) _) _))) ?_
          clear hK K
          try simp only [Act.put, List.setIfInBounds_toArray, List.set_cons_zero, List.set_cons_succ]
          refine HeadW.one (i := 10) (o := ?oi34) ?hi34 (by kernel_rfl) ?st34
          case hi34 => simp only [List.getElem?_toArray, List.getElem?_cons_succ, List.getElem?_cons_zero]; rfl
          case st34 =>
          intro K hK
          go_simp
          try dsimp only
          refine hK.out _ _ (HS6.out _ (by first | exact bAl (bAl (bAl (bAl (bD1 (Below.refl w5.heap.size w5)) _) _) _) _ | exact bD1 (bAl (bAl (bAl (bAl (Below.refl w5.heap.size w5) _) _) _) _))) ?_
          clear hK K
          try simp only [Act.put, List.setIfInBounds_toArray, List.set_cons_zero, List.set_cons_succ]
          refine HeadW.done (by kernel_rfl) ?_
          go_wp2_with fail
          go_meet
          case rel => exact ⟨(w5.heap.size + 1 + 1 + 1), (w5.heap.size), (w5.heap.size + 1), (w5.heap.size + 1 + 1), rfl, rfl, rfl, rfl, HREL.out (w5.heap.size + 1 + 1 + 1) (w5.heap.size) (w5.heap.size + 1) (w5.heap.size + 1 + 1) (by omega) (by omega) (by omega) (by omega) (by omega) (by omega) (by omega) (by omega) (by omega) (by omega) (by omega) (by omega) (by omega) (by omega) ⟩
      · refine ⟨_, (by simp only [List.getElem?_toArray, List.getElem?_cons_succ, List.getElem?_cons_zero]; rfl), ?_⟩
        unfold StepAt
        intro K hK
        go_simp
        refine hK.out _ _ (HS6.out _ (bAl (bAl (bD1 (Below.refl w5.heap.size w5)) _) _)) ?_
        clear hK K
        try simp only [Act.put, List.setIfInBounds_toArray, List.set_cons_zero, List.set_cons_succ]
        refine HeadW.some_ [4, 6] (by kernel_rfl) (fun i hi => ?_)
        simp only [List.mem_cons, List.mem_nil_iff, or_false] at hi
        rcases hi with rfl | rfl
        · refine ⟨_, (by simp only [List.getElem?_toArray, List.getElem?_cons_succ, List.getElem?_cons_zero]; rfl), ?_⟩
          unfold StepAt
          intro K hK
          go_simp
          refine hK.out _ _ (HS6.out _ (bAl (bAl (bAl (bD1 (Below.refl w5.heap.size w5)) _) _) _)) ?_
          clear hK K
          try simp only [Act.put, List.setIfInBounds_toArray, List.set_cons_zero, List.set_cons_succ]
          refine HeadW.some_ [6] (by kernel_rfl) (fun i hi => ?_)
          simp only [List.mem_cons, List.mem_nil_iff, or_false] at hi
          subst hi
          refine ⟨_, (by simp only [List.getElem?_toArray, List.getElem?_cons_succ, List.getElem?_cons_zero]; rfl), ?_⟩
          unfold StepAt
          intro K hK
          go_simp
          refine hK.out _ _ (HS6.out _ (bAl (bAl (bAl (bAl (bD1 (Below.refl w5.heap.size w5)) _) _) _) _)) ?_
          clear hK K
          try simp only [Act.put, List.setIfInBounds_toArray, List.set_cons_zero, List.set_cons_succ]
          refine HeadW.one (i := 8) (o := ?oi35) ?hi35 (by kernel_rfl) ?st35
          case hi35 => simp only [List.getElem?_toArray, List.getElem?_cons_succ, List.getElem?_cons_zero]; rfl
          case st35 =>
          intro K hK
          go_simp
          try dsimp only
          refine hK.out _ _ (HS6.out _ (by first | exact bAl (bAl (bAl (bAl (bD1 (Below.refl w5.heap.size w5)) _) _) _) _ | exact bD1 (bAl (bAl (bAl (bAl (Below.refl w5.heap.size w5) _) _) _) _))) ?_
          clear hK K
          try simp only [Act.put, List.setIfInBounds_toArray, List.set_cons_zero, List.set_cons_succ]
          refine HeadW.one (i := 9) (o := ?oi36) ?hi36 (by kernel_rfl) ?st36
          case hi36 => simp only [List.getElem?_toArray, List.getElem?_cons_succ, List.getElem?_cons_zero]; rfl
          case st36 =>
          intro K hK
          go_simp
          try dsimp only
          refine hK.out _ _ (HS6.out _ (by first | exact bAl (bAl (bAl (bAl (bD1 (Below.refl w5.heap.size w5)) _) _) _) _ | exact bD1 (bAl (bAl (bAl (bAl (Below.refl w5.heap.size w5) _) _) _) _))) ?_
          clear hK K
          try simp only [Act.put, List.setIfInBounds_toArray, List.set_cons_zero, List.set_cons_succ]
          refine HeadW.one (i := 10) (o := ?oi37) ?hi37 (by kernel_rfl) ?st37
          case hi37 => simp only [List.getElem?_toArray, List.getElem?_cons_succ, List.getElem?_cons_zero]; rfl
          case st37 =>
          intro K hK
          go_simp
          try dsimp only
          refine hK.out _ _ (HS6.out _ (by first | exact bAl (bAl (bAl (bAl (bD1 (Below.refl w5.heap.size w5)) _) _) _) _ | exact bD1 (bAl (bAl (bAl (bAl (Below.refl w5.heap.size w5) _) _) _) _))) ?_
          clear hK K
          try simp only [Act.put, List.setIfInBounds_toArray, List.set_cons_zero, List.set_cons_succ]
          refine HeadW.done (by kernel_rfl) ?_
          go_wp2_with fail
          go_meet
          case rel => exact ⟨(w5.heap.size + 1 + 1), (w5.heap.size), (w5.heap.size + 1 + 1 + 1), (w5.heap.size + 1), rfl, rfl, rfl, rfl, HREL.out (w5.heap.size + 1 + 1) (w5.heap.size) (w5.heap.size + 1 + 1 + 1) (w5.heap.size + 1) (by omega) (by omega) (by omega) (by omega) (by omega) (by omega) (by omega) (by omega) (by omega) (by omega) (by omega) (by omega) (by omega) (by omega) ⟩
        · refine ⟨_, (by simp only [List.getElem?_toArray, List.getElem?_cons_succ, List.getElem?_cons_zero]; rfl), ?_⟩
          unfold StepAt
          intro K hK
          go_simp
          refine hK.out _ _ (HS6.out _ (bAl (bAl (bAl (bD1 (Below.refl w5.heap.size w5)) _) _) _)) ?_
          clear hK K
          try simp only [Act.put, List.setIfInBounds_toArray, List.set_cons_zero, List.set_cons_succ]
          refine HeadW.some_ [4] (by kernel_rfl) (fun i hi => ?_)
          simp only [List.mem_cons, List.mem_nil_iff, or_false] at hi
          subst hi
          refine ⟨_, (by simp only [List.getElem?_toArray, List.getElem?_cons_succ, List.getElem?_cons_zero]; rfl), ?_⟩
          unfold StepAt
          intro K hK
          go_simp
          refine hK.out _ _ (HS6.out _ (bAl (bAl (bAl (bAl (bD1 (Below.refl w5.heap.size w5)) _) _) _) _)) ?_
          clear hK K
          try simp only [Act.put, List.setIfInBounds_toArray, List.set_cons_zero, List.set_cons_succ]
          refine HeadW.one (i := 8) (o := ?oi38) ?hi38 (by kernel_rfl) ?st38
          case hi38 => simp only [List.getElem?_toArray, List.getElem?_cons_succ, List.getElem?_cons_zero]; rfl
          case st38 =>
          intro K hK
          go_simp
          try dsimp only
          refine hK.out _ _ (HS6.out _ (by first | exact bAl (bAl (bAl (bAl (bD1 (Below.refl w5.heap.size w5)) _) _) _) _ | exact bD1 (bAl (bAl (bAl (bAl (Below.refl w5.heap.size w5) _) _) _) _))) ?_
          clear hK K
          try simp only [Act.put, List.setIfInBounds_toArray, List.set_cons_zero, List.set_cons_succ]
          refine HeadW.one (i := 9) (o := ?oi39) ?hi39 (by kernel_rfl) ?st39
          case hi39 => simp only [List.getElem?_toArray, List.getElem?_cons_succ, List.getElem?_cons_zero]; rfl
          case st39 =>
          intro K hK
          go_simp
          try dsimp only
          refine hK.out _ _ (HS6.out _ (by first | exact bAl (bAl (bAl (bAl (bD1 (Below.refl w5.heap.size w5)) _) _) _) _ | exact bD1 (bAl (bAl (bAl (bAl (Below.refl w5.heap.size w5) _) _) _) _))) ?_
          clear hK K
          try simp only [Act.put, List.setIfInBounds_toArray, List.set_cons_zero, List.set_cons_succ]
          refine HeadW.one (i := 10) (o := ?oi40) ?hi40 (by kernel_rfl) ?st40
          case hi40 => simp only [List.getElem?_toArray, List.getElem?_cons_succ, List.getElem?_cons_zero]; rfl
          case st40 =>
          intro K hK
          go_simp
          try dsimp only
          refine hK.out _ _ (HS6.out _ (by first | exact bAl (bAl (bAl (bAl (bD1 (Below.refl w5.heap.size w5)) _) _) _) _ | exact bD1 (bAl (bAl (bAl (bAl (Below.refl w5.heap.size w5) _) _) _) _))) ?_
          clear hK K
          try simp only [Act.put, List.setIfInBounds_toArray, List.set_cons_zero, List.set_cons_succ]
          refine HeadW.done (by kernel_rfl) ?_
          go_wp2_with fail
          go_meet
          case rel => exact ⟨(w5.heap.size + 1 + 1 + 1), (w5.heap.size), (w5.heap.size + 1 + 1), (w5.heap.size + 1), rfl, rfl, rfl, rfl, HREL.out (w5.heap.size + 1 + 1 + 1) (w5.heap.size) (w5.heap.size + 1 + 1) (w5.heap.size + 1) (by omega) (by omega) (by omega) (by omega) (by omega) (by omega) (by omega) (by omega) (by omega) (by omega) (by omega) (by omega) (by omega) (by omega) ⟩
    · refine ⟨_, (by simp only [List.getElem?_toArray, List.getElem?_cons_succ, List.getElem?_cons_zero]; rfl), ?_⟩
      unfold StepAt
      intro K hK
      go_simp
      refine hK.out _ _ (HS6.out _ (bAl (bD1 (Below.refl w5.heap.size w5)) _)) ?_
      clear hK K
      try simp only [Act.put, List.setIfInBounds_toArray, List.set_cons_zero, List.set_cons_succ]
      refine HeadW.some_ [4, 5, 7] (by kernel_rfl) (fun i hi => ?_)
      simp only [List.mem_cons, List.mem_nil_iff, or_false] at hi
      rcases hi with rfl | rfl | rfl
      · refine ⟨_, (by simp only [List.getElem?_toArray, List.getElem?_cons_succ, List.getElem?_cons_zero]; rfl), ?_⟩
        unfold StepAt
        intro K hK
        go_simp
        refine hK.out _ _ (HS6.out _ (bAl (bAl (bD1 (Below.refl w5.heap.size w5)) _) _)) ?_
        clear hK K
        try simp only [Act.put, List.setIfInBounds_toArray, List.set_cons_zero, List.set_cons_succ]
        refine HeadW.some_ [5, 7] (by kernel_rfl) (fun i hi => ?_)
        simp only [List.mem_cons, List.mem_nil_iff, or_false] at hi
        rcases hi with rfl | rfl
        · refine ⟨_, (by simp only [List.getElem?_toArray, List.getElem?_cons_succ, List.getElem?_cons_zero]; rfl), ?_⟩
          unfold StepAt
          intro K hK
          go_simp
          refine hK.out _ _ (HS6.out _ (bAl (bAl (bAl (bD1 (Below.refl w5.heap.size w5)) _) _) _)) ?_
          clear hK K
          try simp only [Act.put, List.setIfInBounds_toArray, List.set_cons_zero, List.set_cons_succ]
          refine HeadW.some_ [7] (by kernel_rfl) (fun i hi => ?_)
          simp only [List.mem_cons, List.mem_nil_iff, or_false] at hi
          subst hi
          refine ⟨_, (by simp only [List.getElem?_toArray, List.getElem?_cons_succ, List.getElem?_cons_zero]; rfl), ?_⟩
          unfold StepAt
          intro K hK
          go_simp
          refine hK.out _ _ (HS6.out _ (bAl (bAl (bAl (bAl (bD1 (Below.refl w5.heap.size w5)) _) _) _) _)) ?_
          clear hK K
          try simp only [Act.put, List.setIfInBounds_toArray, List.set_cons_zero, List.set_cons_succ]
          refine HeadW.one (i := 8) (o := ?oi41) ?hi41 (by kernel_rfl) ?st41
          case hi41 => simp only [List.getElem?_toArray, List.getElem?_cons_succ, List.getElem?_cons_zero]; rfl
          case st41 =>
          intro K hK
          go_simp
          try dsimp only
          refine hK.out _ _ (HS6.out _ (by first | exact bAl (bAl (bAl (bAl (bD1 (Below.refl w5.heap.size w5)) _) _) _) _ | exact bD1 (bAl (bAl (bAl (bAl (Below.refl w5.heap.size w5) _) _) _) _))) ?_
          clear hK K
          try simp only [Act.put, List.setIfInBounds_toArray, List.set_cons_zero, List.set_cons_succ]
          refine HeadW.one (i := 9) (o := ?oi42) ?hi42 (by kernel_rfl) ?st42
          case hi42 => simp only [List.getElem?_toArray, List.getElem?_cons_succ, List.getElem?_cons_zero]; rfl
          case st42 =>
          intro K hK
          go_simp
          try dsimp only
          refine hK.out _ _ (HS6.out _ (by first | exact bAl (bAl (bAl (bAl (bD1 (Below.refl w5.heap.size w5)) _) _) _) _ | exact bD1 (bAl (bAl (bAl (bAl (Below.refl w5.heap.size w5) _) _) _) _))) ?_
          clear hK K
          try simp only [Act.put, List.setIfInBounds_toArray, List.set_cons_zero, List.set_cons_succ]
          refine HeadW.one (i := 10) (o := ?oi43) ?hi43 (by kernel_rfl) ?st43
          case hi43 => simp only [List.getElem?_toArray, List.getElem?_cons_succ, List.getElem?_cons_zero]; rfl
          case st43 =>
          intro K hK
          go_simp
          try dsimp only
          refine hK.out _ _ (HS6.out _ (by first | exact bAl (bAl (bAl (bAl (bD1 (Below.refl w5.heap.size w5)) _) _) _) _ | exact bD1 (bAl (bAl (bAl (bAl (Below.refl w5.heap.size w5) _) _) _) _))) ?_
          clear hK K
          try simp only [Act.put, List.setIfInBounds_toArray, List.set_cons_zero, List.set_cons_succ]
          refine HeadW.done (by kernel_rfl) ?_
          go_wp2_with fail
          go_meet
          case rel => exact ⟨(w5.heap.size + 1), (w5.heap.size + 1 + 1), (w5.heap.size), (w5.heap.size + 1 + 1 + 1), rfl, rfl, rfl, rfl, HREL.out (w5.heap.size + 1) (w5.heap.size + 1 + 1) (w5.heap.size) (w5.heap.size + 1 + 1 + 1) (by omega) (by omega) (by omega) (by omega) (by omega) (by omega) (by omega) (by omega) (by omega) (by omega) (by omega) (by omega) (by omega) (by omega) ⟩
        · refine ⟨_, (by simp only [List.getElem?_toArray, List.getElem?_cons_succ, List.getElem?_cons_zero]; rfl), ?_⟩
          unfold StepAt
          intro K hK
          go_simp
          refine hK.out _ _ (HS6.out _ (bAl (bAl (bAl (bD1 (Below.refl w5.heap.size w5)) _) _) _)) ?_
          clear hK K
          try simp only [Act.put, List.setIfInBounds_toArray, List.set_cons_zero, List.set_cons_succ]
          refine HeadW.some_ [5] (by kernel_rfl) (fun i hi => ?_)
          simp only [List.mem_cons, List.mem_nil_iff, or_false] at hi
          subst hi
          refine ⟨_, (by simp only [List.getElem?_toArray, List.getElem?_cons_succ, List.getElem?_cons_zero]; rfl), ?_⟩
          unfold StepAt
          intro K hK
          go_simp
          refine hK.out _ _ (HS6.out _ (bAl (bAl (bAl (bAl (bD1 (Below.refl w5.heap.size w5)) _) _) _) _)) ?_
          clear hK K
          try simp only [Act.put, List.setIfInBounds_toArray, List.set_cons_zero, List.set_cons_succ]
          refine HeadW.one (i := 8) (o := ?oi44) ?hi44 (by kernel_rfl) ?st44
          case hi44 => simp only [List.getElem?_toArray, List.getElem?_cons_succ, List.getElem?_cons_zero]; rfl
          case st44 =>
          intro K hK
          go_simp
          try dsimp only
          refine hK.out _ _ (HS6.out _ (by first | exact bAl (bAl (bAl (bAl (bD1 (Below.refl w5.heap.size w5)) _) _) _) _ | exact bD1 (bAl (bAl (bAl (bAl (Below.refl w5.heap.size w5) _) _) _) _))) ?_
          clear hK K
          try simp only [Act.put, List.setIfInBounds_toArray, List.set_cons_zero, List.set_cons_succ]
          refine HeadW.one (i := 9) (o := ?oi45) ?hi45 (by kernel_rfl) ?st45
          case hi45 => simp only [List.getElem?_toArray, List.getElem?_cons_succ, List.getElem?_cons_zero]; rfl
          case st45 =>
          intro K hK
          go_simp
          try dsimp only
          refine hK.out _ _ (HS6.out _ (by first | exact bAl (bAl (bAl (bAl (bD1 (Below.refl w5.heap.size w5)) _) _) _) _ | exact bD1 (bAl (bAl (bAl (bAl (Below.refl w5.heap.size w5) _) _) _) _))) ?_
          clear hK K
          try simp only [Act.put, List.setIfInBounds_toArray, List.set_cons_zero, List.set_cons_succ]
          refine HeadW.one (i := 10) (o := ?oi46) ?hi46 (by kernel_rfl) ?st46
          case hi46 => simp only [List.getElem?_toArray, List.getElem?_cons_succ, List.getElem?_cons_zero]; rfl
          case st46 =>
          intro K hK
          go_simp
          try dsimp only
          refine hK.out _ _ (HS6.out _ (by first | exact bAl (bAl (bAl (bAl (bD1 (Below.refl w5.heap.size w5)) _) _) _) _ | exact bD1 (bAl (bAl (bAl (bAl (Below.refl w5.heap.size w5) _) _) _) _))) ?_
          clear hK K
          try simp only [Act.put, List.setIfInBounds_toArray, List.set_cons_zero, List.set_cons_succ]
          refine HeadW.done (by kernel_rfl) ?_
          go_wp2_with fail
          go_meet
          case rel => exact ⟨(w5.heap.size + 1), (w5.heap.size + 1 + 1 + 1), (w5.heap.size), (w5.heap.size + 1 + 1), rfl, rfl, rfl, rfl, HREL.out (w5.heap.size + 1) (w5.heap.size + 1 + 1 + 1) (w5.heap.size) (w5.heap.size + 1 + 1) (by omega) (by omega) (by omega) (by omega) (by omega) (by omega) (by omega) (by omega) (by omega) (by omega) (by omega) (by omega) (by omega) (by omega) ⟩
      · refine ⟨_, (by simp only [List.getElem?_toArray, List.getElem?_cons_succ, List.getElem?_cons_zero]; rfl), ?_⟩
        unfold StepAt
        intro K hK
        go_simp
        refine hK.out _ _ (HS6.out _ (bAl (bAl (bD1 (Below.refl w5.heap.size w5)) _) _)) ?_
        clear hK K
        try simp only [Act.put, List.setIfInBounds_toArray, List.set_cons_zero, List.set_cons_succ]
        refine HeadW.some_ [4, 7] (by kernel_rfl) (fun i hi => ?_)
        simp only [List.mem_cons, List.mem_nil_iff, or_false] at hi
        rcases hi with rfl | rfl
        · refine ⟨_, (by simp only [List.getElem?_toArray, List.getElem?_cons_succ, List.getElem?_cons_zero]; rfl), ?_⟩
          unfold StepAt
          intro K hK
          go_simp
          refine hK.out _ _ (HS6.out _ (bAl (bAl (bAl (bD1 (Below.refl w5.heap.size w5)) _) _) _)) ?_
          clear hK K
          try simp only [Act.put, List.setIfInBounds_toArray, List.set_cons_zero, List.set_cons_succ]
          refine HeadW.some_ [7] (by kernel_rfl) (fun i hi => ?_)
          simp only [List.mem_cons, List.mem_nil_iff, or_false] at hi
          subst hi
          refine ⟨_, (by simp only [List.getElem?_toArray, List.getElem?_cons_succ, List.getElem?_cons_zero]; rfl), ?_⟩
          unfold StepAt
          intro K hK
          go_simp
          refine hK.out _ _ (HS6.out _ (bAl (bAl (bAl (bAl (bD1 (Below.refl w5.heap.size w5)) _) _) _) _)) ?_
          clear hK K
          try simp only [Act.put, List.setIfInBounds_toArray, List.set_cons_zero, List.set_cons_succ]
          refine HeadW.one (i := 8) (o := ?oi47) ?hi47 (by kernel_rfl) ?st47
          case hi47 => simp only [List.getElem?_toArray, List.getElem?_cons_succ, List.getElem?_cons_zero]; rfl
          case st47 =>
          intro K hK
          go_simp
          try dsimp only
          refine hK.out _ _ (HS6.out _ (by first | exact bAl (bAl (bAl (bAl (bD1 (Below.refl w5.heap.size w5)) _) _) _) _ | exact bD1 (bAl (bAl (bAl (bAl (Below.refl w5.heap.size w5) _) _) _) _))) ?_
          clear hK K
          try simp only [Act.put, List.setIfInBounds_toArray, List.set_cons_zero, List.set_cons_succ]
          refine HeadW.one (i := 9) (o := ?oi48) ?hi48 (by kernel_rfl) ?st48
          case hi48 => simp only [List.getElem?_toArray, List.getElem?_cons_succ, List.getElem?_cons_zero]; rfl
          case st48 =>
          intro K hK
          go_simp
          try dsimp only
          refine hK.out _ _ (HS6.out _ (by first | exact bAl (bAl (bAl (bAl (bD1 (Below.refl w5.heap.size w5)) _) _) _) _ | exact bD1 (bAl (bAl (bAl (bAl (Below.refl w5.heap.size w5) _) _) _) _))) ?_
          clear hK K
          try simp only [Act.put, List.setIfInBounds_toArray, List.set_cons_zero, List.set_cons_succ]
          refine HeadW.one (i := 10) (o := ?oi49) ?hi49 (by kernel_rfl) ?st49
          case hi49 => simp only [List.getElem?_toArray, List.getElem?_cons_succ, List.getElem?_cons_zero]; rfl
          case st49 =>
          intro K hK
          go_simp
          try dsimp only
          refine hK.out _ _ (HS6.out _ (by first | exact bAl (bAl (bAl (bAl (bD1 (Below.refl w5.heap.size w5)) _) _) _) _ | exact bD1 (bAl (bAl (bAl (bAl (Below.refl w5.heap.size w5) _) _) _) _))) ?_
          clear hK K
          try simp only [Act.put, List.setIfInBounds_toArray, List.set_cons_zero, List.set_cons_succ]
          refine HeadW.done (by kernel_rfl) ?_
          go_wp2_with fail
          go_meet
          case rel => exact ⟨(w5.heap.size + 1 + 1), (w5.heap.size + 1), (w5.heap.size), (w5.heap.size + 1 + 1 + 1), rfl, rfl, rfl, rfl, HREL.out (w5.heap.size + 1 + 1) (w5.heap.size + 1) (w5.heap.size) (w5.heap.size + 1 + 1 + 1) (by omega) (by omega) (by omega) (by omega) (by omega) (by omega) (by omega) (by omega) (by omega) (by omega) (by omega) (by omega) (by omega) (by omega) ⟩
        · refine ⟨_, (by simp only [List.getElem?_toArray, List.getElem?_cons_succ, List.getElem?_cons_zero]; rfl), ?_⟩
          unfold StepAt
          intro K hK
          go_simp
          refine hK.out _ _ (HS6.out _ (bAl (bAl (bAl (bD1 (Below.refl w5.heap.size w5)) _) _) _)) ?_
          clear hK K
          try simp only [Act.put, List.setIfInBounds_toArray, List.set_cons_zero, List.set_cons_succ]
          refine HeadW.some_ [4] (by kernel_rfl) (fun i hi => ?_)
          simp only [List.mem_cons, List.mem_nil_iff, or_false] at hi
          subst hi
          refine ⟨_, (by simp only [List.getElem?_toArray, List.getElem?_cons_succ, List.getElem?_cons_zero]; rfl), ?_⟩
          unfold StepAt
          intro K hK
          go_simp
          refine hK.out _ _ (HS6.out _ (bAl (bAl (bAl (bAl (bD1 (Below.refl w5.heap.size w5)) _) _) _) _)) ?_
          clear hK K
          try simp only [Act.put, List.setIfInBounds_toArray, List.set_cons_zero, List.set_cons_succ]
          refine HeadW.one (i := 8) (o := ?oi50) ?hi50 (by kernel_rfl) ?st50
          case hi50 => simp only [List.getElem?_toArray, List.getElem?_cons_succ, List.getElem?_cons_zero]; rfl
          case st50 =>
          intro K hK
          go_simp
          try dsimp only
          refine hK.out _ _ (HS6.out _ (by first | exact bAl (bAl (bAl (bAl (bD1 (Below.refl w5.heap.size w5)) _) _) _) _ | exact bD1 (bAl (bAl (bAl (bAl (Below.refl w5.heap.size w5) _) _) _) _))) ?_
          clear hK K
          try simp only [Act.put, List.setIfInBounds_toArray, List.set_cons_zero, List.set_cons_succ]
          refine HeadW.one (i := 9) (o := ?oi51) ?hi51 (by kernel_rfl) ?st51
          case hi51 => simp only [List.getElem?_toArray, List.getElem?_cons_succ, List.getElem?_cons_zero]; rfl
          case st51 =>
          intro K hK
          go_simp
          try dsimp only
          refine hK.out _ _ (HS6.out _ (by first | exact bAl (bAl (bAl (bAl (bD1 (Below.refl w5.heap.size w5)) _) _) _) _ | exact bD1 (bAl (bAl (bAl (bAl (Below.refl w5.heap.size w5) _) _) _) _))) ?_
          clear hK K
          try simp only [Act.put, List.setIfInBounds_toArray, List.set_cons_zero, List.set_cons_succ]
          refine HeadW.one (i := 10) (o := ?oi52) ?hi52 (by kernel_rfl) ?st52
          case hi52 => simp only [List.getElem?_toArray, List.getElem?_cons_succ, List.getElem?_cons_zero]; rfl
          case st52 =>
          intro K hK
          go_simp
          try dsimp only
          refine hK.out _ _ (HS6.out _ (by first | exact bAl (bAl (bAl (bAl (bD1 (Below.refl w5.heap.size w5)) _) _) _) _ | exact bD1 (bAl (bAl (bAl (bAl (Below.refl w5.heap.size w5) _) _) _) _))) ?_
          clear hK K
          try simp only [Act.put, List.setIfInBounds_toArray, List.set_cons_zero, List.set_cons_succ]
          refine HeadW.done (by kernel_rfl) ?_
          go_wp2_with fail
          go_meet
          case rel => exact ⟨(w5.heap.size + 1 + 1 + 1), (w5.heap.size + 1), (w5.heap.size), (w5.heap.size + 1 + 1), rfl, rfl, rfl, rfl, HREL.out (w5.heap.size + 1 + 1 + 1) (w5.heap.size + 1) (w5.heap.size) (w5.heap.size + 1 + 1) (by omega) (by omega) (by omega) (by omega) (by omega) (by omega) (by omega) (by omega) (by omega) (by omega) (by omega) (by omega) (by omega) (by omega) ⟩
      · refine ⟨_, (by simp only [List.getElem?_toArray, List.getElem?_cons_succ, List.getElem?_cons_zero]; rfl), ?_⟩
        unfold StepAt
        intro K hK
        go_simp
        refine hK.out _ _ (HS6.out _ (bAl (bAl (bD1 (Below.refl w5.heap.size w5)) _) _)) ?_
        clear hK K
        try simp only [Act.put, List.setIfInBounds_toArray, List.set_cons_zero, List.set_cons_succ]
        refine HeadW.some_ [4, 5] (by kernel_rfl) (fun i hi => ?_)
        simp only [List.mem_cons, List.mem_nil_iff, or_false] at hi
        rcases hi with rfl | rfl
        · refine ⟨_, (by simp only [List.getElem?_toArray, List.getElem?_cons_succ, List.getElem?_cons_zero]; rfl), ?_⟩
          unfold StepAt
          intro K hK
          go_simp
          refine hK.out _ _ (HS6.out _ (bAl (bAl (bAl (bD1 (Below.refl w5.heap.size w5)) _) _) _)) ?_
          clear hK K
          try simp only [Act.put, List.setIfInBounds_toArray, List.set_cons_zero, List.set_cons_succ]
          refine HeadW.some_ [5] (by kernel_rfl) (fun i hi => ?_)
          simp only [List.mem_cons, List.mem_nil_iff, or_false] at hi
          subst hi
          refine ⟨_, (by simp only [List.getElem?_toArray, List.getElem?_cons_succ, List.getElem?_cons_zero]; rfl), ?_⟩
          unfold StepAt
          intro K hK
          go_simp
          refine hK.out _ _ (HS6.out _ (bAl (bAl (bAl (bAl (bD1 (Below.refl w5.heap.size w5)) _) _) _) _)) ?_
          clear hK K
          try simp only [Act.put, List.setIfInBounds_toArray, List.set_cons_zero, List.set_cons_succ]
          refine HeadW.one (i := 8) (o := ?oi53) ?hi53 (by kernel_rfl) ?st53
          case hi53 => simp only [List.getElem?_toArray, List.getElem?_cons_succ, List.getElem?_cons_zero]; rfl
          case st53 =>
          intro K hK
          go_simp
          try dsimp only
          refine hK.out _ _ (HS6.out _ (by first | exact bAl (bAl (bAl (bAl (bD1 (Below.refl w5.heap.size w5)) _) _) _) _ | exact bD1 (bAl (bAl (bAl (bAl (Below.refl w5.heap.size w5) _) _) _) _))) ?_
          clear hK K
          try simp only [Act.put, List.setIfInBounds_toArray, List.set_cons_zero, List.set_cons_succ]
          refine HeadW.one (i := 9) (o := ?oi54) ?hi54 (by kernel_rfl) ?st54
          case hi54 => simp only [List.getElem?_toArray, List.getElem?_cons_succ, List.getElem?_cons_zero]; rfl
          case st54 =>
          intro K hK
          go_simp
          try dsimp only
          refine hK.out _ _ (HS6.out _ (by first | exact bAl (bAl (bAl (bAl (bD1 (Below.refl w5.heap.size w5)) _) _) _) _ | exact bD1 (bAl (bAl (bAl (bAl (Below.refl w5.heap.size w5) _) _) _) _))) ?_
          clear hK K
          try simp only [Act.put, List.setIfInBounds_toArray, List.set_cons_zero, List.set_cons_succ]
          refine HeadW.one (i := 10) (o := ?oi55) ?hi55 (by kernel_rfl) ?st55
          case hi55 => simp only [List.getElem?_toArray, List.getElem?_cons_succ, List.getElem?_cons_zero]; rfl
          case st55 =>
          intro K hK
          go_simp
          try dsimp only
          refine hK.out _ _ (HS6.out _ (by first | exact bAl (bAl (bAl (bAl (bD1 (Below.refl w5.heap.size w5)) _) _) _) _ | exact bD1 (bAl (bAl (bAl (bAl (Below.refl w5.heap.size w5) _) _) _) _))) ?_
          clear hK K
          try simp only [Act.put, List.setIfInBounds_toArray, List.set_cons_zero, List.set_cons_succ]
          refine HeadW.done (by kernel_rfl) ?_
          go_wp2_with fail
          go_meet
          case rel => exact ⟨(w5.heap.size + 1 + 1), (w5.heap.size + 1 + 1 + 1), (w5.heap.size), (w5.heap.size + 1), rfl, rfl, rfl, rfl, HREL.out (w5.heap.size + 1 + 1) (w5.heap.size + 1 + 1 + 1) (w5.heap.size) (w5.heap.size + 1) (by omega) (by omega) (by omega) (by omega) (by omega) (by omega) (by omega) (by omega) (by omega) (by omega) (by omega) (by omega) (by omega) (by omega) ⟩
        · refine ⟨_, (by simp only [List.getElem?_toArray, List.getElem?_cons_succ, List.getElem?_cons_zero]; rfl), ?_⟩
          unfold StepAt
          intro K hK
          go_simp
          refine hK.out _ _ (HS6.out _ (bAl (bAl (bAl (bD1 (Below.refl w5.heap.size w5)) _) _) _)) ?_
          clear hK K
          try simp only [Act.put, List.setIfInBounds_toArray, List.set_cons_zero, List.set_cons_succ]
          refine HeadW.some_ [4] (by kernel_rfl) (fun i hi => ?_)
          simp only [List.mem_cons, List.mem_nil_iff, or_false] at hi
          subst hi
          refine ⟨_, (by simp only [List.getElem?_toArray, List.getElem?_cons_succ, List.getElem?_cons_zero]; rfl), ?_⟩
          unfold StepAt
          intro K hK
          go_simp
          refine hK.out _ _ (HS6.out _ (bAl (bAl (bAl (bAl (bD1 (Below.refl w5.heap.size w5)) _) _) _) _)) ?_
          clear hK K
          try simp only [Act.put, List.setIfInBounds_toArray, List.set_cons_zero, List.set_cons_succ]
          refine HeadW.one (i := 8) (o := ?oi56) ?hi56 (by kernel_rfl) ?st56
          case hi56 => simp only [List.getElem?_toArray, List.getElem?_cons_succ, List.getElem?_cons_zero]; rfl
          case st56 =>
          intro K hK
          go_simp
          try dsimp only
          refine hK.out _ _ (HS6.out _ (by first | exact bAl (bAl (bAl (bAl (bD1 (Below.refl w5.heap.size w5)) _) _) _) _ | exact bD1 (bAl (bAl (bAl (bAl (Below.refl w5.heap.size w5) _) _) _) _))) ?_
          clear hK K
          try simp only [Act.put, List.setIfInBounds_toArray, List.set_cons_zero, List.set_cons_succ]
          refine HeadW.one (i := 9) (o := ?oi57) ?hi57 (by kernel_rfl) ?st57
          case hi57 => simp only [List.getElem?_toArray, List.getElem?_cons_succ, List.getElem?_cons_zero]; rfl
          case st57 =>
          intro K hK
          go_simp
          try dsimp only
          refine hK.out _ _ (HS6.out _ (by first | exact bAl (bAl (bAl (bAl (bD1 (Below.refl w5.heap.size w5)) _) _) _) _ | exact bD1 (bAl (bAl (bAl (bAl (Below.refl w5.heap.size w5) _) _) _) _))) ?_
          clear hK K
          try simp only [Act.put, List.setIfInBounds_toArray, List.set_cons_zero, List.set_cons_succ]
          refine HeadW.one (i := 10) (o := ?oi58) ?hi58 (by kernel_rfl) ?st58
          case hi58 => simp only [List.getElem?_toArray, List.getElem?_cons_succ, List.getElem?_cons_zero]; rfl
          case st58 =>
          intro K hK
          go_simp
          try dsimp only
          refine hK.out _ _ (HS6.out _ (by first | exact bAl (bAl (bAl (bAl (bD1 (Below.refl w5.heap.size w5)) _) _) _) _ | exact bD1 (bAl (bAl (bAl (bAl (Below.refl w5.heap.size w5) _) _) _) _))) ?_
          clear hK K
          try simp only [Act.put, List.setIfInBounds_toArray, List.set_cons_zero, List.set_cons_succ]
          refine HeadW.done (by kernel_rfl) ?_
          go_wp2_with fail
          go_meet
          case rel => exact ⟨(w5.heap.size + 1 + 1 + 1), (w5.heap.size + 1 + 1), (w5.heap.size), (w5.heap.size + 1), rfl, rfl, rfl, rfl, HREL.out (w5.heap.size + 1 + 1 + 1) (w5.heap.size + 1 + 1) (w5.heap.size) (w5.heap.size + 1) (by omega) (by omega) (by omega) (by omega) (by omega) (by omega) (by omega) (by omega) (by omega) (by omega) (by omega) (by omega) (by omega) (by omega) ⟩
    · refine ⟨_, (by simp only [List.getElem?_toArray, List.getElem?_cons_succ, List.getElem?_cons_zero]; rfl), ?_⟩
      unfold StepAt
      intro K hK
      go_simp
      refine hK.out _ _ (HS6.out _ (bAl (bD1 (Below.refl w5.heap.size w5)) _)) ?_
      clear hK K
      try simp only [Act.put, List.setIfInBounds_toArray, List.set_cons_zero, List.set_cons_succ]
      refine HeadW.some_ [4, 5, 6] (by kernel_rfl) (fun i hi => ?_)
      simp only [List.mem_cons, List.mem_nil_iff, or_false] at hi
      rcases hi with rfl | rfl | rfl
      · refine ⟨_, (by simp only [List.getElem?_toArray, List.getElem?_cons_succ, List.getElem?_cons_zero]; rfl), ?_⟩
        unfold StepAt
        intro K hK
        go_simp
        refine hK.out _ _ (HS6.out _ (bAl (bAl (bD1 (Below.refl w5.heap.size w5)) _) _)) ?_
        clear hK K
        try simp only [Act.put, List.setIfInBounds_toArray, List.set_cons_zero, List.set_cons_succ]
        refine HeadW.some_ [5, 6] (by kernel_rfl) (fun i hi => ?_)
        simp only [List.mem_cons, List.mem_nil_iff, or_false] at hi
        rcases hi with rfl | rfl
        · refine ⟨_, (by simp only [List.getElem?_toArray, List.getElem?_cons_succ, List.getElem?_cons_zero]; rfl), ?_⟩
          unfold StepAt
          intro K hK
          go_simp
          refine hK.out _ _ (HS6.out _ (bAl (bAl (bAl (bD1 (Below.refl w5.heap.size w5)) _) _) _)) ?_
          clear hK K
          try simp only [Act.put, List.setIfInBounds_toArray, List.set_cons_zero, List.set_cons_succ]
          refine HeadW.some_ [6] (by kernel_rfl) (fun i hi => ?_)
          simp only [List.mem_cons, List.mem_nil_iff, or_false] at hi
          subst hi
          refine ⟨_, (by simp only [List.getElem?_toArray, List.getElem?_cons_succ, List.getElem?_cons_zero]; rfl), ?_⟩
          unfold StepAt
          intro K hK
          go_simp
          refine hK.out _ _ (HS6.out _ (bAl (bAl (bAl (bAl (bD1 (Below.refl w5.heap.size w5)) _) _) _) _)) ?_
          clear hK K
          try simp only [Act.put, List.setIfInBounds_toArray, List.set_cons_zero, List.set_cons_succ]
          refine HeadW.one (i := 8) (o := ?oi59) ?hi59 (by kernel_rfl) ?st59
          case hi59 => simp only [List.getElem?_toArray, List.getElem?_cons_succ, List.getElem?_cons_zero]; rfl
          case st59 =>
          intro K hK
          go_simp
          try dsimp only
          refine hK.out _ _ (HS6.out _ (by first | exact bAl (bAl (bAl (bAl (bD1 (Below.refl w5.heap.size w5)) _) _) _) _ | exact bD1 (bAl (bAl (bAl (bAl (Below.refl w5.heap.size w5) _) _) _) _))) ?_
          clear hK K
          try simp only [Act.put, List.setIfInBounds_toArray, List.set_cons_zero, List.set_cons_succ]
          refine HeadW.one (i := 9) (o := ?oi60) ?hi60 (by kernel_rfl) ?st60
          case hi60 => simp only [List.getElem?_toArray, List.getElem?_cons_succ, List.getElem?_cons_zero]; rfl
          case st60 =>
          intro K hK
          go_simp
          try dsimp only
          refine hK.out _ _ (HS6.out _ (by first | exact bAl (bAl (bAl (bAl (bD1 (Below.refl w5.heap.size w5)) _) _) _) _ | exact bD1 (bAl (bAl (bAl (bAl (Below.refl w5.heap.size w5) _) _) _) _))) ?_
          clear hK K
          try simp only [Act.put, List.setIfInBounds_toArray, List.set_cons_zero, List.set_cons_succ]
          refine HeadW.one (i := 10) (o := ?oi61) ?hi61 (by kernel_rfl) ?st61
          case hi61 => simp only [List.getElem?_toArray, List.getElem?_cons_succ, List.getElem?_cons_zero]; rfl
          case st61 =>
          intro K hK
          go_simp
          try dsimp only
          refine hK.out _ _ (HS6.out _ (by first | exact bAl (bAl (bAl (bAl (bD1 (Below.refl w5.heap.size w5)) _) _) _) _ | exact bD1 (bAl (bAl (bAl (bAl (Below.refl w5.heap.size w5) _) _) _) _))) ?_
          clear hK K
          try simp only [Act.put, List.setIfInBounds_toArray, List.set_cons_zero, List.set_cons_succ]
          refine HeadW.done (by kernel_rfl) ?_
          go_wp2_with fail
          go_meet
          case rel => exact ⟨(w5.heap.size + 1), (w5.heap.size + 1 + 1), (w5.heap.size + 1 + 1 + 1), (w5.heap.size), rfl, rfl, rfl, rfl, HREL.out (w5.heap.size + 1) (w5.heap.size + 1 + 1) (w5.heap.size + 1 + 1 + 1) (w5.heap.size) (by omega) (by omega) (by omega) (by omega) (by omega) (by omega) (by omega) (by omega) (by omega) (by omega) (by omega) (by omega) (by omega) (by omega) ⟩
        · refine ⟨_, (by simp only [List.getElem?_toArray, List.getElem?_cons_succ, List.getElem?_cons_zero]; rfl), ?_⟩
          unfold StepAt
          intro K hK
          go_simp
          refine hK.out _ _ (HS6.out _ (bAl (bAl (bAl (bD1 (Below.refl w5.heap.size w5)) _) _) _)) ?_
          clear hK K
          try simp only [Act.put, List.setIfInBounds_toArray, List.set_cons_zero, List.set_cons_succ]
          refine HeadW.some_ [5] (by kernel_rfl) (fun i hi => ?_)
          simp only [List.mem_cons, List.mem_nil_iff, or_false] at hi
          subst hi
          refine ⟨_, (by simp only [List.getElem?_toArray, List.getElem?_cons_succ, List.getElem?_cons_zero]; rfl), ?_⟩
          unfold StepAt
          intro K hK
          go_simp
          refine hK.out _ _ (HS6.out _ (bAl (bAl (bAl (bAl (bD1 (Below.refl w5.heap.size w5)) _) _) _) _)) ?_
          clear hK K
          try simp only [Act.put, List.setIfInBounds_toArray, List.set_cons_zero, List.set_cons_succ]
          refine HeadW.one (i := 8) (o := ?oi62) ?hi62 (by kernel_rfl) ?st62
          case hi62 => simp only [List.getElem?_toArray, List.getElem?_cons_succ, List.getElem?_cons_zero]; rfl
          case st62 =>
          intro K hK
          go_simp
          try dsimp only
          refine hK.out _ _ (HS6.out _ (by first | exact bAl (bAl (bAl (bAl (bD1 (Below.refl w5.heap.size w5)) _) _) _) _ | exact bD1 (bAl (bAl (bAl (bAl (Below.refl w5.heap.size w5) _) _) _) _))) ?_
          clear hK K
          try simp only [Act.put, List.setIfInBounds_toArray, List.set_cons_zero, List.set_cons_succ]
          refine HeadW.one (i := 9) (o := ?oi63) ?hi63 (by kernel_rfl) ?st63
          case hi63 => simp only [List.getElem?_toArray, List.getElem?_cons_succ, List.getElem?_cons_zero]; rfl
          case st63 =>
          intro K hK
          go_simp
          try dsimp only
          refine hK.out _ _ (HS6.out _ (by first | exact bAl (bAl (bAl (bAl (bD1 (Below.refl w5.heap.size w5)) _) _) _) _ | exact bD1 (bAl (bAl (bAl (bAl (Below.refl w5.heap.size w5) _) _) _) _))) ?_
          clear hK K
          try simp only [Act.put, List.setIfInBounds_toArray, List.set_cons_zero, List.set_cons_succ]
          refine HeadW.one (i := 10) (o := ?oi64) ?hi64 (by kernel_rfl) ?st64
          case hi64 => simp only [List.getElem?_toArray, List.getElem?_cons_succ, List.getElem?_cons_zero]; rfl
          case st64 =>
          intro K hK
          go_simp
          try dsimp only
          refine hK.out _ _ (HS6.out _ (by first | exact bAl (bAl (bAl (bAl (bD1 (Below.refl w5.heap.size w5)) _) _) _) _ | exact bD1 (bAl (bAl (bAl (bAl (Below.refl w5.heap.size w5) _) _) _) _))) ?_
          clear hK K
          try simp only [Act.put, List.setIfInBounds_toArray, List.set_cons_zero, List.set_cons_succ]
          refine HeadW.done (by kernel_rfl) ?_
          go_wp2_with fail
          go_meet
          case rel => exact ⟨(w5.heap.size + 1), (w5.heap.size + 1 + 1 + 1), (w5.heap.size + 1 + 1), (w5.heap.size), rfl, rfl, rfl, rfl, HREL.out (w5.heap.size + 1) (w5.heap.size + 1 + 1 + 1) (w5.heap.size + 1 + 1) (w5.heap.size) (by omega) (by omega) (by omega) (by omega) (by omega) (by omega) (by omega) (by omega) (by omega) (by omega) (by omega) (by omega) (by omega) (by omega) ⟩
      · refine ⟨_, (by simp only [List.getElem?_toArray, List.getElem?_cons_succ, List.getElem?_cons_zero]; rfl), ?_⟩
        unfold StepAt
        intro K hK
        go_simp
        refine hK.out _ _ (HS6.out _ (bAl (bAl (bD1 (Below.refl w5.heap.size w5)) _) _)) ?_
        clear hK K
        try simp only [Act.put, List.setIfInBounds_toArray, List.set_cons_zero, List.set_cons_succ]
        refine HeadW.some_ [4, 6] (by kernel_rfl) (fun i hi => ?_)
        simp only [List.mem_cons, List.mem_nil_iff, or_false] at hi
        rcases hi with rfl | rfl
        · refine ⟨_, (by simp only [List.getElem?_toArray, List.getElem?_cons_succ, List.getElem?_cons_zero]; rfl), ?_⟩
          unfold StepAt
          intro K hK
          go_simp
          refine hK.out _ _ (HS6.out _ (bAl (bAl (bAl (bD1 (Below.refl w5.heap.size w5)) _) _) _)) ?_
          clear hK K
          try simp only [Act.put, List.setIfInBounds_toArray, List.set_cons_zero, List.set_cons_succ]
          refine HeadW.some_ [6] (by kernel_rfl) (fun i hi => ?_)
          simp only [List.mem_cons, List.mem_nil_iff, or_false] at hi
          subst hi
          refine ⟨_, (by simp only [List.getElem?_toArray, List.getElem?_cons_succ, List.getElem?_cons_zero]; rfl), ?_⟩
          unfold StepAt
          intro K hK
          go_simp
          refine hK.out _ _ (HS6.out _ (bAl (bAl (bAl (bAl (bD1 (Below.refl w5.heap.size w5)) _) _) _) _)) ?_
          clear hK K
          try simp only [Act.put, List.setIfInBounds_toArray, List.set_cons_zero, List.set_cons_succ]
          refine HeadW.one (i := 8) (o := ?oi65) ?hi65 (by kernel_rfl) ?st65
          case hi65 => simp only [List.getElem?_toArray, List.getElem?_cons_succ, List.getElem?_cons_zero]; rfl
          case st65 =>
          intro K hK
          go_simp
          try dsimp only
          refine hK.out _ _ (HS6.out _ (by first | exact bAl (bAl (bAl (bAl (bD1 (Below.refl w5.heap.size w5)) _) _) _) _ | exact bD1 (bAl (bAl (bAl (bAl (Below.refl w5.heap.size w5) _) _) _) _))) ?_
          clear hK K
          try simp only [Act.put, List.setIfInBounds_toArray, List.set_cons_zero, List.set_cons_succ]
          refine HeadW.one (i := 9) (o := ?oi66) ?hi66 (by kernel_rfl) ?st66
          case hi66 => simp only [List.getElem?_toArray, List.getElem?_cons_succ, List.getElem?_cons_zero]; rfl
          case st66 =>
          intro K hK
          go_simp
          try dsimp only
          refine hK.out _ _ (HS6.out _ (by first | exact bAl (bAl (bAl (bAl (bD1 (Below.refl w5.heap.size w5)) _) _) _) _ | exact bD1 (bAl (bAl (bAl (bAl (Below.refl w5.heap.size w5) _) _) _) _))) ?_
          clear hK K
          try simp only [Act.put, List.setIfInBounds_toArray, List.set_cons_zero, List.set_cons_succ]
          refine HeadW.one (i := 10) (o := ?oi67) ?hi67 (by kernel_rfl) ?st67
          case hi67 => simp only [List.getElem?_toArray, List.getElem?_cons_succ, List.getElem?_cons_zero]; rfl
          case st67 =>
          intro K hK
          go_simp
          try dsimp only
          refine hK.out _ _ (HS6.out _ (by first | exact bAl (bAl (bAl (bAl (bD1 (Below.refl w5.heap.size w5)) _) _) _) _ | exact bD1 (bAl (bAl (bAl (bAl (Below.refl w5.heap.size w5) _) _) _) _))) ?_
          clear hK K
          try simp only [Act.put, List.setIfInBounds_toArray, List.set_cons_zero, List.set_cons_succ]
          refine HeadW.done (by kernel_rfl) ?_
          go_wp2_with fail
          go_meet
          case rel => exact ⟨(w5.heap.size + 1 + 1), (w5.heap.size + 1), (w5.heap.size + 1 + 1 + 1), (w5.heap.size), rfl, rfl, rfl, rfl, HREL.out (w5.heap.size + 1 + 1) (w5.heap.size + 1) (w5.heap.size + 1 + 1 + 1) (w5.heap.size) (by omega) (by omega) (by omega) (by omega) (by omega) (by omega) (by omega) (by omega) (by omega) (by omega) (by omega) (by omega) (by omega) (by omega) ⟩
        · refine ⟨_, (by simp only [List.getElem?_toArray, List.getElem?_cons_succ, List.getElem?_cons_zero]; rfl), ?_⟩
          unfold StepAt
          intro K hK
          go_simp
          refine hK.out _ _ (HS6.out _ (bAl (bAl (bAl (bD1 (Below.refl w5.heap.size w5)) _) _) _)) ?_
          clear hK K
          try simp only [Act.put, List.setIfInBounds_toArray, List.set_cons_zero, List.set_cons_succ]
          refine HeadW.some_ [4] (by kernel_rfl) (fun i hi => ?_)
          simp only [List.mem_cons, List.mem_nil_iff, or_false] at hi
          subst hi
          refine ⟨_, (by simp only [List.getElem?_toArray, List.getElem?_cons_succ, List.getElem?_cons_zero]; rfl), ?_⟩
          unfold StepAt
          intro K hK
          go_simp
          refine hK.out _ _ (HS6.out _ (bAl (bAl (bAl (bAl (bD1 (Below.refl w5.heap.size w5)) _) _) _) _)) ?_
          clear hK K
          try simp only [Act.put, List.setIfInBounds_toArray, List.set_cons_zero, List.set_cons_succ]
          refine HeadW.one (i := 8) (o := ?oi68) ?hi68 (by kernel_rfl) ?st68
          case hi68 => simp only [List.getElem?_toArray, List.getElem?_cons_succ, List.getElem?_cons_zero]; rfl
          case st68 =>
          intro K hK
          go_simp
          try dsimp only
          refine hK.out _ _ (HS6.out _ (by first | exact bAl (bAl (bAl (bAl (bD1 (Below.refl w5.heap.size w5)) _) _) _) _ | exact bD1 (bAl (bAl (bAl (bAl (Below.refl w5.heap.size w5) _) _) _) _))) ?_
          clear hK K
          try simp only [Act.put, List.setIfInBounds_toArray, List.set_cons_zero, List.set_cons_succ]
          refine HeadW.one (i := 9) (o := ?oi69) ?hi69 (by kernel_rfl) ?st69
          case hi69 => simp only [List.getElem?_toArray, List.getElem?_cons_succ, List.getElem?_cons_zero]; rfl
          case st69 =>
          intro K hK
          go_simp
          try dsimp only
          refine hK.out _ _ (HS6.out _ (by first | exact bAl (bAl (bAl (bAl (bD1 (Below.refl w5.heap.size w5)) _) _) _) _ | exact bD1 (bAl (bAl (bAl (bAl (Below.refl w5.heap.size w5) _) _) _) _))) ?_
          clear hK K
          try simp only [Act.put, List.setIfInBounds_toArray, List.set_cons_zero, List.set_cons_succ]
          refine HeadW.one (i := 10) (o := ?oi70) ?hi70 (by kernel_rfl) ?st70
          case hi70 => simp only [List.getElem?_toArray, List.getElem?_cons_succ, List.getElem?_cons_zero]; rfl
          case st70 =>
          intro K hK
          go_simp
          try dsimp only
          refine hK.out _ _ (HS6.out _ (by first | exact bAl (bAl (bAl (bAl (bD1 (Below.refl w5.heap.size w5)) _) _) _) _ | exact bD1 (bAl (bAl (bAl (bAl (Below.refl w5.heap.size w5) _) _) _) _))) ?_
          clear hK K
          try simp only [Act.put, List.setIfInBounds_toArray, List.set_cons_zero, List.set_cons_succ]
          refine HeadW.done (by kernel_rfl) ?_
          go_wp2_with fail
          go_meet
          case rel => exact ⟨(w5.heap.size + 1 + 1 + 1), (w5.heap.size + 1), (w5.heap.size + 1 + 1), (w5.heap.size), rfl, rfl, rfl, rfl, HREL.out (w5.heap.size + 1 + 1 + 1) (w5.heap.size + 1) (w5.heap.size + 1 + 1) (w5.heap.size) (by omega) (by omega) (by omega) (by omega) (by omega) (by omega) (by omega) (by omega) (by omega) (by omega) (by omega) (by omega) (by omega) (by omega) ⟩
      · refine ⟨_, (by simp only [List.getElem?_toArray, List.getElem?_cons_succ, List.getElem?_cons_zero]; rfl), ?_⟩
        unfold StepAt
        intro K hK
        go_simp
        refine hK.out _ _ (HS6.out _ (bAl (bAl (bD1 (Below.refl w5.heap.size w5)) _) _)) ?_
        clear hK K
        try simp only [Act.put, List.setIfInBounds_toArray, List.set_cons_zero, List.set_cons_succ]
        refine HeadW.some_ [4, 5] (by kernel_rfl) (fun i hi => ?_)
        simp only [List.mem_cons, List.mem_nil_iff, or_false] at hi
        rcases hi with rfl | rfl
        · refine ⟨_, (by simp only [List.getElem?_toArray, List.getElem?_cons_succ, List.getElem?_cons_zero]; rfl), ?_⟩
          unfold StepAt
          intro K hK
          go_simp
          refine hK.out _ _ (HS6.out _ (bAl (bAl (bAl (bD1 (Below.refl w5.heap.size w5)) _) _) _)) ?_
          clear hK K
          try simp only [Act.put, List.setIfInBounds_toArray, List.set_cons_zero, List.set_cons_succ]
          refine HeadW.some_ [5] (by kernel_rfl) (fun i hi => ?_)
          simp only [List.mem_cons, List.mem_nil_iff, or_false] at hi
          subst hi
          refine ⟨_, (by simp only [List.getElem?_toArray, List.getElem?_cons_succ, List.getElem?_cons_zero]; rfl), ?_⟩
          unfold StepAt
          intro K hK
          go_simp
          refine hK.out _ _ (HS6.out _ (bAl (bAl (bAl (bAl (bD1 (Below.refl w5.heap.size w5)) _) _) _) _)) ?_
          clear hK K
          try simp only [Act.put, List.setIfInBounds_toArray, List.set_cons_zero, List.set_cons_succ]
          refine HeadW.one (i := 8) (o := ?oi71) ?hi71 (by kernel_rfl) ?st71
          case hi71 => simp only [List.getElem?_toArray, List.getElem?_cons_succ, List.getElem?_cons_zero]; rfl
          case st71 =>
          intro K hK
          go_simp
          try dsimp only
          refine hK.out _ _ (HS6.out _ (by first | exact bAl (bAl (bAl (bAl (bD1 (Below.refl w5.heap.size w5)) _) _) _) _ | exact bD1 (bAl (bAl (bAl (bAl (Below.refl w5.heap.size w5) _) _) _) _))) ?_
          clear hK K
          try simp only [Act.put, List.setIfInBounds_toArray, List.set_cons_zero, List.set_cons_succ]
          refine HeadW.one (i := 9) (o := ?oi72) ?hi72 (by kernel_rfl) ?st72
          case hi72 => simp only [List.getElem?_toArray, List.getElem?_cons_succ, List.getElem?_cons_zero]; rfl
          case st72 =>
          intro K hK
          go_simp
          try dsimp only
          refine hK.out _ _ (HS6.out _ (by first | exact bAl (bAl (bAl (bAl (bD1 (Below.refl w5.heap.size w5)) _) _) _) _ | exact bD1 (bAl (bAl (bAl (bAl (Below.refl w5.heap.size w5) _) _) _) _))) ?_
          clear hK K
          try simp only [Act.put, List.setIfInBounds_toArray, List.set_cons_zero, List.set_cons_succ]
          refine HeadW.one (i := 10) (o := ?oi73) ?hi73 (by kernel_rfl) ?st73
          case hi73 => simp only [List.getElem?_toArray, List.getElem?_cons_succ, List.getElem?_cons_zero]; rfl
          case st73 =>
          intro K hK
          go_simp
          try dsimp only
          refine hK.out _ _ (HS6.out _ (by first | exact bAl (bAl (bAl (bAl (bD1 (Below.refl w5.heap.size w5)) _) _) _) _ | exact bD1 (bAl (bAl (bAl (bAl (Below.refl w5.heap.size w5) _) _) _) _))) ?_
          clear hK K
          try simp only [Act.put, List.setIfInBounds_toArray, List.set_cons_zero, List.set_cons_succ]
          refine HeadW.done (by kernel_rfl) ?_
          go_wp2_with fail
          go_meet
          case rel => exact ⟨(w5.heap.size + 1 + 1), (w5.heap.size + 1 + 1 + 1), (w5.heap.size + 1), (w5.heap.size), rfl, rfl, rfl, rfl, HREL.out (w5.heap.size + 1 + 1) (w5.heap.size + 1 + 1 + 1) (w5.heap.size + 1) (w5.heap.size) (by omega) (by omega) (by omega) (by omega) (by omega) (by omega) (by omega) (by omega) (by omega) (by omega) (by omega) (by omega) (by omega) (by omega) ⟩
        · refine ⟨_, (by simp only [List.getElem?_toArray, List.getElem?_cons_succ, List.getElem?_cons_zero]; rfl), ?_⟩
          unfold StepAt
          intro K hK
          go_simp
          refine hK.out _ _ (HS6.out _ (bAl (bAl (bAl (bD1 (Below.refl w5.heap.size w5)) _) _) _)) ?_
          clear hK K
          try simp only [Act.put, List.setIfInBounds_toArray, List.set_cons_zero, List.set_cons_succ]
          refine HeadW.some_ [4] (by kernel_rfl) (fun i hi => ?_)
          simp only [List.mem_cons, List.mem_nil_iff, or_false] at hi
          subst hi
          refine ⟨_, (by simp only [List.getElem?_toArray, List.getElem?_cons_succ, List.getElem?_cons_zero]; rfl), ?_⟩
          unfold StepAt
          intro K hK
          go_simp
          refine hK.out _ _ (HS6.out _ (bAl (bAl (bAl (bAl (bD1 (Below.refl w5.heap.size w5)) _) _) _) _)) ?_
          clear hK K
          try simp only [Act.put, List.setIfInBounds_toArray, List.set_cons_zero, List.set_cons_succ]
          refine HeadW.one (i := 8) (o := ?oi74) ?hi74 (by kernel_rfl) ?st74
          case hi74 => simp only [List.getElem?_toArray, List.getElem?_cons_succ, List.getElem?_cons_zero]; rfl
          case st74 =>
          intro K hK
          go_simp
          try dsimp only
          refine hK.out _ _ (HS6.out _ (by first | exact bAl (bAl (bAl (bAl (bD1 (Below.refl w5.heap.size w5)) _) _) _) _ | exact bD1 (bAl (bAl (bAl (bAl (Below.refl w5.heap.size w5) _) _) _) _))) ?_
          clear hK K
          try simp only [Act.put, List.setIfInBounds_toArray, List.set_cons_zero, List.set_cons_succ]
          refine HeadW.one (i := 9) (o := ?oi75) ?hi75 (by kernel_rfl) ?st75
          case hi75 => simp only [List.getElem?_toArray, List.getElem?_cons_succ, List.getElem?_cons_zero]; rfl
          case st75 =>
          intro K hK
          go_simp
          try dsimp only
          refine hK.out _ _ (HS6.out _ (by first | exact bAl (bAl (bAl (bAl (bD1 (Below.refl w5.heap.size w5)) _) _) _) _ | exact bD1 (bAl (bAl (bAl (bAl (Below.refl w5.heap.size w5) _) _) _) _))) ?_
          clear hK K
          try simp only [Act.put, List.setIfInBounds_toArray, List.set_cons_zero, List.set_cons_succ]
          refine HeadW.one (i := 10) (o := ?oi76) ?hi76 (by kernel_rfl) ?st76
          case hi76 => simp only [List.getElem?_toArray, List.getElem?_cons_succ, List.getElem?_cons_zero]; rfl
          case st76 =>
          intro K hK
          go_simp
          try dsimp only
          refine hK.out _ _ (HS6.out _ (by first | exact bAl (bAl (bAl (bAl (bD1 (Below.refl w5.heap.size w5)) _) _) _) _ | exact bD1 (bAl (bAl (bAl (bAl (Below.refl w5.heap.size w5) _) _) _) _))) ?_
          clear hK K
          try simp only [Act.put, List.setIfInBounds_toArray, List.set_cons_zero, List.set_cons_succ]
          refine HeadW.done (by kernel_rfl) ?_
          go_wp2_with fail
          go_meet
          case rel => exact ⟨(w5.heap.size + 1 + 1 + 1), (w5.heap.size + 1 + 1), (w5.heap.size + 1), (w5.heap.size), rfl, rfl, rfl, rfl, HREL.out (w5.heap.size + 1 + 1 + 1) (w5.heap.size + 1 + 1) (w5.heap.size + 1) (w5.heap.size) (by omega) (by omega) (by omega) (by omega) (by omega) (by omega) (by omega) (by omega) (by omega) (by omega) (by omega) (by omega) (by omega) (by omega) ⟩
  case rest =>
    obtain ⟨ga, gb, gc, gd, rfl, rfl, rfl, rfl, hF⟩ := hcut
    obtain ⟨nab, nac, nad, nbc, nbd, ncd⟩ := hF.ne
    obtain ⟨la, lb, lc, ld⟩ := hF.la
    have HF := Lib.hid hF
    have z0 := hF.ba.cell 0
    have z1 := hF.bb.cell 1
    have z2 := hF.bc.cell 2
    have z4 := hF.bd.cell 4
    have f0 := hF.ba.frozen 0
    have f1 := hF.bb.frozen 1
    have f2 := hF.bc.frozen 2
    have f4 := hF.bd.frozen 4
    have k0 := hF.ba.lt
    have k1 := hF.bb.lt
    have k2 := hF.bc.lt
    have k4 := hF.bd.lt
    have NE := Lib.hid (And.intro hF.ne hF.la)
    clear hF
    go_wp2_with fail
    clear z0 z1 z2 z4 f0 f1 f2 f4 k0 k1 k2 k4 nab nac nad nbc nbd ncd la lb lc ld
    obtain ⟨w9, hw9⟩ : ∃ w9, (((wc.setCell ⟨ga, 0, none⟩ (.int .i64 a1)).setCell ⟨gb, 1, none⟩ (.int .i64 a2)).setCell ⟨gc, 2, none⟩ (.string a3)).setCell ⟨gd, 4, none⟩ (.slice oe ne ce) = w9 := ⟨_, rfl⟩
    have hb9 : Below w5.heap.size w5 w9 := by rw [← hw9]; exact bSt (bSt (bSt (bSt HF.out.be NE.out.2.1 _) NE.out.2.2.1 _) NE.out.2.2.2.1 _) NE.out.2.2.2.2 _
    have Pa : Hid (Blk w9 ga 33 #[.int .i64 a1, .int .i64 x.ver, .string x.st, .slice p.o1 x.nP p.c1, .slice p.o2 x.nE p.c2]) := Lib.hid (by rw [← hw9]; have h := ((((HF.out.ba.set_ 0 (.int .i64 a1)).off (o := 1) (show ga ≠ gb by have := NE.out.1; omega) (.int .i64 a2)).off (o := 2) (show ga ≠ gc by have := NE.out.1; omega) (.string a3)).off (o := 4) (show ga ≠ gd by have := NE.out.1; omega) (.slice oe ne ce)); simpa using h)
    have Pb : Hid (Blk w9 gb 33 #[.int .i64 x.id, .int .i64 a2, .string x.st, .slice p.o1 x.nP p.c1, .slice p.o2 x.nE p.c2]) := Lib.hid (by rw [← hw9]; have h := ((((HF.out.bb.off (o := 0) (show gb ≠ ga by have := NE.out.1; omega) (.int .i64 a1)).set_ 1 (.int .i64 a2)).off (o := 2) (show gb ≠ gc by have := NE.out.1; omega) (.string a3)).off (o := 4) (show gb ≠ gd by have := NE.out.1; omega) (.slice oe ne ce)); simpa using h)
    have Pc : Hid (Blk w9 gc 33 #[.int .i64 x.id, .int .i64 x.ver, .string a3, .slice p.o1 x.nP p.c1, .slice p.o2 x.nE p.c2]) := Lib.hid (by rw [← hw9]; have h := ((((HF.out.bc.off (o := 0) (show gc ≠ ga by have := NE.out.1; omega) (.int .i64 a1)).off (o := 1) (show gc ≠ gb by have := NE.out.1; omega) (.int .i64 a2)).set_ 2 (.string a3)).off (o := 4) (show gc ≠ gd by have := NE.out.1; omega) (.slice oe ne ce)); simpa using h)
    have Pd : Hid (Blk w9 gd 33 #[.int .i64 x.id, .int .i64 x.ver, .string x.st, .slice p.o1 x.nP p.c1, .slice oe ne ce]) := Lib.hid (by rw [← hw9]; have h := ((((HF.out.bd.off (o := 0) (show gd ≠ ga by have := NE.out.1; omega) (.int .i64 a1)).off (o := 1) (show gd ≠ gb by have := NE.out.1; omega) (.int .i64 a2)).off (o := 2) (show gd ≠ gc by have := NE.out.1; omega) (.string a3)).set_ 4 (.slice oe ne ce)); simpa using h)
    rw [hw9]
    have HB9 := Lib.hid (bTr HB5.out hb9)
    have HS9 := Lib.hid (HS5.out.later hb9)
    have HE9 := Lib.hid (HE0.out.later HB9.out)
    clear hw9 hb9 HF NE HREL
    have HA := Lib.hid (fun (i v : Int) (s : ByteArray) (q : BelowOf w9) => (show ItmIn q.to q.to.heap.size ⟨p.o1, p.c1, p.o2, p.c2⟩ ⟨i, v, s, x.nP, x.P, x.nE, x.E⟩ from ⟨(HS9.out.later q.h).t, (HS9.out.later q.h).e, HS9.out.h1, HS9.out.h2⟩))
    have HD := Lib.hid (fun (i v : Int) (s : ByteArray) (q : BelowOf w9) => (show ItmIn q.to q.to.heap.size ⟨p.o1, p.c1, oe, ce⟩ ⟨i, v, s, x.nP, x.P, ne, fun i => ze.getD i 0⟩ from ⟨(HS9.out.later q.h).t, HE9.out.later q.h, HS9.out.h1, HE1.out⟩))
    have qa0 : ∀ q : BelowOf w9, q.to.cell? ⟨ga, 0, none⟩ = some (.int .i64 a1) := bq_cell Pa.out.lt (Pa.out.cell 0)
    have qa1 : ∀ q : BelowOf w9, q.to.cell? ⟨ga, 1, none⟩ = some (.int .i64 x.ver) := bq_cell Pa.out.lt (Pa.out.cell 1)
    have qa2 : ∀ q : BelowOf w9, q.to.cell? ⟨ga, 2, none⟩ = some (.string x.st) := bq_cell Pa.out.lt (Pa.out.cell 2)
    have qa3 : ∀ q : BelowOf w9, q.to.cell? ⟨ga, 3, none⟩ = some (.slice p.o1 x.nP p.c1) := bq_cell Pa.out.lt (Pa.out.cell 3)
    have qa4 : ∀ q : BelowOf w9, q.to.cell? ⟨ga, 4, none⟩ = some (.slice p.o2 x.nE p.c2) := bq_cell Pa.out.lt (Pa.out.cell 4)
    have qb0 : ∀ q : BelowOf w9, q.to.cell? ⟨gb, 0, none⟩ = some (.int .i64 x.id) := bq_cell Pb.out.lt (Pb.out.cell 0)
    have qb1 : ∀ q : BelowOf w9, q.to.cell? ⟨gb, 1, none⟩ = some (.int .i64 a2) := bq_cell Pb.out.lt (Pb.out.cell 1)
    have qb2 : ∀ q : BelowOf w9, q.to.cell? ⟨gb, 2, none⟩ = some (.string x.st) := bq_cell Pb.out.lt (Pb.out.cell 2)
    have qb3 : ∀ q : BelowOf w9, q.to.cell? ⟨gb, 3, none⟩ = some (.slice p.o1 x.nP p.c1) := bq_cell Pb.out.lt (Pb.out.cell 3)
    have qb4 : ∀ q : BelowOf w9, q.to.cell? ⟨gb, 4, none⟩ = some (.slice p.o2 x.nE p.c2) := bq_cell Pb.out.lt (Pb.out.cell 4)
    have qc0 : ∀ q : BelowOf w9, q.to.cell? ⟨gc, 0, none⟩ = some (.int .i64 x.id) := bq_cell Pc.out.lt (Pc.out.cell 0)
    have qc1 : ∀ q : BelowOf w9, q.to.cell? ⟨gc, 1, none⟩ = some (.int .i64 x.ver) := bq_cell Pc.out.lt (Pc.out.cell 1)
    have qc2 : ∀ q : BelowOf w9, q.to.cell? ⟨gc, 2, none⟩ = some (.string a3) := bq_cell Pc.out.lt (Pc.out.cell 2)
    have qc3 : ∀ q : BelowOf w9, q.to.cell? ⟨gc, 3, none⟩ = some (.slice p.o1 x.nP p.c1) := bq_cell Pc.out.lt (Pc.out.cell 3)
    have qc4 : ∀ q : BelowOf w9, q.to.cell? ⟨gc, 4, none⟩ = some (.slice p.o2 x.nE p.c2) := bq_cell Pc.out.lt (Pc.out.cell 4)
    have qd0 : ∀ q : BelowOf w9, q.to.cell? ⟨gd, 0, none⟩ = some (.int .i64 x.id) := bq_cell Pd.out.lt (Pd.out.cell 0)
    have qd1 : ∀ q : BelowOf w9, q.to.cell? ⟨gd, 1, none⟩ = some (.int .i64 x.ver) := bq_cell Pd.out.lt (Pd.out.cell 1)
    have qd2 : ∀ q : BelowOf w9, q.to.cell? ⟨gd, 2, none⟩ = some (.string x.st) := bq_cell Pd.out.lt (Pd.out.cell 2)
    have qd3 : ∀ q : BelowOf w9, q.to.cell? ⟨gd, 3, none⟩ = some (.slice p.o1 x.nP p.c1) := bq_cell Pd.out.lt (Pd.out.cell 3)
    have qd4 : ∀ q : BelowOf w9, q.to.cell? ⟨gd, 4, none⟩ = some (.slice oe ne ce) := bq_cell Pd.out.lt (Pd.out.cell 4)
    refine wp_region_below (by kernel_rfl) (by kernel_rfl) ?_
    repeat (go_big_quiet_step (first | (go_at_call 19; first | exact bq_call (ck_lit _ _ _ _ _ _ _ _ _ x.P x.E _ (HA.out _ _ _ _)) | exact bq_call (ck_lit _ _ _ _ _ _ _ _ _ x.P (fun i => ze.getD i 0) _ (HD.out _ _ _ _))) | (go_at_call 20; first | exact bq_call (rck_lit _ _ _ _ _ _ _ _ _ x.P x.E _ (HA.out _ _ _ _)) | exact bq_call (rck_lit _ _ _ _ _ _ _ _ _ x.P (fun i => ze.getD i 0) _ (HD.out _ _ _ _))) | (go_at_call 21; first | exact bq_call (to_lit _ _ _ _ _ _ _ _ _ x.P x.E _ (HA.out _ _ _ _)) | exact bq_call (to_lit _ _ _ _ _ _ _ _ _ x.P (fun i => ze.getD i 0) _ (HD.out _ _ _ _))) | (go_at_call 22; first | exact bq_call (rto_lit _ _ _ _ _ _ _ _ _ x.P x.E _ (HA.out _ _ _ _)) | exact bq_call (rto_lit _ _ _ _ _ _ _ _ _ x.P (fun i => ze.getD i 0) _ (HD.out _ _ _ _))) | (go_at_call 14; exact bq_call (awake_any _))))
    refine wpQuiet_nil ?_
    intro w8 hw'
    have HX := Lib.hid (show Below w9.heap.size w9 w8 by obtain ⟨pw, h⟩ := hw'; exact h ▸ pw.h)
    clear hw' qa0 qa1 qa2 qa3 qa4 qb0 qb1 qb2 qb3 qb4 qc0 qc1 qc2 qc3 qc4 qd0 qd1 qd2 qd3 qd4
    go_wp2_with fail
    go_ret
    exact ⟨rfl, bTr HB9.out HX.out⟩
end Go.Proofs.Ytjciniffkdadaaa
