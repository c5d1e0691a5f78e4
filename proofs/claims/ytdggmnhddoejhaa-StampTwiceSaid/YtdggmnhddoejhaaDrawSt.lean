/-
  A stamp off the tape.
-/
import Derived.Test.YtdggmnhddoejhaaTapeB
import Derived.Test.YtdggmnhddoejhaaPlain
namespace Go.Proofs.Ytdggmnhddoejhaa
open Go.RowKit
set_option linter.unusedSimpArgs false
set_option linter.unusedVariables false

def GetStamp (w : World) (B g : Nat) (o : Option Addr) (n c : Nat) (z : Nat → Int) (e : Ending) (w' : World) : Prop :=
  ∃ x : St, e = .returned (.agg #[.int .i64 x.1, .int .i64 x.2.1, .int .i64 x.2.2]) ∧ Tp w' B g o n c z ∧ w.grownBy w' (some g)
/-- a state inside Stamp: the result's block R, the stamp's block K -/
structure InSt (w : World) (B g : Nat) (o : Option Addr) (n c : Nat) (z : Nat → Int) (K : Nat) (x : St) (wx : World) : Prop where
  tp : Tp wx B g o n c z
  gr : w.grownBy wx (some g)
  res : Blk wx w.heap.size 23 #[.int .i64 0, .int .i64 0, .int .i64 0]
  st : Blk wx K 23 #[.int .i64 x.1, .int .i64 x.2.1, .int .i64 x.2.2]
  lt : w.heap.size < K
  gl : g < w.heap.size
theorem InSt.on {w : World} {B g : Nat} {o : Option Addr} {n c : Nat} {z : Nat → Int} {K : Nat} {x : St} {w1 w2 : World} (h : InSt w B g o n c z K x w1) (ht : Tp w2 B g o n c z) (hg : w1.grownBy w2 (some g)) : InSt w B g o n c z K x w2 :=
  ⟨ht, gTr h.gr hg, h.res.grown hg (by have := h.gl; intro e; cases e; omega), h.st.grown hg (by have := h.gl; have := h.lt; intro e; cases e; omega), h.lt, h.gl⟩
theorem InSt.cells {w : World} {B g : Nat} {o : Option Addr} {n c : Nat} {z : Nat → Int} {K : Nat} {x : St} {w1 : World} (h : InSt w B g o n c z K x w1) :
    (w1.cell? ⟨K, 0, none⟩ = some (.int .i64 x.1) ∧ w1.cell? ⟨K, 1, none⟩ = some (.int .i64 x.2.1) ∧ w1.cell? ⟨K, 2, none⟩ = some (.int .i64 x.2.2)) ∧ (w1.frozen? ⟨K, 0, none⟩ = false ∧ w1.frozen? ⟨K, 1, none⟩ = false ∧ w1.frozen? ⟨K, 2, none⟩ = false) ∧
    (w1.cell? ⟨w.heap.size, 0, none⟩ = some (.int .i64 0) ∧ w1.cell? ⟨w.heap.size, 1, none⟩ = some (.int .i64 0) ∧ w1.cell? ⟨w.heap.size, 2, none⟩ = some (.int .i64 0)) ∧ (w1.frozen? ⟨w.heap.size, 0, none⟩ = false ∧ w1.frozen? ⟨w.heap.size, 1, none⟩ = false ∧ w1.frozen? ⟨w.heap.size, 2, none⟩ = false) ∧ K < w1.heap.size ∧ w.heap.size < w1.heap.size :=
  ⟨⟨h.st.cell 0, h.st.cell 1, h.st.cell 2⟩, ⟨h.st.frozen 0, h.st.frozen 1, h.st.frozen 2⟩, ⟨h.res.cell 0, h.res.cell 1, h.res.cell 2⟩, ⟨h.res.frozen 0, h.res.frozen 1, h.res.frozen 2⟩, h.st.lt, h.res.lt⟩
theorem InSt.set {w : World} {B g : Nat} {o : Option Addr} {n c : Nat} {z : Nat → Int} {K : Nat} {x y : St} {w1 : World} (h : InSt w B g o n c z K x w1) (i : Nat) (v : Int) (hy : (#[.int .i64 x.1, .int .i64 x.2.1, .int .i64 x.2.2] : Array Value).setIfInBounds i (.int .i64 v) = #[.int .i64 y.1, .int .i64 y.2.1, .int .i64 y.2.2]) : InSt w B g o n c z K y (w1.setCell ⟨K, i, none⟩ (.int .i64 v)) :=
  ⟨h.tp.setFar (by have := h.gl; have := h.lt; show g < K; omega) _, gNew h.gr (by have := h.lt; show w.heap.size ≤ K; omega) _, h.res.far (by have := h.lt; show w.heap.size ≠ K; omega) _, by have := h.st.set_ i (.int .i64 v); rw [hy] at this; exact this, h.lt, h.gl⟩
theorem InSt.fin {w : World} {B g : Nat} {o : Option Addr} {n c : Nat} {z : Nat → Int} {K : Nat} {x : St} {w1 : World} (h : InSt w B g o n c z K x w1) (u v t : Value) :
    Tp (((w1.setCell ⟨w.heap.size, 0, none⟩ u).setCell ⟨w.heap.size, 1, none⟩ v).setCell ⟨w.heap.size, 2, none⟩ t) B g o n c z ∧ w.grownBy (((w1.setCell ⟨w.heap.size, 0, none⟩ u).setCell ⟨w.heap.size, 1, none⟩ v).setCell ⟨w.heap.size, 2, none⟩ t) (some g) :=
  ⟨((h.tp.setFar (by exact h.gl) _).setFar (by exact h.gl) _).setFar (by exact h.gl) _, gNew (gNew (gNew h.gr (Nat.le_refl _) _) (Nat.le_refl _) _) (Nat.le_refl _) _⟩

set_option maxRecDepth 100000 in
set_option maxHeartbeats 4000000 in
theorem tape_stamp (N : Int) (hN : 1 ≤ N) (hN1 : N < 1000000) {w : World} {B g : Nat} {o : Option Addr} {n c : Nat} {z : Nat → Int} (h : Tp w B g o n c z) :
    Calls Try.prog 37 #[.pointer (some ⟨g, 0, none⟩), .int .i64 N] w (GetStamp w B g o n c z) := by
  have hgl := h.lt
  have hne : some w.heap.size ≠ some g := by intro e; cases e; omega
  have HT := Lib.hid (h.alloc (.cells #[.int .i64 0, .int .i64 0, .int .i64 0] 23))
  clear h
  go_enter Try.func37, Try.ntmps37
  go_wp2_with fail
  refine (tape_range 0 24 (by omega) (by omega) (by omega) HT.out).mono ?_
  rintro e w1 ⟨t, _, rfl, ht1, hg1⟩
  have B1 := Lib.hid ((Blk.newAt (w := w) (t := 23) (cs := #[.int .i64 0, .int .i64 0, .int .i64 0]) rfl).grown hg1 hne)
  have G1 := Lib.hid (gTr (gBe (bAl (Below.refl _ w) _)) hg1)
  clear hg1 HT
  go_wp2_with fail
  refine (tape_range 0 3 (by omega) (by omega) (by omega) ht1).mono ?_
  rintro e w2 ⟨s, _, rfl, ht2, hg2⟩
  have B2 := Lib.hid (B1.out.grown hg2 hne)
  have G2 := Lib.hid (gTr G1.out hg2)
  clear hg2 ht1 B1 G1
  go_wp2_with fail
  refine (tape_range 0 9 (by omega) (by omega) (by omega) ht2).mono ?_
  rintro e w3 ⟨q, _, rfl, ht3, hg3⟩
  have S3 := Lib.hid (show InSt w B g o n c z w3.heap.size (t, s, q) (w3.alloc (.cells #[.int .i64 t, .int .i64 s, .int .i64 q] 23)) from
    ⟨ht3.alloc _, gAlc (gTr G2.out hg3) _, (B2.out.grown hg3 hne).alloc _, Blk.new _ _ _, (B2.out.grown hg3 hne).lt, hgl⟩)
  have hK := S3.out.lt
  clear hg3 ht3 ht2 B2 G2
  go_wp2_with fail
  refine (tape_one N hN hN1 S3.out.tp).mono ?_
  rintro e w4 ⟨v, rfl, ht4, hg4⟩
  have S4 := Lib.hid (S3.out.on ht4 hg4)
  clear hg4 ht4 S3
  generalize w3.heap.size = K at S4 hK ⊢
  cases v
  · obtain ⟨⟨a0, a1, a2⟩, ⟨f0, f1, f2⟩, ⟨c0, c1, c2⟩, ⟨k0, k1, k2⟩, l0, l1⟩ := S4.out.cells
    go_wp2
    refine bodyPost_ret (v := .agg #[.int .i64 t, .int .i64 s, .int .i64 q]) (by simp [results, Try.results37, go_sem, c0, c1, c2, l1]) rfl ⟨(t, s, q), rfl, S4.out.fin _ _ _⟩
  · go_wp2_with fail
    refine (tape_next 3 (by omega) (by omega) S4.out.tp).mono ?_
    rintro e w5 ⟨u, ⟨hu0, hu1⟩, rfl, ht5, hg5⟩
    have S5 := Lib.hid (S4.out.on ht5 hg5)
    clear hg5 ht5 S4
    have hKne : K ≠ w.heap.size := by omega
    by_cases h0 : u = 0
    · subst h0
      go_wp2_with fail
      refine (tape_wild S5.out.tp).mono ?_
      rintro e w6 ⟨y, _, rfl, ht6, hg6⟩
      have S6 := Lib.hid (S5.out.on ht6 hg6)
      have S7 := Lib.hid (S6.out.set (y := (y, s, q)) 0 y (by simp))
      obtain ⟨⟨a0, a1, a2⟩, ⟨f0, f1, f2⟩, ⟨c0, c1, c2⟩, ⟨k0, k1, k2⟩, l0, l1⟩ := S6.out.cells
      clear hg6 ht6 S5 S6
      go_wp2
      refine bodyPost_ret (v := .agg #[.int .i64 y, .int .i64 s, .int .i64 q]) (by simp [results, Try.results37, go_sem, c0, c1, c2, l1, hKne]) rfl ⟨(y, s, q), rfl, S7.out.fin _ _ _⟩
    · by_cases h1 : u = 1
      · subst h1
        go_wp2_with fail
        refine (tape_wild S5.out.tp).mono ?_
        rintro e w6 ⟨y, _, rfl, ht6, hg6⟩
        have S6 := Lib.hid (S5.out.on ht6 hg6)
        have S7 := Lib.hid (S6.out.set (y := (t, y, q)) 1 y (by simp))
        obtain ⟨⟨a0, a1, a2⟩, ⟨f0, f1, f2⟩, ⟨c0, c1, c2⟩, ⟨k0, k1, k2⟩, l0, l1⟩ := S6.out.cells
        clear hg6 ht6 S5 S6
        go_wp2
        refine bodyPost_ret (v := .agg #[.int .i64 t, .int .i64 y, .int .i64 q]) (by simp [results, Try.results37, go_sem, c0, c1, c2, l1, hKne]) rfl ⟨(t, y, q), rfl, S7.out.fin _ _ _⟩
      · obtain rfl : u = 2 := by omega
        go_wp2_with fail
        refine (tape_wild S5.out.tp).mono ?_
        rintro e w6 ⟨y, _, rfl, ht6, hg6⟩
        have S6 := Lib.hid (S5.out.on ht6 hg6)
        have S7 := Lib.hid (S6.out.set (y := (t, s, y)) 2 y (by simp))
        obtain ⟨⟨a0, a1, a2⟩, ⟨f0, f1, f2⟩, ⟨c0, c1, c2⟩, ⟨k0, k1, k2⟩, l0, l1⟩ := S6.out.cells
        clear hg6 ht6 S5 S6
        go_wp2
        refine bodyPost_ret (v := .agg #[.int .i64 t, .int .i64 s, .int .i64 y]) (by simp [results, Try.results37, go_sem, c0, c1, c2, l1, hKne]) rfl ⟨(t, s, y), rfl, S7.out.fin _ _ _⟩
end Go.Proofs.Ytdggmnhddoejhaa
