/-
  A part drawn from a tape.
-/
import Derived.Test.YtjciniffkdadaaaIPart
import Derived.Test.YtjciniffkdadaaaTapeB
import Derived.Test.YtjciniffkdadaaaHeldTail
namespace Go.Proofs.Ytjciniffkdadaaa
open Go.RowKit
set_option linter.unusedSimpArgs false
set_option linter.unusedVariables false

def PartR (N : Int) (w : World) (B g : Nat) (o : Option Addr) (n c : Nat) (z : Nat → Int) (e : Ending) (w' : World) : Prop :=
  ∃ p : Pt, e = .returned (.agg (ptC p)) ∧ Tp w' B g o n c z ∧ w.grownBy w' (some g) ∧ (N = 0 → p.okB = true)
/-- while a part is being drawn: the tape, the part's own block gp, the result's block -/
structure Px (w0 : World) (B g : Nat) (o : Option Addr) (n c : Nat) (z : Nat → Int) (gp : Nat) (p : Pt) (wr : World) : Prop where
  tp : Tp wr B g o n c z
  gr : w0.grownBy wr (some g)
  px : Blk wr gp 23 (ptC p)
  rs : ∃ x0 x1 x2 x3 x4 x5 : Value, Blk wr w0.heap.size 23 #[x0, x1, x2, x3, x4, x5]
  gl : g < w0.heap.size
  ln : w0.heap.size < gp
section
variable {w0 : World} {B g : Nat} {o : Option Addr} {n c : Nat} {z : Nat → Int} {gp : Nat} {p : Pt} {wr w2 : World}
theorem Px.on (h : Px w0 B g o n c z gp p wr) (ht : Tp w2 B g o n c z) (hg : wr.grownBy w2 (some g)) : Px w0 B g o n c z gp p w2 := by
  have hl := h.gl
  have hn := h.ln
  exact ⟨ht, gTr h.gr hg, h.px.grown hg (fun e => by injection e; omega), by obtain ⟨x0, x1, x2, x3, x4, x5, hr⟩ := h.rs; exact ⟨x0, x1, x2, x3, x4, x5, hr.grown hg (fun e => by injection e; omega)⟩, h.gl, h.ln⟩
theorem Px.later (h : Px w0 B g o n c z gp p wr) (hb : Below wr.heap.size wr w2) : Px w0 B g o n c z gp p w2 := h.on (h.tp.later hb) (gBe hb)
theorem Px.alloc (h : Px w0 B g o n c z gp p wr) (x : Obj) : Px w0 B g o n c z gp p (wr.alloc x) := h.later (bAl (Below.refl _ _) x)
theorem Px.drew (h : Px w0 B g o n c z gp p wr) : Px w0 B g o n c z gp p wr.drew := h.later (bD1 (Below.refl _ _))
theorem Px.set_ (h : Px w0 B g o n c z gp p wr) (i : Nat) (u : Value) {q : Pt} (hq : (ptC p).setIfInBounds i u = ptC q) : Px w0 B g o n c z gp q (wr.setCell ⟨gp, i, none⟩ u) := by
  have hl := h.gl
  have hn := h.ln
  refine ⟨h.tp.setFar (by show g < gp; omega) _, gNew h.gr (by show w0.heap.size ≤ gp; omega) _, ?_, ?_, h.gl, h.ln⟩
  · rw [← hq]; exact h.px.set_ i u
  · obtain ⟨x0, x1, x2, x3, x4, x5, hr⟩ := h.rs
    exact ⟨x0, x1, x2, x3, x4, x5, hr.off (by omega) _⟩
theorem Px.res (h : Px w0 B g o n c z gp p wr) (i : Nat) (hi : i < 6) (u : Value) : Px w0 B g o n c z gp p (wr.setCell ⟨w0.heap.size, i, none⟩ u) := by
  have hl := h.gl
  have hn := h.ln
  obtain ⟨x0, x1, x2, x3, x4, x5, hr⟩ := h.rs
  refine ⟨h.tp.setFar (by show g < w0.heap.size; omega) _, gNew h.gr (Nat.le_refl _) _, h.px.off (by omega) _, ?_, h.gl, h.ln⟩
  have hs := hr.set_ i u
  have : i = 0 ∨ i = 1 ∨ i = 2 ∨ i = 3 ∨ i = 4 ∨ i = 5 := by omega
  rcases this with rfl | rfl | rfl | rfl | rfl | rfl
  · exact ⟨u, x1, x2, x3, x4, x5, by simpa using hs⟩
  · exact ⟨x0, u, x2, x3, x4, x5, by simpa using hs⟩
  · exact ⟨x0, x1, u, x3, x4, x5, by simpa using hs⟩
  · exact ⟨x0, x1, x2, u, x4, x5, by simpa using hs⟩
  · exact ⟨x0, x1, x2, x3, u, x5, by simpa using hs⟩
  · exact ⟨x0, x1, x2, x3, x4, u, by simpa using hs⟩
theorem Px.facts (h : Px w0 B g o n c z gp p wr) : (wr.cell? ⟨gp, 0, none⟩ = some (.int .i64 p.kd) ∧ wr.cell? ⟨gp, 1, none⟩ = some (.int .i64 p.mx) ∧ wr.cell? ⟨gp, 2, none⟩ = some (.int .i64 p.tp) ∧ wr.cell? ⟨gp, 3, none⟩ = some (.int .i64 p.ob) ∧ wr.cell? ⟨gp, 4, none⟩ = some (.int .i64 p.op) ∧ wr.cell? ⟨gp, 5, none⟩ = some (.int .i64 p.ky)) ∧
    (wr.frozen? ⟨gp, 0, none⟩ = false ∧ wr.frozen? ⟨gp, 1, none⟩ = false ∧ wr.frozen? ⟨gp, 2, none⟩ = false ∧ wr.frozen? ⟨gp, 3, none⟩ = false ∧ wr.frozen? ⟨gp, 4, none⟩ = false ∧ wr.frozen? ⟨gp, 5, none⟩ = false) ∧ gp < wr.heap.size :=
  ⟨⟨h.px.cell 0, h.px.cell 1, h.px.cell 2, h.px.cell 3, h.px.cell 4, h.px.cell 5⟩, ⟨h.px.frozen 0, h.px.frozen 1, h.px.frozen 2, h.px.frozen 3, h.px.frozen 4, h.px.frozen 5⟩, h.px.lt⟩
theorem Px.done {N : Int} (h : Px w0 B g o n c z gp p wr) (h0 : N = 0 → p.okB = true) : PartR N w0 B g o n c z (.returned (.agg (ptC p))) wr := ⟨p, rfl, h.tp, h.gr, h0⟩
end
theorem pickL (cs : List Int) (h0 : 1 ≤ cs.length) (h1 : cs.length < 1000) {B g : Nat} {o : Option Addr} {n c : Nat} {z : Nat → Int} (W : World) (hX : Tp W B g o n c z) :
    Calls Try.prog 41 #[.pointer (some ⟨g, 0, none⟩), .slice (some ⟨W.heap.size, 0, none⟩) cs.length cs.length] (W.alloc (.cells (cs.map fun x => Value.int .i64 x).toArray 3)) (GetInt (fun v => v ∈ cs) (W.alloc (.cells (cs.map fun x => Value.int .i64 x).toArray 3)) B g o n c z) := by
  refine (tape_pick W.heap.size cs.length cs.length (inAt cs) (by omega) (by omega) (hX.alloc _) ?_ (by simp) (by have := hX.lt; omega)).mono ?_
  · intro i hi
    have h := (Blk.new W 3 (cs.map fun x => Value.int .i64 x).toArray).cell i
    rw [h]
    simp [inAt, hi]
  · rintro e w1 ⟨u, ⟨i, hi, rfl⟩, he, ht, hgr⟩
    exact ⟨_, by unfold inAt; rw [List.getD_eq_getElem?_getD, List.getElem?_eq_getElem hi]; exact List.getElem_mem hi, he, ht, hgr⟩
set_option maxRecDepth 100000 in
set_option maxHeartbeats 8000000 in
theorem part_any (N : Int) (hN : 0 ≤ N) (hN1 : N < 1000) {w : World} {B g : Nat} {o : Option Addr} {n c : Nat} {z : Nat → Int} (h : Tp w B g o n c z) :
    Calls Try.prog 23 #[.pointer (some ⟨g, 0, none⟩), .int .i64 N] w (PartR N w B g o n c z) := by
  have H := Lib.hid h
  clear h
  go_enter Try.func23, Try.ntmps23
  go_wp2_with fail
  have G0 : Hid (w.grownBy (w.alloc (.cells #[.int .i64 0, .int .i64 0, .int .i64 0, .int .i64 0, .int .i64 0, .int .i64 0] 23)) (some g)) := Lib.hid (gAlc (gDr w 0 _) _)
  have PR0 : Hid (Blk (w.alloc (.cells #[.int .i64 0, .int .i64 0, .int .i64 0, .int .i64 0, .int .i64 0, .int .i64 0] 23)) w.heap.size 23 #[.int .i64 0, .int .i64 0, .int .i64 0, .int .i64 0, .int .i64 0, .int .i64 0]) := Lib.hid (Blk.new _ _ _)
  have hgl := H.out.lt
  have hne : some w.heap.size ≠ some g := fun e => by injection e; omega
  have T0 := Lib.hid (H.out.alloc (.cells #[.int .i64 0, .int .i64 0, .int .i64 0, .int .i64 0, .int .i64 0, .int .i64 0] 23))
  clear H
  refine (tape_range 1 12 (by omega) (by omega) (by omega) T0.out).mono ?_
  rintro e w1 ⟨v1, hv1, rfl, ht1, hg1⟩
  have T1 := Lib.hid ht1
  have G1 := Lib.hid (gTr G0.out hg1)
  have PR1 := Lib.hid (PR0.out.grown hg1 hne)
  have V1 := Lib.hid hv1
  clear ht1 hg1 hv1 T0 G0 PR0
  go_wp2_with fail
  refine (tape_next 4 (by omega) (by omega) T1.out).mono ?_
  rintro e w2 ⟨v2, hv2, rfl, ht2, hg2⟩
  have T2 := Lib.hid ht2
  have G2 := Lib.hid (gTr G1.out hg2)
  have PR2 := Lib.hid (PR1.out.grown hg2 hne)
  have V2 := Lib.hid hv2
  clear ht2 hg2 hv2 T1 G1 PR1
  go_wp2_with fail
  refine (tape_next 3 (by omega) (by omega) T2.out).mono ?_
  rintro e w3 ⟨v3, hv3, rfl, ht3, hg3⟩
  have T3 := Lib.hid ht3
  have G3 := Lib.hid (gTr G2.out hg3)
  have PR3 := Lib.hid (PR2.out.grown hg3 hne)
  have V3 := Lib.hid hv3
  clear ht3 hg3 hv3 T2 G2 PR2
  go_wp2_with fail
  have S3 : Hid (Px w B g o n c z w3.heap.size ⟨1, v1, v2, v3, 0, 0⟩ (w3.alloc (.cells #[.int .i64 1, .int .i64 v1, .int .i64 v2, .int .i64 v3, .int .i64 0, .int .i64 0] 23))) := Lib.hid
    ⟨T3.out.alloc _, gAlc G3.out _, Blk.new _ _ _, ⟨_, _, _, _, _, _, PR3.out.alloc _⟩, hgl, Nat.lt_of_lt_of_le PR3.out.lt (Nat.le_refl _)⟩
  generalize w3.alloc _ = w4 at S3 ⊢
  generalize w3.heap.size = gp at S3 ⊢
  clear T3 G3 PR3
  refine (tape_next 3 (by omega) (by omega) S3.out.tp).mono ?_
  rintro e w5 ⟨v5, hv5, rfl, ht5, hg5⟩
  have S5 := Lib.hid (S3.out.on ht5 hg5)
  clear ht5 hg5 S3
  by_cases h5 : v5 = 0
  · have h5' : (v5 == 0) = true := by rw [h5]; rfl
    clear h5 hv5
    go_wp2_with fail
    refine (tape_range 2 5 (by omega) (by omega) (by omega) S5.out.tp).mono ?_
    rintro e w6 ⟨v6, ⟨h60, h61⟩, rfl, ht6, hg6⟩
    have S6 := Lib.hid (S5.out.on ht6 hg6)
    clear ht6 hg6 S5
    obtain ⟨⟨e0, e1, e2, e3, e4, e5⟩, ⟨i0, i1, i2, i3, i4, i5⟩, e6⟩ := S6.out.facts
    dsimp only at e0 e1 e2 e3 e4 e5
    have hln := S6.out.ln
    go_wp2_with fail
    have S7 := Lib.hid ((S6.out.set_ 0 (.int .i64 2) (q := ⟨2, v1, v2, v3, 0, 0⟩) rfl).set_ 4 (.int .i64 v6) (q := ⟨2, v1, v2, v3, v6, 0⟩) rfl)
    clear e0 e1 e2 e3 e4 e5 i0 i1 i2 i3 i4 i5 e6 hln S6
    refine (tape_next v6 (by omega) (by omega) S7.out.tp).mono ?_
    rintro e w8 ⟨v8, ⟨h80, h81⟩, rfl, ht8, hg8⟩
    have S8 := Lib.hid (S7.out.on ht8 hg8)
    clear ht8 hg8 S7
    go_wp2_with fail
    refine (tape_range 1 3 (by omega) (by omega) (by omega) S8.out.tp).mono ?_
    rintro e w9 ⟨v9, ⟨h90, h91⟩, rfl, ht9, hg9⟩
    have S9 := Lib.hid (S8.out.on ht9 hg9)
    clear ht9 hg9 S8
    have VV := Lib.hid (show 2 ≤ v6 ∧ v6 ≤ 5 ∧ 0 ≤ v8 ∧ v8 < v6 ∧ 1 ≤ v9 ∧ v9 ≤ 3 from ⟨h60, h61, h80, h81, h90, h91⟩)
    clear h60 h61 h80 h81 h90 h91
    by_cases hN0 : N = 0
    · have hNn : ¬ 0 < N := by omega
      have HD := Lib.hid (fun (pp : Pt) W (hX : Px w B g o n c z gp ⟨2, v9, v2, v3, v6, v8⟩ W) => hX.done (N := N) (fun _ => decide_eq_true (show Pt.ok _ from by unfold Pt.ok Pt.fit; have := VV.out; have := V2.out; have := V3.out; dsimp only; omega)))
      obtain ⟨⟨e0, e1, e2, e3, e4, e5⟩, ⟨i0, i1, i2, i3, i4, i5⟩, e6⟩ := S9.out.facts
      dsimp only at e0 e1 e2 e3 e4 e5
      have hln := S9.out.ln
      obtain ⟨x0, x1, x2, x3, x4, x5, hr⟩ := S9.out.rs
      have r0 := hr.cell 0
      have r1 := hr.cell 1
      have r2 := hr.cell 2
      have r3 := hr.cell 3
      have r4 := hr.cell 4
      have r5 := hr.cell 5
      have f0 := hr.frozen 0
      have f1 := hr.frozen 1
      have f2 := hr.frozen 2
      have f3 := hr.frozen 3
      have f4 := hr.frozen 4
      have f5 := hr.frozen 5
      have rl := hr.lt
      clear hr
      go_wp2_with fail
      exact bodyPost_ret (v := .agg #[.int .i64 2, .int .i64 v9, .int .i64 v2, .int .i64 v3, .int .i64 v6, .int .i64 v8]) (by simp [results, Try.results23, go_sem, r0, r1, r2, r3, r4, r5, rl]) rfl (HD.out Pt.z _ ((((((((S9.out.set_ 5 (.int .i64 v8) (q := ⟨2, v1, v2, v3, v6, v8⟩) rfl).set_ 1 (.int .i64 v9) (q := ⟨2, v9, v2, v3, v6, v8⟩) rfl).res 0 (by decide) _).res 1 (by decide) _).res 2 (by decide) _).res 3 (by decide) _).res 4 (by decide) _).res 5 (by decide) _))
    · have hNp : 0 < N := by omega
      have HD := Lib.hid (fun pp W (hX : Px w B g o n c z gp pp W) => hX.done (N := N) (fun h0 => absurd h0 hN0))
      clear hN0
      obtain ⟨⟨e0, e1, e2, e3, e4, e5⟩, ⟨i0, i1, i2, i3, i4, i5⟩, e6⟩ := S9.out.facts
      dsimp only at e0 e1 e2 e3 e4 e5
      have hln := S9.out.ln
      go_wp2_with fail
      refine (tape_one N (by omega) (by omega) ((S9.out.set_ 5 (.int .i64 v8) (q := ⟨2, v1, v2, v3, v6, v8⟩) rfl).set_ 1 (.int .i64 v9) (q := ⟨2, v9, v2, v3, v6, v8⟩) rfl).tp).mono ?_
      rintro e w6 ⟨bb, rfl, ht6, hg6⟩
      have S6 := Lib.hid (((S9.out.set_ 5 (.int .i64 v8) (q := ⟨2, v1, v2, v3, v6, v8⟩) rfl).set_ 1 (.int .i64 v9) (q := ⟨2, v9, v2, v3, v6, v8⟩) rfl).on ht6 hg6)
      clear e0 e1 e2 e3 e4 e5 i0 i1 i2 i3 i4 i5 e6 hln ht6 hg6 S9
      cases bb
      · obtain ⟨⟨e0, e1, e2, e3, e4, e5⟩, ⟨i0, i1, i2, i3, i4, i5⟩, e6⟩ := S6.out.facts
        dsimp only at e0 e1 e2 e3 e4 e5
        have hln := S6.out.ln
        obtain ⟨x0, x1, x2, x3, x4, x5, hr⟩ := S6.out.rs
        have r0 := hr.cell 0
        have r1 := hr.cell 1
        have r2 := hr.cell 2
        have r3 := hr.cell 3
        have r4 := hr.cell 4
        have r5 := hr.cell 5
        have f0 := hr.frozen 0
        have f1 := hr.frozen 1
        have f2 := hr.frozen 2
        have f3 := hr.frozen 3
        have f4 := hr.frozen 4
        have f5 := hr.frozen 5
        have rl := hr.lt
        clear hr
        go_wp2_with fail
        exact bodyPost_ret (v := .agg #[.int .i64 2, .int .i64 v9, .int .i64 v2, .int .i64 v3, .int .i64 v6, .int .i64 v8]) (by simp [results, Try.results23, go_sem, r0, r1, r2, r3, r4, r5, rl]) rfl (HD.out _ _ ((((((S6.out.res 0 (by decide) _).res 1 (by decide) _).res 2 (by decide) _).res 3 (by decide) _).res 4 (by decide) _).res 5 (by decide) _))
      · go_wp2_with fail
        refine (tape_next 6 (by omega) (by omega) S6.out.tp).mono ?_
        rintro e w7 ⟨q, ⟨hq0, hq1⟩, rfl, ht7, hg7⟩
        have S7 := Lib.hid (S6.out.on ht7 hg7)
        clear ht7 hg7 S6
        have hq : q = 0 ∨ q = 1 ∨ q = 2 ∨ q = 3 ∨ q = 4 ∨ q = 5 := by omega
        clear hq0 hq1
        rcases hq with rfl | rfl | rfl | rfl | rfl | rfl
        · go_wp2_with fail
          refine (tape_range (-1) 3 (by omega) (by omega) (by omega) S7.out.tp).mono ?_
          rintro e w8 ⟨vz, hvz, rfl, ht8, hg8⟩
          have S8 := Lib.hid (S7.out.on ht8 hg8)
          clear ht8 hg8 hvz S7
          obtain ⟨⟨e0, e1, e2, e3, e4, e5⟩, ⟨i0, i1, i2, i3, i4, i5⟩, e6⟩ := S8.out.facts
          dsimp only at e0 e1 e2 e3 e4 e5
          have hln := S8.out.ln
          obtain ⟨x0, x1, x2, x3, x4, x5, hr⟩ := S8.out.rs
          have r0 := hr.cell 0
          have r1 := hr.cell 1
          have r2 := hr.cell 2
          have r3 := hr.cell 3
          have r4 := hr.cell 4
          have r5 := hr.cell 5
          have f0 := hr.frozen 0
          have f1 := hr.frozen 1
          have f2 := hr.frozen 2
          have f3 := hr.frozen 3
          have f4 := hr.frozen 4
          have f5 := hr.frozen 5
          have rl := hr.lt
          clear hr
          go_wp2_with fail
          exact bodyPost_ret (v := .agg #[.int .i64 vz, .int .i64 v9, .int .i64 v2, .int .i64 v3, .int .i64 v6, .int .i64 v8]) (by simp [results, Try.results23, go_sem, r0, r1, r2, r3, r4, r5, rl]) rfl (HD.out _ _ (((((((S8.out.set_ 0 (.int .i64 vz) (q := ⟨vz, v9, v2, v3, v6, v8⟩) rfl).res 0 (by decide) _).res 1 (by decide) _).res 2 (by decide) _).res 3 (by decide) _).res 4 (by decide) _).res 5 (by decide) _))
        · go_wp2_with fail
          refine (pickL [0, 40, 41, -1] (by decide) (by decide) _ S7.out.tp).mono ?_
          rintro e w8 ⟨vz, hvz, rfl, ht8, hg8⟩
          have S8 := Lib.hid ((S7.out.alloc _).on ht8 hg8)
          clear ht8 hg8 hvz S7
          obtain ⟨⟨e0, e1, e2, e3, e4, e5⟩, ⟨i0, i1, i2, i3, i4, i5⟩, e6⟩ := S8.out.facts
          dsimp only at e0 e1 e2 e3 e4 e5
          have hln := S8.out.ln
          obtain ⟨x0, x1, x2, x3, x4, x5, hr⟩ := S8.out.rs
          have r0 := hr.cell 0
          have r1 := hr.cell 1
          have r2 := hr.cell 2
          have r3 := hr.cell 3
          have r4 := hr.cell 4
          have r5 := hr.cell 5
          have f0 := hr.frozen 0
          have f1 := hr.frozen 1
          have f2 := hr.frozen 2
          have f3 := hr.frozen 3
          have f4 := hr.frozen 4
          have f5 := hr.frozen 5
          have rl := hr.lt
          clear hr
          go_wp2_with fail
          exact bodyPost_ret (v := .agg #[.int .i64 2, .int .i64 vz, .int .i64 v2, .int .i64 v3, .int .i64 v6, .int .i64 v8]) (by simp [results, Try.results23, go_sem, r0, r1, r2, r3, r4, r5, rl]) rfl (HD.out _ _ (((((((S8.out.set_ 1 (.int .i64 vz) (q := ⟨2, vz, v2, v3, v6, v8⟩) rfl).res 0 (by decide) _).res 1 (by decide) _).res 2 (by decide) _).res 3 (by decide) _).res 4 (by decide) _).res 5 (by decide) _))
        · go_wp2_with fail
          refine (tape_wild S7.out.tp).mono ?_
          rintro e w8 ⟨vz, hvz, rfl, ht8, hg8⟩
          have S8 := Lib.hid (S7.out.on ht8 hg8)
          clear ht8 hg8 hvz S7
          obtain ⟨⟨e0, e1, e2, e3, e4, e5⟩, ⟨i0, i1, i2, i3, i4, i5⟩, e6⟩ := S8.out.facts
          dsimp only at e0 e1 e2 e3 e4 e5
          have hln := S8.out.ln
          obtain ⟨x0, x1, x2, x3, x4, x5, hr⟩ := S8.out.rs
          have r0 := hr.cell 0
          have r1 := hr.cell 1
          have r2 := hr.cell 2
          have r3 := hr.cell 3
          have r4 := hr.cell 4
          have r5 := hr.cell 5
          have f0 := hr.frozen 0
          have f1 := hr.frozen 1
          have f2 := hr.frozen 2
          have f3 := hr.frozen 3
          have f4 := hr.frozen 4
          have f5 := hr.frozen 5
          have rl := hr.lt
          clear hr
          go_wp2_with fail
          exact bodyPost_ret (v := .agg #[.int .i64 2, .int .i64 v9, .int .i64 vz, .int .i64 v3, .int .i64 v6, .int .i64 v8]) (by simp [results, Try.results23, go_sem, r0, r1, r2, r3, r4, r5, rl]) rfl (HD.out _ _ (((((((S8.out.set_ 2 (.int .i64 vz) (q := ⟨2, v9, vz, v3, v6, v8⟩) rfl).res 0 (by decide) _).res 1 (by decide) _).res 2 (by decide) _).res 3 (by decide) _).res 4 (by decide) _).res 5 (by decide) _))
        · go_wp2_with fail
          refine (tape_wild S7.out.tp).mono ?_
          rintro e w8 ⟨vz, hvz, rfl, ht8, hg8⟩
          have S8 := Lib.hid (S7.out.on ht8 hg8)
          clear ht8 hg8 hvz S7
          obtain ⟨⟨e0, e1, e2, e3, e4, e5⟩, ⟨i0, i1, i2, i3, i4, i5⟩, e6⟩ := S8.out.facts
          dsimp only at e0 e1 e2 e3 e4 e5
          have hln := S8.out.ln
          obtain ⟨x0, x1, x2, x3, x4, x5, hr⟩ := S8.out.rs
          have r0 := hr.cell 0
          have r1 := hr.cell 1
          have r2 := hr.cell 2
          have r3 := hr.cell 3
          have r4 := hr.cell 4
          have r5 := hr.cell 5
          have f0 := hr.frozen 0
          have f1 := hr.frozen 1
          have f2 := hr.frozen 2
          have f3 := hr.frozen 3
          have f4 := hr.frozen 4
          have f5 := hr.frozen 5
          have rl := hr.lt
          clear hr
          go_wp2_with fail
          exact bodyPost_ret (v := .agg #[.int .i64 2, .int .i64 v9, .int .i64 v2, .int .i64 vz, .int .i64 v6, .int .i64 v8]) (by simp [results, Try.results23, go_sem, r0, r1, r2, r3, r4, r5, rl]) rfl (HD.out _ _ (((((((S8.out.set_ 3 (.int .i64 vz) (q := ⟨2, v9, v2, vz, v6, v8⟩) rfl).res 0 (by decide) _).res 1 (by decide) _).res 2 (by decide) _).res 3 (by decide) _).res 4 (by decide) _).res 5 (by decide) _))
        · go_wp2_with fail
          refine (tape_range (-1) 6 (by omega) (by omega) (by omega) S7.out.tp).mono ?_
          rintro e w8 ⟨vz, hvz, rfl, ht8, hg8⟩
          have S8 := Lib.hid (S7.out.on ht8 hg8)
          clear ht8 hg8 hvz S7
          obtain ⟨⟨e0, e1, e2, e3, e4, e5⟩, ⟨i0, i1, i2, i3, i4, i5⟩, e6⟩ := S8.out.facts
          dsimp only at e0 e1 e2 e3 e4 e5
          have hln := S8.out.ln
          obtain ⟨x0, x1, x2, x3, x4, x5, hr⟩ := S8.out.rs
          have r0 := hr.cell 0
          have r1 := hr.cell 1
          have r2 := hr.cell 2
          have r3 := hr.cell 3
          have r4 := hr.cell 4
          have r5 := hr.cell 5
          have f0 := hr.frozen 0
          have f1 := hr.frozen 1
          have f2 := hr.frozen 2
          have f3 := hr.frozen 3
          have f4 := hr.frozen 4
          have f5 := hr.frozen 5
          have rl := hr.lt
          clear hr
          go_wp2_with fail
          exact bodyPost_ret (v := .agg #[.int .i64 2, .int .i64 v9, .int .i64 v2, .int .i64 v3, .int .i64 vz, .int .i64 v8]) (by simp [results, Try.results23, go_sem, r0, r1, r2, r3, r4, r5, rl]) rfl (HD.out _ _ (((((((S8.out.set_ 4 (.int .i64 vz) (q := ⟨2, v9, v2, v3, vz, v8⟩) rfl).res 0 (by decide) _).res 1 (by decide) _).res 2 (by decide) _).res 3 (by decide) _).res 4 (by decide) _).res 5 (by decide) _))
        · go_wp2_with fail
          refine (tape_range (-1) 5 (by omega) (by omega) (by omega) S7.out.tp).mono ?_
          rintro e w8 ⟨vz, hvz, rfl, ht8, hg8⟩
          have S8 := Lib.hid (S7.out.on ht8 hg8)
          clear ht8 hg8 hvz S7
          obtain ⟨⟨e0, e1, e2, e3, e4, e5⟩, ⟨i0, i1, i2, i3, i4, i5⟩, e6⟩ := S8.out.facts
          dsimp only at e0 e1 e2 e3 e4 e5
          have hln := S8.out.ln
          obtain ⟨x0, x1, x2, x3, x4, x5, hr⟩ := S8.out.rs
          have r0 := hr.cell 0
          have r1 := hr.cell 1
          have r2 := hr.cell 2
          have r3 := hr.cell 3
          have r4 := hr.cell 4
          have r5 := hr.cell 5
          have f0 := hr.frozen 0
          have f1 := hr.frozen 1
          have f2 := hr.frozen 2
          have f3 := hr.frozen 3
          have f4 := hr.frozen 4
          have f5 := hr.frozen 5
          have rl := hr.lt
          clear hr
          go_wp2_with fail
          exact bodyPost_ret (v := .agg #[.int .i64 2, .int .i64 v9, .int .i64 v2, .int .i64 v3, .int .i64 v6, .int .i64 vz]) (by simp [results, Try.results23, go_sem, r0, r1, r2, r3, r4, r5, rl]) rfl (HD.out _ _ (((((((S8.out.set_ 5 (.int .i64 vz) (q := ⟨2, v9, v2, v3, v6, vz⟩) rfl).res 0 (by decide) _).res 1 (by decide) _).res 2 (by decide) _).res 3 (by decide) _).res 4 (by decide) _).res 5 (by decide) _))

  · have h5' : (v5 == 0) = false := by rw [beq_eq_false_iff_ne]; exact h5
    clear h5 hv5
    by_cases hN0 : N = 0
    · have hNn : ¬ 0 < N := by omega
      have HD := Lib.hid (fun (pp : Pt) W (hX : Px w B g o n c z gp ⟨1, v1, v2, v3, 0, 0⟩ W) => hX.done (N := N) (fun _ => decide_eq_true (show Pt.ok _ from by unfold Pt.ok Pt.fit; have := V1.out; have := V2.out; have := V3.out; dsimp only; omega)))
      obtain ⟨⟨e0, e1, e2, e3, e4, e5⟩, ⟨i0, i1, i2, i3, i4, i5⟩, e6⟩ := S5.out.facts
      dsimp only at e0 e1 e2 e3 e4 e5
      have hln := S5.out.ln
      obtain ⟨x0, x1, x2, x3, x4, x5, hr⟩ := S5.out.rs
      have r0 := hr.cell 0
      have r1 := hr.cell 1
      have r2 := hr.cell 2
      have r3 := hr.cell 3
      have r4 := hr.cell 4
      have r5 := hr.cell 5
      have f0 := hr.frozen 0
      have f1 := hr.frozen 1
      have f2 := hr.frozen 2
      have f3 := hr.frozen 3
      have f4 := hr.frozen 4
      have f5 := hr.frozen 5
      have rl := hr.lt
      clear hr
      go_wp2_with fail
      exact bodyPost_ret (v := .agg #[.int .i64 1, .int .i64 v1, .int .i64 v2, .int .i64 v3, .int .i64 0, .int .i64 0]) (by simp [results, Try.results23, go_sem, r0, r1, r2, r3, r4, r5, rl]) rfl (HD.out Pt.z _ ((((((S5.out.res 0 (by decide) _).res 1 (by decide) _).res 2 (by decide) _).res 3 (by decide) _).res 4 (by decide) _).res 5 (by decide) _))
    · have hNp : 0 < N := by omega
      have HD := Lib.hid (fun pp W (hX : Px w B g o n c z gp pp W) => hX.done (N := N) (fun h0 => absurd h0 hN0))
      clear hN0

      go_wp2_with fail
      refine (tape_one N (by omega) (by omega) S5.out.tp).mono ?_
      rintro e w6 ⟨bb, rfl, ht6, hg6⟩
      have S6 := Lib.hid (S5.out.on ht6 hg6)
      clear ht6 hg6 S5
      cases bb
      · obtain ⟨⟨e0, e1, e2, e3, e4, e5⟩, ⟨i0, i1, i2, i3, i4, i5⟩, e6⟩ := S6.out.facts
        dsimp only at e0 e1 e2 e3 e4 e5
        have hln := S6.out.ln
        obtain ⟨x0, x1, x2, x3, x4, x5, hr⟩ := S6.out.rs
        have r0 := hr.cell 0
        have r1 := hr.cell 1
        have r2 := hr.cell 2
        have r3 := hr.cell 3
        have r4 := hr.cell 4
        have r5 := hr.cell 5
        have f0 := hr.frozen 0
        have f1 := hr.frozen 1
        have f2 := hr.frozen 2
        have f3 := hr.frozen 3
        have f4 := hr.frozen 4
        have f5 := hr.frozen 5
        have rl := hr.lt
        clear hr
        go_wp2_with fail
        exact bodyPost_ret (v := .agg #[.int .i64 1, .int .i64 v1, .int .i64 v2, .int .i64 v3, .int .i64 0, .int .i64 0]) (by simp [results, Try.results23, go_sem, r0, r1, r2, r3, r4, r5, rl]) rfl (HD.out _ _ ((((((S6.out.res 0 (by decide) _).res 1 (by decide) _).res 2 (by decide) _).res 3 (by decide) _).res 4 (by decide) _).res 5 (by decide) _))
      · go_wp2_with fail
        refine (tape_next 6 (by omega) (by omega) S6.out.tp).mono ?_
        rintro e w7 ⟨q, ⟨hq0, hq1⟩, rfl, ht7, hg7⟩
        have S7 := Lib.hid (S6.out.on ht7 hg7)
        clear ht7 hg7 S6
        have hq : q = 0 ∨ q = 1 ∨ q = 2 ∨ q = 3 ∨ q = 4 ∨ q = 5 := by omega
        clear hq0 hq1
        rcases hq with rfl | rfl | rfl | rfl | rfl | rfl
        · go_wp2_with fail
          refine (tape_range (-1) 3 (by omega) (by omega) (by omega) S7.out.tp).mono ?_
          rintro e w8 ⟨vz, hvz, rfl, ht8, hg8⟩
          have S8 := Lib.hid (S7.out.on ht8 hg8)
          clear ht8 hg8 hvz S7
          obtain ⟨⟨e0, e1, e2, e3, e4, e5⟩, ⟨i0, i1, i2, i3, i4, i5⟩, e6⟩ := S8.out.facts
          dsimp only at e0 e1 e2 e3 e4 e5
          have hln := S8.out.ln
          obtain ⟨x0, x1, x2, x3, x4, x5, hr⟩ := S8.out.rs
          have r0 := hr.cell 0
          have r1 := hr.cell 1
          have r2 := hr.cell 2
          have r3 := hr.cell 3
          have r4 := hr.cell 4
          have r5 := hr.cell 5
          have f0 := hr.frozen 0
          have f1 := hr.frozen 1
          have f2 := hr.frozen 2
          have f3 := hr.frozen 3
          have f4 := hr.frozen 4
          have f5 := hr.frozen 5
          have rl := hr.lt
          clear hr
          go_wp2_with fail
          exact bodyPost_ret (v := .agg #[.int .i64 vz, .int .i64 v1, .int .i64 v2, .int .i64 v3, .int .i64 0, .int .i64 0]) (by simp [results, Try.results23, go_sem, r0, r1, r2, r3, r4, r5, rl]) rfl (HD.out _ _ (((((((S8.out.set_ 0 (.int .i64 vz) (q := ⟨vz, v1, v2, v3, 0, 0⟩) rfl).res 0 (by decide) _).res 1 (by decide) _).res 2 (by decide) _).res 3 (by decide) _).res 4 (by decide) _).res 5 (by decide) _))
        · go_wp2_with fail
          refine (pickL [0, 40, 41, -1] (by decide) (by decide) _ S7.out.tp).mono ?_
          rintro e w8 ⟨vz, hvz, rfl, ht8, hg8⟩
          have S8 := Lib.hid ((S7.out.alloc _).on ht8 hg8)
          clear ht8 hg8 hvz S7
          obtain ⟨⟨e0, e1, e2, e3, e4, e5⟩, ⟨i0, i1, i2, i3, i4, i5⟩, e6⟩ := S8.out.facts
          dsimp only at e0 e1 e2 e3 e4 e5
          have hln := S8.out.ln
          obtain ⟨x0, x1, x2, x3, x4, x5, hr⟩ := S8.out.rs
          have r0 := hr.cell 0
          have r1 := hr.cell 1
          have r2 := hr.cell 2
          have r3 := hr.cell 3
          have r4 := hr.cell 4
          have r5 := hr.cell 5
          have f0 := hr.frozen 0
          have f1 := hr.frozen 1
          have f2 := hr.frozen 2
          have f3 := hr.frozen 3
          have f4 := hr.frozen 4
          have f5 := hr.frozen 5
          have rl := hr.lt
          clear hr
          go_wp2_with fail
          exact bodyPost_ret (v := .agg #[.int .i64 1, .int .i64 vz, .int .i64 v2, .int .i64 v3, .int .i64 0, .int .i64 0]) (by simp [results, Try.results23, go_sem, r0, r1, r2, r3, r4, r5, rl]) rfl (HD.out _ _ (((((((S8.out.set_ 1 (.int .i64 vz) (q := ⟨1, vz, v2, v3, 0, 0⟩) rfl).res 0 (by decide) _).res 1 (by decide) _).res 2 (by decide) _).res 3 (by decide) _).res 4 (by decide) _).res 5 (by decide) _))
        · go_wp2_with fail
          refine (tape_wild S7.out.tp).mono ?_
          rintro e w8 ⟨vz, hvz, rfl, ht8, hg8⟩
          have S8 := Lib.hid (S7.out.on ht8 hg8)
          clear ht8 hg8 hvz S7
          obtain ⟨⟨e0, e1, e2, e3, e4, e5⟩, ⟨i0, i1, i2, i3, i4, i5⟩, e6⟩ := S8.out.facts
          dsimp only at e0 e1 e2 e3 e4 e5
          have hln := S8.out.ln
          obtain ⟨x0, x1, x2, x3, x4, x5, hr⟩ := S8.out.rs
          have r0 := hr.cell 0
          have r1 := hr.cell 1
          have r2 := hr.cell 2
          have r3 := hr.cell 3
          have r4 := hr.cell 4
          have r5 := hr.cell 5
          have f0 := hr.frozen 0
          have f1 := hr.frozen 1
          have f2 := hr.frozen 2
          have f3 := hr.frozen 3
          have f4 := hr.frozen 4
          have f5 := hr.frozen 5
          have rl := hr.lt
          clear hr
          go_wp2_with fail
          exact bodyPost_ret (v := .agg #[.int .i64 1, .int .i64 v1, .int .i64 vz, .int .i64 v3, .int .i64 0, .int .i64 0]) (by simp [results, Try.results23, go_sem, r0, r1, r2, r3, r4, r5, rl]) rfl (HD.out _ _ (((((((S8.out.set_ 2 (.int .i64 vz) (q := ⟨1, v1, vz, v3, 0, 0⟩) rfl).res 0 (by decide) _).res 1 (by decide) _).res 2 (by decide) _).res 3 (by decide) _).res 4 (by decide) _).res 5 (by decide) _))
        · go_wp2_with fail
          refine (tape_wild S7.out.tp).mono ?_
          rintro e w8 ⟨vz, hvz, rfl, ht8, hg8⟩
          have S8 := Lib.hid (S7.out.on ht8 hg8)
          clear ht8 hg8 hvz S7
          obtain ⟨⟨e0, e1, e2, e3, e4, e5⟩, ⟨i0, i1, i2, i3, i4, i5⟩, e6⟩ := S8.out.facts
          dsimp only at e0 e1 e2 e3 e4 e5
          have hln := S8.out.ln
          obtain ⟨x0, x1, x2, x3, x4, x5, hr⟩ := S8.out.rs
          have r0 := hr.cell 0
          have r1 := hr.cell 1
          have r2 := hr.cell 2
          have r3 := hr.cell 3
          have r4 := hr.cell 4
          have r5 := hr.cell 5
          have f0 := hr.frozen 0
          have f1 := hr.frozen 1
          have f2 := hr.frozen 2
          have f3 := hr.frozen 3
          have f4 := hr.frozen 4
          have f5 := hr.frozen 5
          have rl := hr.lt
          clear hr
          go_wp2_with fail
          exact bodyPost_ret (v := .agg #[.int .i64 1, .int .i64 v1, .int .i64 v2, .int .i64 vz, .int .i64 0, .int .i64 0]) (by simp [results, Try.results23, go_sem, r0, r1, r2, r3, r4, r5, rl]) rfl (HD.out _ _ (((((((S8.out.set_ 3 (.int .i64 vz) (q := ⟨1, v1, v2, vz, 0, 0⟩) rfl).res 0 (by decide) _).res 1 (by decide) _).res 2 (by decide) _).res 3 (by decide) _).res 4 (by decide) _).res 5 (by decide) _))
        · go_wp2_with fail
          refine (tape_range (-1) 6 (by omega) (by omega) (by omega) S7.out.tp).mono ?_
          rintro e w8 ⟨vz, hvz, rfl, ht8, hg8⟩
          have S8 := Lib.hid (S7.out.on ht8 hg8)
          clear ht8 hg8 hvz S7
          obtain ⟨⟨e0, e1, e2, e3, e4, e5⟩, ⟨i0, i1, i2, i3, i4, i5⟩, e6⟩ := S8.out.facts
          dsimp only at e0 e1 e2 e3 e4 e5
          have hln := S8.out.ln
          obtain ⟨x0, x1, x2, x3, x4, x5, hr⟩ := S8.out.rs
          have r0 := hr.cell 0
          have r1 := hr.cell 1
          have r2 := hr.cell 2
          have r3 := hr.cell 3
          have r4 := hr.cell 4
          have r5 := hr.cell 5
          have f0 := hr.frozen 0
          have f1 := hr.frozen 1
          have f2 := hr.frozen 2
          have f3 := hr.frozen 3
          have f4 := hr.frozen 4
          have f5 := hr.frozen 5
          have rl := hr.lt
          clear hr
          go_wp2_with fail
          exact bodyPost_ret (v := .agg #[.int .i64 1, .int .i64 v1, .int .i64 v2, .int .i64 v3, .int .i64 vz, .int .i64 0]) (by simp [results, Try.results23, go_sem, r0, r1, r2, r3, r4, r5, rl]) rfl (HD.out _ _ (((((((S8.out.set_ 4 (.int .i64 vz) (q := ⟨1, v1, v2, v3, vz, 0⟩) rfl).res 0 (by decide) _).res 1 (by decide) _).res 2 (by decide) _).res 3 (by decide) _).res 4 (by decide) _).res 5 (by decide) _))
        · go_wp2_with fail
          refine (tape_range (-1) 5 (by omega) (by omega) (by omega) S7.out.tp).mono ?_
          rintro e w8 ⟨vz, hvz, rfl, ht8, hg8⟩
          have S8 := Lib.hid (S7.out.on ht8 hg8)
          clear ht8 hg8 hvz S7
          obtain ⟨⟨e0, e1, e2, e3, e4, e5⟩, ⟨i0, i1, i2, i3, i4, i5⟩, e6⟩ := S8.out.facts
          dsimp only at e0 e1 e2 e3 e4 e5
          have hln := S8.out.ln
          obtain ⟨x0, x1, x2, x3, x4, x5, hr⟩ := S8.out.rs
          have r0 := hr.cell 0
          have r1 := hr.cell 1
          have r2 := hr.cell 2
          have r3 := hr.cell 3
          have r4 := hr.cell 4
          have r5 := hr.cell 5
          have f0 := hr.frozen 0
          have f1 := hr.frozen 1
          have f2 := hr.frozen 2
          have f3 := hr.frozen 3
          have f4 := hr.frozen 4
          have f5 := hr.frozen 5
          have rl := hr.lt
          clear hr
          go_wp2_with fail
          exact bodyPost_ret (v := .agg #[.int .i64 1, .int .i64 v1, .int .i64 v2, .int .i64 v3, .int .i64 0, .int .i64 vz]) (by simp [results, Try.results23, go_sem, r0, r1, r2, r3, r4, r5, rl]) rfl (HD.out _ _ (((((((S8.out.set_ 5 (.int .i64 vz) (q := ⟨1, v1, v2, v3, 0, vz⟩) rfl).res 0 (by decide) _).res 1 (by decide) _).res 2 (by decide) _).res 3 (by decide) _).res 4 (by decide) _).res 5 (by decide) _))

end Go.Proofs.Ytjciniffkdadaaa
