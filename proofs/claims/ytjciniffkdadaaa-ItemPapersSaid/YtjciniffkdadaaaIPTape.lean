/-
  The papers that the statements draw from a tape: what is held between the draws.
-/
import Derived.Test.YtjciniffkdadaaaITape
import Derived.Test.YtjciniffkdadaaaIPaper
import Derived.Test.YtjciniffkdadaaaHeldTail
namespace Go.Proofs.Ytjciniffkdadaaa
open Go.RowKit
set_option linter.unusedSimpArgs false
set_option linter.unusedVariables false

structure Qx (w0 : World) (B g : Nat) (o : Option Addr) (n c : Nat) (z : Nat → Int) (gb Br : Nat) (code var : Int) (v1 : Value) (lp : List Pt) (wr : World) : Prop where
  tp : Tp wr B g o n c z
  gr : w0.grownBy wr (some g)
  bx : Blk wr gb 46 #[.int .i64 code, .int .i64 var, v1]
  r1 : wr.ownsRow Br 23 6 v1 lp.length (pCells lp)
  br : w0.heap.size < Br
  bz : Br ≤ wr.heap.size
  nb : v1.ownBlock ≠ some gb
  gl : g < w0.heap.size
  ln : w0.heap.size < gb
  rs : ∃ x0 x1 x2 : Value, Blk wr w0.heap.size 46 #[x0, x1, x2]
section
variable {w0 : World} {B g : Nat} {o : Option Addr} {n c : Nat} {z : Nat → Int} {gb Br : Nat} {code var : Int} {v1 : Value} {lp : List Pt} {wr w2 : World}
theorem Qx.on (h : Qx w0 B g o n c z gb Br code var v1 lp wr) (ht : Tp w2 B g o n c z) (hg : wr.grownBy w2 (some g)) : Qx w0 B g o n c z gb Br code var v1 lp w2 := by
  have hl := h.gl
  have hn := h.ln
  have hb := h.br
  refine ⟨ht, gTr h.gr hg, h.bx.grown hg (fun e => by injection e; omega), h.r1.kept hg (.inr fun e => ?_), h.br, Nat.le_trans h.bz hg.size, h.nb, h.gl, h.ln, by obtain ⟨x0, x1, x2, hr⟩ := h.rs; exact ⟨x0, x1, x2, hr.grown hg (fun e => by injection e; omega)⟩⟩
  have := (h.r1.lt g e).1; omega
theorem Qx.later (h : Qx w0 B g o n c z gb Br code var v1 lp wr) (hb : Below wr.heap.size wr w2) : Qx w0 B g o n c z gb Br code var v1 lp w2 := h.on (h.tp.later hb) (gBe hb)
theorem Qx.alloc (h : Qx w0 B g o n c z gb Br code var v1 lp wr) (x : Obj) : Qx w0 B g o n c z gb Br code var v1 lp (wr.alloc x) := h.later (bAl (Below.refl _ _) x)
theorem Qx.drew (h : Qx w0 B g o n c z gb Br code var v1 lp wr) : Qx w0 B g o n c z gb Br code var v1 lp wr.drew := h.later (bD1 (Below.refl _ _))
/-- blocks that the row's block is not -/
theorem Qx.ne (h : Qx w0 B g o n c z gb Br code var v1 lp wr) {b : Nat} (hb : b = gb ∨ b ≤ w0.heap.size) : some b ≠ v1.ownBlock := fun e => by
  rcases hb with rfl | hb
  · exact h.nb e.symm
  · have := (h.r1.lt b e.symm).1; have := h.br; omega
/-- behind an append to the parts and a store of the row into the paper -/
theorem Qx.put1 (h : Qx w0 B g o n c z gb Br code var v1 lp wr) {v' : Value} {xs : List Pt} (hg : wr.grownBy w2 v1.ownBlock) (h3 : w2.ownsRow Br 23 6 v' (lp.length + xs.length) (pCells lp ++ pCells xs)) (hv : v'.ownBlock ≠ some gb) :
    Qx w0 B g o n c z gb Br code var v' (lp ++ xs) (w2.setCell ⟨gb, 2, none⟩ v') := by
  have hl := h.gl
  have hn := h.ln
  have hb := h.br
  have hlt : ∀ k, v1.ownBlock = some k → g < k := fun k hk => by have := (h.r1.lt k hk).1; omega
  refine ⟨(h.tp.grow hg hlt).setFar (by show g < gb; omega) _, gNew (gRow h.gr hg (fun j hj => by have := (h.r1.lt j hj).1; omega)) (by show _ ≤ gb; omega) _, ?_, ?_, h.br, by have := hg.size; have := h.bz; simp; omega, hv, h.gl, h.ln, by obtain ⟨x0, x1, x2, hr⟩ := h.rs; exact ⟨x0, x1, x2, (hr.grown hg (h.ne (.inr (Nat.le_refl _)))).off (by omega) _⟩⟩
  · have := (h.bx.grown hg (h.ne (.inl rfl))).set_ 2 v'
    simpa using this
  · rw [List.length_append, pCells_app]
    refine h3.kept (row := some gb) ⟨rfl, rfl, rfl, by simp, fun j hj hne => Below.heap_setCell w2 ⟨gb, 2, none⟩ v' j (fun e => hne (by rw [e]))⟩ (.inr ?_)
    exact hv
theorem Qx.put (h : Qx w0 B g o n c z gb Br code var v1 lp wr) (i : Nat) (u : Value) {code' var' : Int} (hq : (#[.int .i64 code, .int .i64 var, v1] : Array Value).setIfInBounds i u = #[.int .i64 code', .int .i64 var', v1]) : Qx w0 B g o n c z gb Br code' var' v1 lp (wr.setCell ⟨gb, i, none⟩ u) := by
  have hl := h.gl
  have hn := h.ln
  refine ⟨h.tp.setFar (by show g < gb; omega) _, gNew h.gr (by show w0.heap.size ≤ gb; omega) _, ?_, ?_, h.br, by have := h.bz; simp; omega, h.nb, h.gl, h.ln, ?_⟩
  · rw [← hq]; exact h.bx.set_ i u
  · exact h.r1.kept (row := some gb) ⟨rfl, rfl, rfl, by simp, fun j hj hne => Below.heap_setCell wr ⟨gb, i, none⟩ u j (fun e => hne (by rw [e]))⟩ (.inr h.nb)
  · obtain ⟨x0, x1, x2, hr⟩ := h.rs
    exact ⟨x0, x1, x2, hr.off (by omega) _⟩
theorem Qx.none_ (h : Qx w0 B g o n c z gb Br code var v1 lp wr) : Qx w0 B g o n c z gb Br code var (.slice none 0 0) [] (wr.setCell ⟨gb, 2, none⟩ (.slice none 0 0)) := by
  have hl := h.gl
  have hn := h.ln
  refine ⟨h.tp.setFar (by show g < gb; omega) _, gNew h.gr (by show w0.heap.size ≤ gb; omega) _, ?_, World.ownsRow_nil _ _ _ _, h.br, by have := h.bz; simp; omega, by simp [Value.ownBlock], h.gl, h.ln, ?_⟩
  · have := h.bx.set_ 2 (.slice none 0 0)
    simpa using this
  · obtain ⟨x0, x1, x2, hr⟩ := h.rs
    exact ⟨x0, x1, x2, hr.off (by omega) _⟩
theorem Qx.res (h : Qx w0 B g o n c z gb Br code var v1 lp wr) (i : Nat) (hi : i < 3) (u : Value) : Qx w0 B g o n c z gb Br code var v1 lp (wr.setCell ⟨w0.heap.size, i, none⟩ u) := by
  have hl := h.gl
  have hn := h.ln
  obtain ⟨x0, x1, x2, hr⟩ := h.rs
  refine ⟨h.tp.setFar (by show g < w0.heap.size; omega) _, gNew h.gr (Nat.le_refl _) _, h.bx.off (by omega) _, ?_, h.br, by have := h.bz; simp; omega, h.nb, h.gl, h.ln, ?_⟩
  · exact ownsRow_setCell_below h.r1 h.br _
  have hs := hr.set_ i u
  have : i = 0 ∨ i = 1 ∨ i = 2 := by omega
  rcases this with rfl | rfl | rfl
  · exact ⟨u, x1, x2, by simpa using hs⟩
  · exact ⟨x0, u, x2, by simpa using hs⟩
  · exact ⟨x0, x1, u, by simpa using hs⟩
theorem Qx.mid {row : Option Nat} (h : Qx w0 B g o n c z gb Br code var v1 lp wr) (hg : wr.grownBy w2 row) (hne : ∀ b, b = gb ∨ b ≤ w0.heap.size → some b ≠ row) :
    Blk w2 gb 46 #[.int .i64 code, .int .i64 var, v1] ∧ ∃ x0 x1 x2 : Value, Blk w2 w0.heap.size 46 #[x0, x1, x2] := by
  obtain ⟨x0, x1, x2, hr⟩ := h.rs
  exact ⟨h.bx.grown hg (hne gb (.inl rfl)), x0, x1, x2, hr.grown hg (hne _ (.inr (Nat.le_refl _)))⟩
theorem Qx.mid0 (h : Qx w0 B g o n c z gb Br code var v1 lp wr) :
    Blk wr gb 46 #[.int .i64 code, .int .i64 var, v1] ∧ ∃ x0 x1 x2 : Value, Blk wr w0.heap.size 46 #[x0, x1, x2] := ⟨h.bx, h.rs⟩
end
/-- what Paper hands back: the row of parts is the call's own -/
def PapR (code var : Int) (w0 : World) (B g : Nat) (o : Option Addr) (n c : Nat) (z : Nat → Int) (e : Ending) (w' : World) : Prop :=
  ∃ (v1 : Value) (lp : List Pt), e = .returned (.agg #[.int .i64 code, .int .i64 var, v1]) ∧ w'.ownsRow (w0.heap.size + 1) 23 6 v1 lp.length (pCells lp) ∧ w0.heap.size + 1 ≤ w'.heap.size ∧ Tp w' B g o n c z ∧ w0.grownBy w' (some g) ∧ GoodP lp ∧ 1 ≤ lp.length ∧ lp.length ≤ 6
theorem Qx.pap {w0 : World} {B g : Nat} {o : Option Addr} {n c : Nat} {z : Nat → Int} {gb : Nat} {code var : Int} {v1 : Value} {lp : List Pt} {wr : World} (h : Qx w0 B g o n c z gb (w0.heap.size + 1) code var v1 lp wr) (hp : GoodP lp) (h1 : 1 ≤ lp.length) (h2 : lp.length ≤ 6) : PapR code var w0 B g o n c z (.returned (.agg #[.int .i64 code, .int .i64 var, v1])) wr :=
  ⟨v1, lp, rfl, h.r1, h.bz, h.tp, h.gr, hp, h1, h2⟩
/-- the paper of a list -/
def pprOf (code var : Int) (lp : List Pt) : Ppr := ⟨code, var, lp.length, ptAt lp⟩
def LooseR (w0 : World) (B g : Nat) (o : Option Addr) (n c : Nat) (z : Nat → Int) (e : Ending) (w' : World) : Prop :=
  ∃ (oo : Option Addr) (cc : Nat) (x : Ppr), e = .returned (.agg (pprC oo cc x)) ∧ RowP w' w'.heap.size oo x.nP x.P ∧ Tp w' B g o n c z ∧ w0.grownBy w' (some g)
theorem Qx.loose {w0 : World} {B g : Nat} {o : Option Addr} {n c : Nat} {z : Nat → Int} {gb Br : Nat} {code var : Int} {v1 : Value} {lp : List Pt} {wr : World} (h : Qx w0 B g o n c z gb Br code var v1 lp wr) : LooseR w0 B g o n c z (.returned (.agg #[.int .i64 code, .int .i64 var, v1])) wr := by
  obtain ⟨o1, c1, e1, a1, r1⟩ := rowP_own h.r1
  exact ⟨o1, c1, pprOf code var lp, by rw [e1]; rfl, r1, h.tp, h.gr⟩
theorem own_new {v : Value} {gq gb H : Nat} (h : v.ownBlock = some gq ∨ gq = H) (hv : v.ownBlock ≠ some gb) (hH : gb < H) (n cap : Nat) : (Value.slice (some ⟨gq, 0, none⟩) n cap).ownBlock ≠ some gb := by
  intro e
  have e' : some gq = some gb := e
  injection e' with e'
  rcases h with h | h
  · exact hv (by rw [h, e'])
  · omega
end Go.Proofs.Ytjciniffkdadaaa
