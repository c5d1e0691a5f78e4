/-
  The item that the statements draw from a tape: what is held between the draws.
-/
import Derived.Test.YtjciniffkdadaaaICheck
import Derived.Test.YtjciniffkdadaaaIPDraw
import Derived.Test.YtjciniffkdadaaaIWord
import Derived.Deep.RegionHeld3
import Derived.Deep.AppendLies
namespace Go.Proofs.Ytjciniffkdadaaa
open Go.RowKit
set_option linter.unusedSimpArgs false
set_option linter.unusedVariables false

theorem Tp.grow {w w' : World} {B g : Nat} {o : Option Addr} {n c : Nat} {z : Nat → Int} {row : Option Nat} (h : Tp w B g o n c z) (hg : w.grownBy w' row) (hr : ∀ k, row = some k → g < k) : Tp w' B g o n c z := by
  obtain ⟨k, hk, hB⟩ := h.blk
  exact ⟨h.row.keep fun j hj => hg.block j (by have := hB.lt; have := h.bg; omega) (fun e => by have := hr j e.symm; have := h.bg; omega), h.bg, h.few, k, hk, hB.grown hg (fun e => by have := hr g e.symm; omega)⟩
theorem gRow {a b c : World} {row row' : Option Nat} (h : a.grownBy b row) (k : b.grownBy c row') (hr : ∀ j, row' = some j → a.heap.size ≤ j) : a.grownBy c row :=
  ⟨k.os.trans h.os, k.tape.trans h.tape, k.output.trans h.output, Nat.le_trans h.size k.size, fun j hj hn => (k.block j (Nat.lt_of_lt_of_le hj h.size) (fun e => by have := hr j e.symm; omega)).trans (h.block j hj hn)⟩
theorem own_kind {w : World} {B n : Nat} {e : TypeId} {size : Nat} {v : Value} {xs : List Value} (h : w.ownsRow B e size v n xs) {k : Nat} (hk : v.ownBlock = some k) : ∃ cur fr, w.heap[k]? = some (.cells cur e fr) := by
  rcases h.2 with ⟨rfl, _⟩ | ⟨g, cap, cur, rfl, _, hc, _⟩
  · simp [Value.ownBlock] at hk
  · simp [Value.ownBlock] at hk
    subst hk
    exact ⟨_, _, hc⟩
theorem own_apart {w : World} {B B' n n' size size' : Nat} {e e' : TypeId} {v v' : Value} {xs xs' : List Value} (h : w.ownsRow B e size v n xs) (h' : w.ownsRow B' e' size' v' n' xs') (hne : e ≠ e') : v.ownBlock = none ∨ v.ownBlock ≠ v'.ownBlock := by
  cases hk : v.ownBlock with
  | none => exact .inl rfl
  | some k =>
    refine .inr fun he => ?_
    obtain ⟨cur, fr, h1⟩ := own_kind h hk
    obtain ⟨cur', fr', h2⟩ := own_kind h' he.symm
    rw [h1] at h2
    injection h2 with h2
    injection h2 with _ h3
    exact hne h3
theorem row_ne {W : World} {B size n : Nat} {e : TypeId} {v : Value} {xs : List Value} (h : W.ownsRow B e size v n xs) : ∀ b, b < B → some b ≠ v.ownBlock := fun b hb e => by have := (h.lt b e.symm).1; omega
theorem ints_snoc (l : List Int) (x : Int) : ints (l ++ [x]) = ints l ++ [.int .i64 x] := by unfold ints; simp

structure Ix (w0 : World) (B g : Nat) (o : Option Addr) (n c : Nat) (z : Nat → Int) (gb : Nat) (id ver : Int) (st : ByteArray) (v1 v2 : Value) (lp : List Pt) (le : List Int) (wr : World) : Prop where
  tp : Tp wr B g o n c z
  gr : w0.grownBy wr (some g)
  bx : Blk wr gb 33 #[.int .i64 id, .int .i64 ver, .string st, v1, v2]
  r1 : wr.ownsRow (gb + 1) 23 6 v1 lp.length (pCells lp)
  r2 : wr.ownsRow (gb + 1) 3 1 v2 le.length (ints le)
  gl : g < w0.heap.size
  ln : w0.heap.size < gb
  rs : ∃ x0 x1 x2 x3 x4 : Value, Blk wr w0.heap.size 33 #[x0, x1, x2, x3, x4]
section
variable {w0 : World} {B g : Nat} {o : Option Addr} {n c : Nat} {z : Nat → Int} {gb : Nat} {id ver : Int} {st : ByteArray} {v1 v2 : Value} {lp : List Pt} {le : List Int} {wr w2 : World}
theorem Ix.on (h : Ix w0 B g o n c z gb id ver st v1 v2 lp le wr) (ht : Tp w2 B g o n c z) (hg : wr.grownBy w2 (some g)) : Ix w0 B g o n c z gb id ver st v1 v2 lp le w2 := by
  have hl := h.gl
  have hn := h.ln
  refine ⟨ht, gTr h.gr hg, h.bx.grown hg (fun e => by injection e; omega), h.r1.kept hg (.inr fun e => ?_), h.r2.kept hg (.inr fun e => ?_), h.gl, h.ln, by obtain ⟨x0, x1, x2, x3, x4, hr⟩ := h.rs; exact ⟨x0, x1, x2, x3, x4, hr.grown hg (fun e => by injection e; omega)⟩⟩
  · have := (h.r1.lt g e).1; omega
  · have := (h.r2.lt g e).1; omega
theorem Ix.later (h : Ix w0 B g o n c z gb id ver st v1 v2 lp le wr) (hb : Below wr.heap.size wr w2) : Ix w0 B g o n c z gb id ver st v1 v2 lp le w2 := h.on (h.tp.later hb) (gBe hb)
theorem Ix.alloc (h : Ix w0 B g o n c z gb id ver st v1 v2 lp le wr) (x : Obj) : Ix w0 B g o n c z gb id ver st v1 v2 lp le (wr.alloc x) := h.later (bAl (Below.refl _ _) x)
theorem Ix.drew (h : Ix w0 B g o n c z gb id ver st v1 v2 lp le wr) : Ix w0 B g o n c z gb id ver st v1 v2 lp le wr.drew := h.later (bD1 (Below.refl _ _))
theorem Ix.sz (h : Ix w0 B g o n c z gb id ver st v1 v2 lp le wr) : gb + 1 ≤ wr.heap.size := h.bx.lt
/-- behind an append to the parts and a store of the row into the item -/
theorem Ix.put1 (h : Ix w0 B g o n c z gb id ver st v1 v2 lp le wr) {v' : Value} {xs : List Pt} (hg : wr.grownBy w2 v1.ownBlock) (h3 : w2.ownsRow (gb + 1) 23 6 v' (lp.length + xs.length) (pCells lp ++ pCells xs)) :
    Ix w0 B g o n c z gb id ver st v' v2 (lp ++ xs) le (w2.setCell ⟨gb, 3, none⟩ v') := by
  have hl := h.gl
  have hn := h.ln
  have hz := h.sz
  have ne : ∀ b : Nat, b < gb + 1 → some b ≠ v1.ownBlock := fun b hb e => by have := (h.r1.lt b e.symm).1; omega
  have hlt : ∀ k, v1.ownBlock = some k → g < k := fun k hk => by have := (h.r1.lt k hk).1; omega
  refine ⟨(h.tp.grow hg hlt).setFar (by show g < gb; omega) _, gNew (gRow h.gr hg (fun j hj => by have := (h.r1.lt j hj).1; omega)) (by show _ ≤ gb; omega) _, ?_, ?_, ?_, h.gl, h.ln, by obtain ⟨x0, x1, x2, x3, x4, hr⟩ := h.rs; exact ⟨x0, x1, x2, x3, x4, (hr.grown hg (ne _ (by omega))).off (by omega) _⟩⟩
  · have := (h.bx.grown hg (ne _ (by omega))).set_ 3 v'
    simpa using this
  · rw [List.length_append, pCells_app]
    exact ownsRow_setCell_below h3 (by show gb < _; omega) _
  · exact ownsRow_setCell_below (h.r2.kept hg (own_apart h.r2 h.r1 (by decide))) (by show gb < _; omega) _
theorem Ix.put2 (h : Ix w0 B g o n c z gb id ver st v1 v2 lp le wr) {v' : Value} {x : Int} (hg : wr.grownBy w2 v2.ownBlock) (h3 : w2.ownsRow (gb + 1) 3 1 v' (le.length + 1) (ints le ++ [.int .i64 x])) :
    Ix w0 B g o n c z gb id ver st v1 v' lp (le ++ [x]) (w2.setCell ⟨gb, 4, none⟩ v') := by
  have hl := h.gl
  have hn := h.ln
  have hz := h.sz
  have ne : ∀ b : Nat, b < gb + 1 → some b ≠ v2.ownBlock := fun b hb e => by have := (h.r2.lt b e.symm).1; omega
  have hlt : ∀ k, v2.ownBlock = some k → g < k := fun k hk => by have := (h.r2.lt k hk).1; omega
  refine ⟨(h.tp.grow hg hlt).setFar (by show g < gb; omega) _, gNew (gRow h.gr hg (fun j hj => by have := (h.r2.lt j hj).1; omega)) (by show _ ≤ gb; omega) _, ?_, ?_, ?_, h.gl, h.ln, by obtain ⟨x0, x1, x2, x3, x4, hr⟩ := h.rs; exact ⟨x0, x1, x2, x3, x4, (hr.grown hg (ne _ (by omega))).off (by omega) _⟩⟩
  · have := (h.bx.grown hg (ne _ (by omega))).set_ 4 v'
    simpa using this
  · exact ownsRow_setCell_below (h.r1.kept hg (own_apart h.r1 h.r2 (by decide))) (by show gb < _; omega) _
  · rw [List.length_append, ints_snoc]
    exact ownsRow_setCell_below h3 (by show gb < _; omega) _
/-- a store into the item that keeps its lists: the new block is told -/
theorem Ix.put (h : Ix w0 B g o n c z gb id ver st v1 v2 lp le wr) (i : Nat) (u : Value) {id' ver' : Int} {st' : ByteArray} (hq : (#[.int .i64 id, .int .i64 ver, .string st, v1, v2] : Array Value).setIfInBounds i u = #[.int .i64 id', .int .i64 ver', .string st', v1, v2]) : Ix w0 B g o n c z gb id' ver' st' v1 v2 lp le (wr.setCell ⟨gb, i, none⟩ u) := by
  have hl := h.gl
  have hn := h.ln
  refine ⟨h.tp.setFar (by show g < gb; omega) _, gNew h.gr (by show w0.heap.size ≤ gb; omega) _, ?_, ownsRow_setCell_below h.r1 (by show gb < _; omega) _, ownsRow_setCell_below h.r2 (by show gb < _; omega) _, h.gl, h.ln, ?_⟩
  · rw [← hq]; exact h.bx.set_ i u
  · obtain ⟨x0, x1, x2, x3, x4, hr⟩ := h.rs
    exact ⟨x0, x1, x2, x3, x4, hr.off (by omega) _⟩
theorem Ix.none_ (h : Ix w0 B g o n c z gb id ver st v1 v2 lp le wr) : Ix w0 B g o n c z gb id ver st (.slice none 0 0) v2 [] le (wr.setCell ⟨gb, 3, none⟩ (.slice none 0 0)) := by
  have hl := h.gl
  have hn := h.ln
  refine ⟨h.tp.setFar (by show g < gb; omega) _, gNew h.gr (by show w0.heap.size ≤ gb; omega) _, ?_, World.ownsRow_nil _ _ _ _, ownsRow_setCell_below h.r2 (by show gb < _; omega) _, h.gl, h.ln, ?_⟩
  · have := h.bx.set_ 3 (.slice none 0 0)
    simpa using this
  · obtain ⟨x0, x1, x2, x3, x4, hr⟩ := h.rs
    exact ⟨x0, x1, x2, x3, x4, hr.off (by omega) _⟩
theorem Ix.res (h : Ix w0 B g o n c z gb id ver st v1 v2 lp le wr) (i : Nat) (hi : i < 5) (u : Value) : Ix w0 B g o n c z gb id ver st v1 v2 lp le (wr.setCell ⟨w0.heap.size, i, none⟩ u) := by
  have hl := h.gl
  have hn := h.ln
  obtain ⟨x0, x1, x2, x3, x4, hr⟩ := h.rs
  refine ⟨h.tp.setFar (by show g < w0.heap.size; omega) _, gNew h.gr (Nat.le_refl _) _, h.bx.off (by omega) _, ownsRow_setCell_below h.r1 (by show w0.heap.size < gb + 1; omega) _, ownsRow_setCell_below h.r2 (by show w0.heap.size < gb + 1; omega) _, h.gl, h.ln, ?_⟩
  have hs := hr.set_ i u
  have : i = 0 ∨ i = 1 ∨ i = 2 ∨ i = 3 ∨ i = 4 := by omega
  rcases this with rfl | rfl | rfl | rfl | rfl
  · exact ⟨u, x1, x2, x3, x4, by simpa using hs⟩
  · exact ⟨x0, u, x2, x3, x4, by simpa using hs⟩
  · exact ⟨x0, x1, u, x3, x4, by simpa using hs⟩
  · exact ⟨x0, x1, x2, u, x4, by simpa using hs⟩
  · exact ⟨x0, x1, x2, x3, u, by simpa using hs⟩
theorem Ix.facts (h : Ix w0 B g o n c z gb id ver st v1 v2 lp le wr) : (wr.cell? ⟨gb, 0, none⟩ = some (.int .i64 id) ∧ wr.cell? ⟨gb, 1, none⟩ = some (.int .i64 ver) ∧ wr.cell? ⟨gb, 2, none⟩ = some (.string st) ∧ wr.cell? ⟨gb, 3, none⟩ = some v1 ∧ wr.cell? ⟨gb, 4, none⟩ = some v2) ∧
    (wr.frozen? ⟨gb, 0, none⟩ = false ∧ wr.frozen? ⟨gb, 1, none⟩ = false ∧ wr.frozen? ⟨gb, 2, none⟩ = false ∧ wr.frozen? ⟨gb, 3, none⟩ = false ∧ wr.frozen? ⟨gb, 4, none⟩ = false) ∧ gb < wr.heap.size :=
  ⟨⟨h.bx.cell 0, h.bx.cell 1, h.bx.cell 2, h.bx.cell 3, h.bx.cell 4⟩, ⟨h.bx.frozen 0, h.bx.frozen 1, h.bx.frozen 2, h.bx.frozen 3, h.bx.frozen 4⟩, h.bx.lt⟩
end
theorem Ix.mid {w0 : World} {B g : Nat} {o : Option Addr} {n c : Nat} {z : Nat → Int} {gb : Nat} {id ver : Int} {st : ByteArray} {v1 v2 : Value} {lp : List Pt} {le : List Int} {wr w2 : World} {row : Option Nat} (h : Ix w0 B g o n c z gb id ver st v1 v2 lp le wr) (hg : wr.grownBy w2 row) (hne : ∀ b, b < gb + 1 → some b ≠ row) :
    Blk w2 gb 33 #[.int .i64 id, .int .i64 ver, .string st, v1, v2] ∧ ∃ x0 x1 x2 x3 x4 : Value, Blk w2 w0.heap.size 33 #[x0, x1, x2, x3, x4] := by
  have hn := h.ln
  obtain ⟨x0, x1, x2, x3, x4, hr⟩ := h.rs
  exact ⟨h.bx.grown hg (hne gb (by omega)), x0, x1, x2, x3, x4, hr.grown hg (hne _ (by omega))⟩
theorem Ix.mid0 {w0 : World} {B g : Nat} {o : Option Addr} {n c : Nat} {z : Nat → Int} {gb : Nat} {id ver : Int} {st : ByteArray} {v1 v2 : Value} {lp : List Pt} {le : List Int} {wr : World} (h : Ix w0 B g o n c z gb id ver st v1 v2 lp le wr) :
    Blk wr gb 33 #[.int .i64 id, .int .i64 ver, .string st, v1, v2] ∧ ∃ x0 x1 x2 x3 x4 : Value, Blk wr w0.heap.size 33 #[x0, x1, x2, x3, x4] := ⟨h.bx, h.rs⟩
/-- the item of two lists -/
def itmOf (id ver : Int) (st : ByteArray) (lp : List Pt) (le : List Int) : Itm := ⟨id, ver, st, lp.length, ptAt lp, le.length, inAt le⟩
/-- what the draw hands back -/
def ItemR (N id ver : Int) (w0 : World) (B g : Nat) (o : Option Addr) (n c : Nat) (z : Nat → Int) (e : Ending) (w' : World) : Prop :=
  ∃ (p : IPtr) (x : Itm), e = .returned (.agg (itmC p x)) ∧ ItmIn w' w'.heap.size p x ∧ (∀ W, w'.grownBy W (some g) → ItmIn W W.heap.size p x) ∧ Tp w' B g o n c z ∧ w0.grownBy w' (some g) ∧ x.nP ≤ 9 ∧ x.nE ≤ 7 ∧ x.st.size ≤ 60 ∧
    (N = 0 → x.chk = 0 ∧ x.id = id ∧ x.ver = ver ∧ x.nP ≤ 3)
/-- parts that are drawn are valid; enemies ascend below k, and are not the item's own number -/
def GoodP (lp : List Pt) : Prop := ∀ (j : Nat) (x : Pt), lp[j]? = some x → x.okB = true
def GoodE (id : Int) (k : Nat) (le : List Int) : Prop := canE (inAt le) id le.length = true ∧ prv (inAt le) le.length < (k : Int)
theorem push_all {α : Type} {l : List α} {x : α} {p : Nat → α → Prop} (h : ∀ j y, l[j]? = some y → p j y) (hx : p l.length x) : ∀ j y, (l ++ [x])[j]? = some y → p j y := by
  intro j y hy
  rcases Nat.lt_or_ge j l.length with h1 | h1
  · rw [List.getElem?_append_left h1] at hy; exact h j y hy
  · rw [List.getElem?_append_right h1] at hy
    rcases Nat.eq_zero_or_pos (j - l.length) with h2 | h2
    · rw [h2] at hy
      simp at hy
      obtain rfl : j = l.length := by omega
      rw [← hy]; exact hx
    · rw [List.getElem?_eq_none (by simp; omega)] at hy; cases hy
theorem inAt_old (l : List Int) (x : Int) {i : Nat} (h : i < l.length) : inAt (l ++ [x]) i = inAt l i := by
  unfold inAt
  rw [List.getD_eq_getElem?_getD, List.getD_eq_getElem?_getD, List.getElem?_append_left h]
theorem inAt_new (l : List Int) (x : Int) : inAt (l ++ [x]) l.length = x := by
  unfold inAt
  rw [List.getD_eq_getElem?_getD, List.getElem?_append_right (Nat.le_refl _)]
  simp
theorem canE_congr {E F : Nat → Int} {id : Int} : ∀ {n : Nat}, (∀ i, i < n → E i = F i) → canE E id n = canE F id n
  | 0, _ => rfl
  | n + 1, h => by
    show (canE E id n && !decide (badE E id n)) = (canE F id n && !decide (badE F id n))
    have e1 : E n = F n := h n (by omega)
    have e2 : prv E n = prv F n := by
      unfold prv
      by_cases h0 : n = 0
      · rw [if_pos h0, if_pos h0]
      · rw [if_neg h0, if_neg h0, h (n - 1) (by omega)]
    rw [canE_congr fun i hi => h i (by omega)]
    have : badE E id n ↔ badE F id n := by unfold badE; rw [e1, e2]
    rw [decide_eq_decide.2 this]
theorem GoodE.skip {id : Int} {k : Nat} {le : List Int} (h : GoodE id k le) : GoodE id (k + 1) le := ⟨h.1, by have := h.2; omega⟩
theorem GoodE.nil (id : Int) : GoodE id 0 [] := ⟨rfl, by rw [show ([] : List Int).length = 0 from rfl, prv_zero]; omega⟩
theorem GoodE.push {id : Int} {k : Nat} {le : List Int} (h : GoodE id k le) (hk : k < 6) (hne : ((k : Int) : Int) ≠ id) : GoodE id (k + 1) (le ++ [(k : Int)]) := by
  have hp : prv (inAt (le ++ [(k : Int)])) le.length = prv (inAt le) le.length := by
    unfold prv
    by_cases h0 : le.length = 0
    · rw [if_pos h0, if_pos h0]
    · rw [if_neg h0, if_neg h0, inAt_old _ _ (by omega)]
  refine ⟨?_, ?_⟩
  · rw [List.length_append]
    refine canE_go ((canE_congr fun i hi => inAt_old _ _ hi).trans h.1) ?_
    unfold badE
    rw [hp, inAt_new]
    have := h.2
    omega
  · rw [List.length_append, show [(k : Int)].length = 1 from rfl, prv_succ, inAt_new]
    omega
theorem ptAt_at {l : List Pt} {i : Nat} (h : i < l.length) : l[i]? = some (ptAt l i) := getD_at h
/-- a stem that is drawn -/
theorem low_stem {s : ByteArray} (h : Low s) (h3 : s.size ≤ 3) : stemB (⟨#[113]⟩ ++ s) = true ∧ (⟨#[113]⟩ ++ s : ByteArray).size ≤ 4 := by
  have hsz : (⟨#[113]⟩ ++ s : ByteArray).size = 1 + s.size := by rw [ByteArray.size_append]; rfl
  refine ⟨?_, by omega⟩
  unfold stemB
  rw [decide_eq_true (by omega), Bool.true_and]
  refine prB_all fun k hk => ?_
  have hm : (⟨#[113]⟩ ++ s : ByteArray).data.toList = 113 :: s.data.toList := by rw [ByteArray.data_append, Array.toList_append]; rfl
  unfold byteAt
  rw [hm]
  have hl : s.data.toList.length = s.size := by simp
  match k, hk with
  | 0, _ => simp
  | k + 1, hk =>
    rw [List.getD_cons_succ, List.getD_eq_getElem?_getD, List.getElem?_eq_getElem (by omega)]
    have := h _ (List.getElem_mem (show k < s.data.toList.length by omega))
    simp only [Option.getD_some]
    omega
theorem itm_good {id ver : Int} {st : ByteArray} {lp : List Pt} {le : List Int} (h1 : 0 ≤ id ∧ id ≤ 9999 ∧ 1 ≤ ver ∧ ver ≤ 8) (hs : stemB st = true) (hsz : st.size ≤ 40) (hp : GoodP lp) (hp1 : 1 ≤ lp.length) (hp2 : lp.length ≤ 6) (he : canE (inAt le) id le.length = true) (he2 : le.length ≤ 8) : (itmOf id ver st lp le).chk = 0 :=
  Itm.good h1 ⟨hsz, hp2, he2⟩ hs (by show lp.length ≠ 0; omega) (allOk_all fun k hk => hp k _ (ptAt_at hk)) he
theorem Ix.done {N id0 ver0 : Int} {w0 : World} {B g : Nat} {o : Option Addr} {n c : Nat} {z : Nat → Int} {gb : Nat} {id ver : Int} {st : ByteArray} {v1 v2 : Value} {lp : List Pt} {le : List Int} {wr : World} (h : Ix w0 B g o n c z gb id ver st v1 v2 lp le wr) (h1 : lp.length ≤ 9) (h2 : le.length ≤ 7) (h3 : st.size ≤ 60)
    (h5 : N = 0 → (itmOf id ver st lp le).chk = 0 ∧ id = id0 ∧ ver = ver0 ∧ lp.length ≤ 3) : ItemR N id0 ver0 w0 B g o n c z (.returned (.agg #[.int .i64 id, .int .i64 ver, .string st, v1, v2])) wr := by
  have hgl := h.gl
  have hln := h.ln
  obtain ⟨o1, c1, e1, a1, r1⟩ := rowP_own h.r1
  obtain ⟨o2, c2, e2, a2, r2⟩ := rowI_own h.r2
  have hw : ∀ W, wr.grownBy W (some g) → ItmIn W W.heap.size ⟨o1, c1, o2, c2⟩ (itmOf id ver st lp le) := fun W hg => by
    have k1 := h.r1.kept hg (.inr fun e => by have := (h.r1.lt g e).1; omega)
    have k2 := h.r2.kept hg (.inr fun e => by have := (h.r2.lt g e).1; omega)
    obtain ⟨o1', c1', e1', a1', r1'⟩ := rowP_own k1
    obtain ⟨o2', c2', e2', a2', r2'⟩ := rowI_own k2
    rw [e1] at e1'; rw [e2] at e2'
    injection e1' with x1 _ x2
    injection e2' with x3 _ x4
    subst x1; subst x2; subst x3; subst x4
    exact ⟨r1', r2', a1, a2⟩
  exact ⟨⟨o1, c1, o2, c2⟩, itmOf id ver st lp le, by rw [e1, e2]; rfl, ⟨r1, r2, a1, a2⟩, hw, h.tp, h.gr, h1, h2, h3, fun h0 => by obtain ⟨a, b, d, f⟩ := h5 h0; exact ⟨a, b, d, f⟩⟩
theorem oneCell1 (x : Value) (h : x.oneCell' = true) : ∀ u ∈ ([x] : List Value), u.oneCell' = true := by
  intro u hu
  simp at hu
  subst hu; exact h
theorem six_one (p : Pt) : ∀ u ∈ ptL p, u.oneCell' = true := by
  intro u hu
  unfold ptL at hu
  simp at hu
  rcases hu with rfl | rfl | rfl | rfl | rfl | rfl <;> rfl
end Go.Proofs.Ytjciniffkdadaaa
