/-
  The syllabus that the statements draw from a tape: what is held between the draws.
-/
import Derived.Test.YtglikjdgjmijfaaSAwake
import Derived.Test.YtglikjdgjmijfaaTapeB
import Derived.Deep.RegionHeld3
import Derived.Deep.AppendLies
namespace Go.Proofs.Ytglikjdgjmijfaa
open Go.RowKit
set_option linter.unusedSimpArgs false
set_option linter.unusedVariables false

theorem top_info : (Try.prog.info? 36).map (fun i => (i.zero, i.size, i.bytes)) = some (some (.agg #[.string ⟨#[]⟩, .int .i64 0]), 2, 24) := by kernel_rfl
theorem com_info : (Try.prog.info? 38).map (fun i => (i.zero, i.size, i.bytes)) = some (some (.agg #[.string ⟨#[]⟩, .int .i64 0, .int .i64 0]), 3, 32) := by kernel_rfl
abbrev TP := ByteArray × Int
abbrev CP := ByteArray × Int × Int
def tCells (l : List TP) : List Value := l.flatMap fun x => [.string x.1, .int .i64 x.2]
def cCells (l : List CP) : List Value := l.flatMap fun x => [.string x.1, .int .i64 x.2.1, .int .i64 x.2.2]
theorem tCells_snoc (l : List TP) (x : TP) : tCells (l ++ [x]) = tCells l ++ [.string x.1, .int .i64 x.2] := by unfold tCells; simp
theorem cCells_snoc (l : List CP) (x : CP) : cCells (l ++ [x]) = cCells l ++ [.string x.1, .int .i64 x.2.1, .int .i64 x.2.2] := by unfold cCells; simp
theorem tCells_at : ∀ (l : List TP) (j : Nat) (x : TP), l[j]? = some x → (tCells l)[j * 2]? = some (.string x.1) ∧ (tCells l)[j * 2 + 1]? = some (.int .i64 x.2)
  | [], j, x, h => by simp at h
  | a :: t, 0, x, h => by simp at h; subst h; simp [tCells]
  | a :: t, j + 1, x, h => by
    have ih := tCells_at t j x (by simpa using h)
    have e : tCells (a :: t) = .string a.1 :: .int .i64 a.2 :: tCells t := by simp [tCells]
    rw [e, show (j + 1) * 2 = j * 2 + 1 + 1 by omega]
    simp only [List.getElem?_cons_succ]
    exact ih
theorem cCells_at : ∀ (l : List CP) (j : Nat) (x : CP), l[j]? = some x → (cCells l)[j * 3]? = some (.string x.1) ∧ (cCells l)[j * 3 + 1]? = some (.int .i64 x.2.1) ∧ (cCells l)[j * 3 + 2]? = some (.int .i64 x.2.2)
  | [], j, x, h => by simp at h
  | a :: t, 0, x, h => by simp at h; subst h; simp [cCells]
  | a :: t, j + 1, x, h => by
    have ih := cCells_at t j x (by simpa using h)
    have e : cCells (a :: t) = .string a.1 :: .int .i64 a.2.1 :: .int .i64 a.2.2 :: cCells t := by simp [cCells]
    rw [e, show (j + 1) * 3 = j * 3 + 1 + 1 + 1 by omega]
    simp only [List.getElem?_cons_succ]
    exact ih
theorem cell_two_new (w : World) (x y : Value) (t : TypeId) : ∀ j u, [x, y][j]? = some u → (w.alloc (.cells #[x, y] t)).cell? ((⟨w.heap.size, 0, none⟩ : Addr).add j) = some u := by
  intro j u hj
  match j, hj with
  | 0, hj => simp at hj; subst hj; exact (Blk.new w t #[x, y]).cell 0
  | 1, hj => simp at hj; subst hj; exact (Blk.new w t #[x, y]).cell 1
theorem cell_three_new (w : World) (x y z : Value) (t : TypeId) : ∀ j u, [x, y, z][j]? = some u → (w.alloc (.cells #[x, y, z] t)).cell? ((⟨w.heap.size, 0, none⟩ : Addr).add j) = some u := by
  intro j u hj
  match j, hj with
  | 0, hj => simp at hj; subst hj; exact (Blk.new w t #[x, y, z]).cell 0
  | 1, hj => simp at hj; subst hj; exact (Blk.new w t #[x, y, z]).cell 1
  | 2, hj => simp at hj; subst hj; exact (Blk.new w t #[x, y, z]).cell 2
theorem Tp.grow {w w' : World} {B g : Nat} {o : Option Addr} {n c : Nat} {z : Nat → Int} {row : Option Nat} (h : Tp w B g o n c z) (hg : w.grownBy w' row) (hr : ∀ k, row = some k → g < k) : Tp w' B g o n c z := by
  obtain ⟨k, hk, hB⟩ := h.blk
  exact ⟨h.row.keep fun j hj => hg.block j (by have := hB.lt; have := h.bg; omega) (fun e => by have := hr j e.symm; have := h.bg; omega), h.bg, h.few, k, hk, hB.grown hg (fun e => by have := hr g e.symm; omega)⟩
theorem gRow {a b c : World} {row row' : Option Nat} (h : a.grownBy b row) (k : b.grownBy c row') (hr : ∀ j, row' = some j → a.heap.size ≤ j) : a.grownBy c row :=
  ⟨k.os.trans h.os, k.tape.trans h.tape, k.output.trans h.output, Nat.le_trans h.size k.size, fun j hj hn => (k.block j (Nat.lt_of_lt_of_le hj h.size) (fun e => by have := hr j e.symm; omega)).trans (h.block j hj hn)⟩
theorem own_kind {w : World} {B n : Nat} {e : TypeId} {size : Nat} {v : Value} {xs : List Value} (h : w.ownsRow B e size v n xs) {k : Nat} (hk : v.ownBlock = some k) : ∃ cur fr, w.heap[k]? = some (.cells cur e fr) := by
  rcases h.2 with ⟨rfl, _⟩ | ⟨g, cap, cur, rfl, _, hc, _⟩
  · simp [Value.ownBlock] at hk
  · simp [Value.ownBlock] at hk
    subst hk
    exact ⟨_, _, hc⟩
theorem own_apart {w : World} {B B' n n' size size' : Nat} {e e' : TypeId} {v v' : Value} {xs xs' : List Value} (h : w.ownsRow B e size v n xs) (h' : w.ownsRow B' e' size' v' n' xs') (hne : e ≠ e') : v.ownBlock = none ∨ v.ownBlock ≠ v'.ownBlock := by
  cases hk : v.ownBlock with
  | none => exact .inl rfl
  | some k =>
    refine .inr fun he => ?_
    obtain ⟨cur, fr, h1⟩ := own_kind h hk
    obtain ⟨cur', fr', h2⟩ := own_kind h' he.symm
    rw [h1] at h2
    injection h2 with h2
    injection h2 with _ h3
    exact hne h3
def nmAt (i : Nat) : ByteArray := [⟨#[110, 117, 109, 98, 101, 114]⟩, ⟨#[97, 108, 103, 101, 98, 114, 97]⟩, ⟨#[103, 114, 97, 112, 104, 115]⟩, ⟨#[115, 104, 97, 112, 101]⟩, ⟨#[99, 104, 97, 110, 99, 101]⟩, ⟨#[100, 97, 116, 97]⟩].getD i ⟨#[]⟩
def nmCells : Array Value := #[.string ⟨#[110, 117, 109, 98, 101, 114]⟩, .string ⟨#[97, 108, 103, 101, 98, 114, 97]⟩, .string ⟨#[103, 114, 97, 112, 104, 115]⟩, .string ⟨#[115, 104, 97, 112, 101]⟩, .string ⟨#[99, 104, 97, 110, 99, 101]⟩, .string ⟨#[100, 97, 116, 97]⟩]
theorem nm_cell {w : World} {g : Nat} {t : TypeId} (h : Blk w g t nmCells) {i : Nat} (hi : i < 6) : w.cell? ⟨g, i, none⟩ = some (.string (nmAt i)) := by
  have : i = 0 ∨ i = 1 ∨ i = 2 ∨ i = 3 ∨ i = 4 ∨ i = 5 := by omega
  rcases this with rfl | rfl | rfl | rfl | rfl | rfl <;> exact h.cell _

structure Sx (w0 : World) (B g : Nat) (o : Option Addr) (n c : Nat) (z : Nat → Int) (gb gn : Nat) (v1 v2 v3 : Value) (lt : List TP) (lo : List ByteArray) (lc : List CP) (wr : World) : Prop where
  tp : Tp wr B g o n c z
  gr : w0.grownBy wr (some g)
  nm : Blk wr gn 9 nmCells
  bx : Blk wr gb 27 #[v1, v2, v3]
  r1 : wr.ownsRow (gb + 1) 36 2 v1 lt.length (tCells lt)
  r2 : wr.ownsRow (gb + 1) 9 1 v2 lo.length (lo.map Value.string)
  r3 : wr.ownsRow (gb + 1) 38 3 v3 lc.length (cCells lc)
  gl : g < w0.heap.size
  ln : w0.heap.size < gn ∧ gn < gb
  rs : ∃ x0 x1 x2 : Value, Blk wr w0.heap.size 27 #[x0, x1, x2]
section
variable {w0 : World} {B g : Nat} {o : Option Addr} {n c : Nat} {z : Nat → Int} {gb gn : Nat} {v1 v2 v3 : Value} {lt : List TP} {lo : List ByteArray} {lc : List CP} {wr w2 : World}
theorem Sx.on (h : Sx w0 B g o n c z gb gn v1 v2 v3 lt lo lc wr) (ht : Tp w2 B g o n c z) (hg : wr.grownBy w2 (some g)) : Sx w0 B g o n c z gb gn v1 v2 v3 lt lo lc w2 := by
  have hl := h.gl
  have hn := h.ln
  refine ⟨ht, gTr h.gr hg, h.nm.grown hg (fun e => by injection e; omega), h.bx.grown hg (fun e => by injection e; omega), h.r1.kept hg (.inr fun e => ?_), h.r2.kept hg (.inr fun e => ?_), h.r3.kept hg (.inr fun e => ?_), h.gl, h.ln, by obtain ⟨x0, x1, x2, hr⟩ := h.rs; exact ⟨x0, x1, x2, hr.grown hg (fun e => by injection e; omega)⟩⟩
  · have := (h.r1.lt g e).1; omega
  · have := (h.r2.lt g e).1; omega
  · have := (h.r3.lt g e).1; omega
theorem Sx.later (h : Sx w0 B g o n c z gb gn v1 v2 v3 lt lo lc wr) (hb : Below wr.heap.size wr w2) : Sx w0 B g o n c z gb gn v1 v2 v3 lt lo lc w2 :=
  h.on (h.tp.later hb) (gBe hb)
theorem Sx.alloc (h : Sx w0 B g o n c z gb gn v1 v2 v3 lt lo lc wr) (x : Obj) : Sx w0 B g o n c z gb gn v1 v2 v3 lt lo lc (wr.alloc x) := h.later (bAl (Below.refl _ _) x)
theorem Sx.drew (h : Sx w0 B g o n c z gb gn v1 v2 v3 lt lo lc wr) : Sx w0 B g o n c z gb gn v1 v2 v3 lt lo lc wr.drew := h.later (bD1 (Below.refl _ _))
theorem Sx.sz (h : Sx w0 B g o n c z gb gn v1 v2 v3 lt lo lc wr) : gb + 1 ≤ wr.heap.size := h.bx.lt
/-- behind an append to a row whose block is k, and a store of the row into the box -/
theorem Sx.put1 (h : Sx w0 B g o n c z gb gn v1 v2 v3 lt lo lc wr) {v' : Value} {x : TP} (hg : wr.grownBy w2 v1.ownBlock) (h3 : w2.ownsRow (gb + 1) 36 2 v' (lt.length + 1) (tCells lt ++ [.string x.1, .int .i64 x.2])) :
    Sx w0 B g o n c z gb gn v' v2 v3 (lt ++ [x]) lo lc (w2.setCell ⟨gb, 0, none⟩ v') := by
  have hl := h.gl
  have hn := h.ln
  have hz := h.sz
  have ne : ∀ b : Nat, b < gb + 1 → some b ≠ v1.ownBlock := fun b hb e => by have := (h.r1.lt b e.symm).1; omega
  have hlt : ∀ k, v1.ownBlock = some k → g < k := fun k hk => by have := (h.r1.lt k hk).1; omega
  refine ⟨(h.tp.grow hg hlt).setFar (by show g < gb; omega) _, gNew (gRow h.gr hg (fun j hj => by have := (h.r1.lt j hj).1; omega)) (by show _ ≤ gb; omega) _, (h.nm.grown hg (ne _ (by omega))).off (by omega) _, ?_, ?_, ?_, ?_, h.gl, h.ln, by obtain ⟨x0, x1, x2, hr⟩ := h.rs; exact ⟨x0, x1, x2, (hr.grown hg (ne _ (by omega))).off (by omega) _⟩⟩
  · have := (h.bx.grown hg (ne _ (by omega))).set_ 0 v'
    simpa using this
  · rw [List.length_append, tCells_snoc]
    exact ownsRow_setCell_below h3 (by show gb < _; omega) _
  · exact ownsRow_setCell_below (h.r2.kept hg (own_apart h.r2 h.r1 (by decide))) (by show gb < _; omega) _
  · exact ownsRow_setCell_below (h.r3.kept hg (own_apart h.r3 h.r1 (by decide))) (by show gb < _; omega) _
theorem Sx.put2 (h : Sx w0 B g o n c z gb gn v1 v2 v3 lt lo lc wr) {v' : Value} {xs : List ByteArray} (hg : wr.grownBy w2 v2.ownBlock) (h3 : w2.ownsRow (gb + 1) 9 1 v' (lo.length + xs.length) (lo.map Value.string ++ xs.map Value.string)) :
    Sx w0 B g o n c z gb gn v1 v' v3 lt (lo ++ xs) lc (w2.setCell ⟨gb, 1, none⟩ v') := by
  have hl := h.gl
  have hn := h.ln
  have hz := h.sz
  have ne : ∀ b : Nat, b < gb + 1 → some b ≠ v2.ownBlock := fun b hb e => by have := (h.r2.lt b e.symm).1; omega
  have hlt : ∀ k, v2.ownBlock = some k → g < k := fun k hk => by have := (h.r2.lt k hk).1; omega
  refine ⟨(h.tp.grow hg hlt).setFar (by show g < gb; omega) _, gNew (gRow h.gr hg (fun j hj => by have := (h.r2.lt j hj).1; omega)) (by show _ ≤ gb; omega) _, (h.nm.grown hg (ne _ (by omega))).off (by omega) _, ?_, ?_, ?_, ?_, h.gl, h.ln, by obtain ⟨x0, x1, x2, hr⟩ := h.rs; exact ⟨x0, x1, x2, (hr.grown hg (ne _ (by omega))).off (by omega) _⟩⟩
  · have := (h.bx.grown hg (ne _ (by omega))).set_ 1 v'
    simpa using this
  · exact ownsRow_setCell_below (h.r1.kept hg (own_apart h.r1 h.r2 (by decide))) (by show gb < _; omega) _
  · rw [List.length_append, List.map_append]
    exact ownsRow_setCell_below h3 (by show gb < _; omega) _
  · exact ownsRow_setCell_below (h.r3.kept hg (own_apart h.r3 h.r2 (by decide))) (by show gb < _; omega) _
theorem Sx.put3 (h : Sx w0 B g o n c z gb gn v1 v2 v3 lt lo lc wr) {v' : Value} {x : CP} (hg : wr.grownBy w2 v3.ownBlock) (h3 : w2.ownsRow (gb + 1) 38 3 v' (lc.length + 1) (cCells lc ++ [.string x.1, .int .i64 x.2.1, .int .i64 x.2.2])) :
    Sx w0 B g o n c z gb gn v1 v2 v' lt lo (lc ++ [x]) (w2.setCell ⟨gb, 2, none⟩ v') := by
  have hl := h.gl
  have hn := h.ln
  have hz := h.sz
  have ne : ∀ b : Nat, b < gb + 1 → some b ≠ v3.ownBlock := fun b hb e => by have := (h.r3.lt b e.symm).1; omega
  have hlt : ∀ k, v3.ownBlock = some k → g < k := fun k hk => by have := (h.r3.lt k hk).1; omega
  refine ⟨(h.tp.grow hg hlt).setFar (by show g < gb; omega) _, gNew (gRow h.gr hg (fun j hj => by have := (h.r3.lt j hj).1; omega)) (by show _ ≤ gb; omega) _, (h.nm.grown hg (ne _ (by omega))).off (by omega) _, ?_, ?_, ?_, ?_, h.gl, h.ln, by obtain ⟨x0, x1, x2, hr⟩ := h.rs; exact ⟨x0, x1, x2, (hr.grown hg (ne _ (by omega))).off (by omega) _⟩⟩
  · have := (h.bx.grown hg (ne _ (by omega))).set_ 2 v'
    simpa using this
  · exact ownsRow_setCell_below (h.r1.kept hg (own_apart h.r1 h.r3 (by decide))) (by show gb < _; omega) _
  · exact ownsRow_setCell_below (h.r2.kept hg (own_apart h.r2 h.r3 (by decide))) (by show gb < _; omega) _
  · rw [List.length_append, cCells_snoc]
    exact ownsRow_setCell_below h3 (by show gb < _; omega) _
end

/-- the syllabus of three lists -/
def sylOf (lt : List TP) (lo : List ByteArray) (lc : List CP) : Syl :=
  ⟨lt.length, fun i => (lt.getD i (⟨#[]⟩, 0)).1, fun i => (lt.getD i (⟨#[]⟩, 0)).2, lo.length, fun i => lo.getD i ⟨#[]⟩, lc.length, fun i => (lc.getD i (⟨#[]⟩, 0, 0)).1, fun i => (lc.getD i (⟨#[]⟩, 0, 0)).2.1, fun i => (lc.getD i (⟨#[]⟩, 0, 0)).2.2⟩
theorem getD_at {α : Type} {l : List α} {d : α} {i : Nat} (h : i < l.length) : l[i]? = some (l.getD i d) := by rw [List.getD_eq_getElem?_getD, List.getElem?_eq_getElem h]; rfl
theorem rowT_own {w : World} {B : Nat} {v : Value} {e : TypeId} {lt : List TP} (h : w.ownsRow B e 2 v lt.length (tCells lt)) : ∃ o c, v = .slice o lt.length c ∧ lt.length ≤ c ∧ RowT w w.heap.size o lt.length (fun i => (lt.getD i (⟨#[]⟩, 0)).1) (fun i => (lt.getD i (⟨#[]⟩, 0)).2) := by
  rcases h.2 with ⟨rfl, h0⟩ | ⟨g, cap, cur, rfl, hb, hc, hmc, hm, _⟩
  · exact ⟨none, 0, by rw [h0], by omega, fun i hi => by omega⟩
  · refine ⟨_, cap, rfl, hmc, fun i hi => ⟨g, 0, rfl, (Array.getElem?_eq_some_iff.1 hc).1, ?_⟩⟩
    obtain ⟨e0, e1⟩ := tCells_at lt i _ (getD_at (d := (⟨#[]⟩, 0)) hi)
    exact ⟨by rw [Nat.zero_add]; exact (h.cellAt (i * 2) (by omega)).trans e0, by rw [Nat.zero_add]; exact (h.cellAt (i * 2 + 1) (by omega)).trans e1⟩
theorem rowC_own {w : World} {B : Nat} {v : Value} {e : TypeId} {lc : List CP} (h : w.ownsRow B e 3 v lc.length (cCells lc)) : ∃ o c, v = .slice o lc.length c ∧ lc.length ≤ c ∧ RowC w w.heap.size o lc.length (fun i => (lc.getD i (⟨#[]⟩, 0, 0)).1) (fun i => (lc.getD i (⟨#[]⟩, 0, 0)).2.1) (fun i => (lc.getD i (⟨#[]⟩, 0, 0)).2.2) := by
  rcases h.2 with ⟨rfl, h0⟩ | ⟨g, cap, cur, rfl, hb, hc, hmc, hm, _⟩
  · exact ⟨none, 0, by rw [h0], by omega, fun i hi => by omega⟩
  · refine ⟨_, cap, rfl, hmc, fun i hi => ⟨g, 0, rfl, (Array.getElem?_eq_some_iff.1 hc).1, ?_⟩⟩
    obtain ⟨e0, e1, e2⟩ := cCells_at lc i _ (getD_at (d := (⟨#[]⟩, 0, 0)) hi)
    exact ⟨by rw [Nat.zero_add]; exact (h.cellAt (i * 3) (by omega)).trans e0, by rw [Nat.zero_add]; exact (h.cellAt (i * 3 + 1) (by omega)).trans e1, by rw [Nat.zero_add]; exact (h.cellAt (i * 3 + 2) (by omega)).trans e2⟩
theorem rowO_own {w : World} {B : Nat} {v : Value} {e : TypeId} {lo : List ByteArray} (h : w.ownsRow B e 1 v lo.length (lo.map Value.string)) : ∃ o c, v = .slice o lo.length c ∧ lo.length ≤ c ∧ RowStr w w.heap.size o lo.length (fun i => lo.getD i ⟨#[]⟩) := by
  rcases h.2 with ⟨rfl, h0⟩ | ⟨g, cap, cur, rfl, hb, hc, hmc, hm, _⟩
  · exact ⟨none, 0, by rw [h0], by omega, fun i hi => by omega⟩
  · refine ⟨_, cap, rfl, hmc, fun i hi => ⟨g, 0, rfl, (Array.getElem?_eq_some_iff.1 hc).1, ?_⟩⟩
    rw [Nat.zero_add, h.cellAt i (by omega), List.getElem?_map, getD_at (d := ⟨#[]⟩) hi]
    rfl
/-- what the draw hands back -/
def DrawR (N : Int) (w0 : World) (B g : Nat) (o : Option Addr) (n c : Nat) (z : Nat → Int) (e : Ending) (w' : World) : Prop :=
  ∃ (p : Ptr) (lt : List TP) (lo : List ByteArray) (lc : List CP), e = .returned (.agg (sylC p (sylOf lt lo lc))) ∧ SylIn w' w'.heap.size p (sylOf lt lo lc) ∧ (∀ W, w'.grownBy W (some g) → SylIn W W.heap.size p (sylOf lt lo lc)) ∧ Tp w' B g o n c z ∧ w0.grownBy w' (some g) ∧ 1 ≤ lt.length ∧ lt.length ≤ 7 ∧ lo.length ≤ 10 ∧ lc.length ≤ 4 ∧
    (N = 0 → (sylOf lt lo lc).chk = 0 ∧ lt.length ≤ 6 ∧ lc.length ≤ 3)
/-- topics that are drawn: their names are the list's, their parents earlier ones -/
def GoodT (lt : List TP) : Prop := ∀ (j : Nat) (x : TP), lt[j]? = some x → x.1 = nmAt j ∧ -1 ≤ x.2 ∧ x.2 < (j : Int)
def GoodO (lo : List ByteArray) : Prop := ∀ (j : Nat) (x : ByteArray), lo[j]? = some x → x = nmAt j
def GoodC (lc : List CP) : Prop := ∀ (j : Nat) (x : CP), lc[j]? = some x → x.1 = nmAt j ∧ 0 ≤ x.2.1 ∧ x.2.1 ≤ 1000 ∧ 1 ≤ x.2.2 ∧ x.2.2 ≤ 200
theorem push_all {α : Type} {l : List α} {x : α} {p : Nat → α → Prop} (h : ∀ j y, l[j]? = some y → p j y) (hx : p l.length x) : ∀ j y, (l ++ [x])[j]? = some y → p j y := by
  intro j y hy
  rcases Nat.lt_or_ge j l.length with h1 | h1
  · rw [List.getElem?_append_left h1] at hy; exact h j y hy
  · rw [List.getElem?_append_right h1] at hy
    rcases Nat.eq_zero_or_pos (j - l.length) with h2 | h2
    · rw [h2] at hy
      simp at hy
      obtain rfl : j = l.length := by omega
      rw [← hy]; exact hx
    · rw [List.getElem?_eq_none (by simp; omega)] at hy; cases hy
theorem nm_ok : ∀ i, i < 6 → nmE nmAt i = 0 := by decide +kernel
theorem hasS_congr {f g : Nat → ByteArray} {x : ByteArray} : ∀ {n : Nat}, (∀ k, k < n → f k = g k) → hasS f x n = hasS g x n
  | 0, _ => rfl
  | n + 1, h => by
    show (hasS f x n || eqS (f n) x) = (hasS g x n || eqS (g n) x)
    rw [hasS_congr fun k hk => h k (by omega), h n (by omega)]
theorem nmE_congr {f g : Nat → ByteArray} {i : Nat} (h : ∀ k, k ≤ i → f k = g k) : nmE f i = nmE g i := by
  unfold nmE
  rw [h i (Nat.le_refl _), hasS_congr fun k hk => h k (by omega)]
theorem good_chk {lt : List TP} {lo : List ByteArray} {lc : List CP} (ht : GoodT lt) (ho : GoodO lo) (hc : GoodC lc) (h1 : lt.length ≤ 6) (h2 : lo.length ≤ 3) (h3 : lc.length ≤ 3) : (sylOf lt lo lc).chk = 0 := by
  have hb : ¬ (sylOf lt lo lc).big := by
    show ¬ (16 < lt.length ∨ 6 < lo.length ∨ 6 < lc.length)
    omega
  unfold Syl.chk
  rw [if_neg hb]
  have e1 : firstE (sylOf lt lo lc).tE (sylOf lt lo lc).nT = 0 := firstE_zero fun i hi => by
    have hi' : i < lt.length := hi
    show topE (fun i => (lt.getD i (⟨#[]⟩, 0)).1) (fun i => (lt.getD i (⟨#[]⟩, 0)).2) i = 0
    have hn : nmE (fun i => (lt.getD i (⟨#[]⟩, 0)).1) i = 0 := (nmE_congr fun k hk => (ht k _ (getD_at (by omega))).1).trans (nm_ok i (by omega))
    unfold topE
    obtain ⟨_, h5, h6⟩ := ht i _ (getD_at (d := (⟨#[]⟩, 0)) hi')
    rw [if_pos hn, if_neg (by dsimp only; omega)]
  have e2 : firstE (nmE (sylOf lt lo lc).on) (sylOf lt lo lc).nO = 0 := firstE_zero fun i hi => by
    have hi' : i < lo.length := hi
    exact (nmE_congr (f := fun i => lo.getD i ⟨#[]⟩) fun k hk => ho k _ (getD_at (by omega))).trans (nm_ok i (by omega))
  have e3 : firstE (sylOf lt lo lc).cE (sylOf lt lo lc).nC = 0 := firstE_zero fun i hi => by
    have hi' : i < lc.length := hi
    show comE (fun i => (lc.getD i (⟨#[]⟩, 0, 0)).1) (fun i => (lc.getD i (⟨#[]⟩, 0, 0)).2.1) (fun i => (lc.getD i (⟨#[]⟩, 0, 0)).2.2) i = 0
    have hn : nmE (fun i => (lc.getD i (⟨#[]⟩, 0, 0)).1) i = 0 := (nmE_congr fun k hk => (hc k _ (getD_at (by omega))).1).trans (nm_ok i (by omega))
    unfold comE
    obtain ⟨_, h5, h6, h7, h8⟩ := hc i _ (getD_at (d := (⟨#[]⟩, 0, 0)) hi')
    rw [if_pos hn, if_neg (by dsimp only; omega)]
  rw [e1, e2, e3]; rfl
theorem Sx.fin {w0 : World} {B g : Nat} {o : Option Addr} {n c : Nat} {z : Nat → Int} {gb gn : Nat} {v1 v2 v3 : Value} {lt : List TP} {lo : List ByteArray} {lc : List CP} {wr : World} (h : Sx w0 B g o n c z gb gn v1 v2 v3 lt lo lc wr) :
    ∃ p : Ptr, #[v1, v2, v3] = sylC p (sylOf lt lo lc) ∧ SylIn wr wr.heap.size p (sylOf lt lo lc) := by
  obtain ⟨o1, c1, rfl, a1, r1⟩ := rowT_own h.r1
  obtain ⟨o2, c2, rfl, a2, r2⟩ := rowO_own h.r2
  obtain ⟨o3, c3, rfl, a3, r3⟩ := rowC_own h.r3
  exact ⟨⟨o1, c1, o2, c2, o3, c3⟩, rfl, ⟨r1, r2, r3, a1, a2, a3⟩⟩

theorem Sx.res {w0 : World} {B g : Nat} {o : Option Addr} {n c : Nat} {z : Nat → Int} {gb gn : Nat} {v1 v2 v3 : Value} {lt : List TP} {lo : List ByteArray} {lc : List CP} {wr : World} (h : Sx w0 B g o n c z gb gn v1 v2 v3 lt lo lc wr) (i : Nat) (hi : i < 3) (u : Value) : Sx w0 B g o n c z gb gn v1 v2 v3 lt lo lc (wr.setCell ⟨w0.heap.size, i, none⟩ u) := by
  have hl := h.gl
  have hn := h.ln
  obtain ⟨x0, x1, x2, hr⟩ := h.rs
  refine ⟨h.tp.setFar (by show g < w0.heap.size; omega) _, gNew h.gr (Nat.le_refl _) _, h.nm.off (by omega) _, h.bx.off (by omega) _, ownsRow_setCell_below h.r1 (by show w0.heap.size < gb + 1; omega) _, ownsRow_setCell_below h.r2 (by show w0.heap.size < gb + 1; omega) _, ownsRow_setCell_below h.r3 (by show w0.heap.size < gb + 1; omega) _, h.gl, h.ln, ?_⟩
  have hs := hr.set_ i u
  have : i = 0 ∨ i = 1 ∨ i = 2 := by omega
  rcases this with rfl | rfl | rfl
  · exact ⟨u, x1, x2, by simpa using hs⟩
  · exact ⟨x0, u, x2, by simpa using hs⟩
  · exact ⟨x0, x1, u, by simpa using hs⟩
theorem Sx.done {N : Int} {w0 : World} {B g : Nat} {o : Option Addr} {n c : Nat} {z : Nat → Int} {gb gn : Nat} {v1 v2 v3 : Value} {lt : List TP} {lo : List ByteArray} {lc : List CP} {wr : World} (h : Sx w0 B g o n c z gb gn v1 v2 v3 lt lo lc wr) (h1 : 1 ≤ lt.length) (h2 : lt.length ≤ 7) (h3 : lo.length ≤ 10) (h4 : lc.length ≤ 4)
    (h5 : N = 0 → GoodT lt ∧ GoodO lo ∧ GoodC lc ∧ lt.length ≤ 6 ∧ lo.length ≤ 3 ∧ lc.length ≤ 3) : DrawR N w0 B g o n c z (.returned (.agg #[v1, v2, v3])) wr := by
  have hgl := h.gl
  have hln := h.ln
  obtain ⟨o1, c1, e1, a1, r1⟩ := rowT_own h.r1
  obtain ⟨o2, c2, e2, a2, r2⟩ := rowO_own h.r2
  obtain ⟨o3, c3, e3, a3, r3⟩ := rowC_own h.r3
  have hw : ∀ W, wr.grownBy W (some g) → SylIn W W.heap.size ⟨o1, c1, o2, c2, o3, c3⟩ (sylOf lt lo lc) := fun W hg => by
    have k1 := h.r1.kept hg (.inr fun e => by have := (h.r1.lt g e).1; omega)
    have k2 := h.r2.kept hg (.inr fun e => by have := (h.r2.lt g e).1; omega)
    have k3 := h.r3.kept hg (.inr fun e => by have := (h.r3.lt g e).1; omega)
    obtain ⟨o1', c1', e1', a1', r1'⟩ := rowT_own k1
    obtain ⟨o2', c2', e2', a2', r2'⟩ := rowO_own k2
    obtain ⟨o3', c3', e3', a3', r3'⟩ := rowC_own k3
    rw [e1] at e1'; rw [e2] at e2'; rw [e3] at e3'
    injection e1' with x1 _ x2
    injection e2' with x3 _ x4
    injection e3' with x5 _ x6
    subst x1; subst x2; subst x3; subst x4; subst x5; subst x6
    exact ⟨r1', r2', r3', a1, a2, a3⟩
  refine ⟨⟨o1, c1, o2, c2, o3, c3⟩, lt, lo, lc, by rw [e1, e2, e3]; rfl, ⟨r1, r2, r3, a1, a2, a3⟩, hw, h.tp, h.gr, h1, h2, h3, h4, fun h0 => ?_⟩
  obtain ⟨a, b, d, e, f, j⟩ := h5 h0
  exact ⟨good_chk a b d e f j, e, j⟩

theorem Sx.mid {w0 : World} {B g : Nat} {o : Option Addr} {n c : Nat} {z : Nat → Int} {gb gn : Nat} {v1 v2 v3 : Value} {lt : List TP} {lo : List ByteArray} {lc : List CP} {wr w2 : World} {row : Option Nat} (h : Sx w0 B g o n c z gb gn v1 v2 v3 lt lo lc wr) (hg : wr.grownBy w2 row) (hne : ∀ b, b < gb + 1 → some b ≠ row) :
    Blk w2 gb 27 #[v1, v2, v3] ∧ ∃ x0 x1 x2 : Value, Blk w2 w0.heap.size 27 #[x0, x1, x2] := by
  have hn := h.ln
  obtain ⟨x0, x1, x2, hr⟩ := h.rs
  exact ⟨h.bx.grown hg (hne gb (by omega)), x0, x1, x2, hr.grown hg (hne _ (by omega))⟩

theorem Sx.mid0 {w0 : World} {B g : Nat} {o : Option Addr} {n c : Nat} {z : Nat → Int} {gb gn : Nat} {v1 v2 v3 : Value} {lt : List TP} {lo : List ByteArray} {lc : List CP} {wr : World} (h : Sx w0 B g o n c z gb gn v1 v2 v3 lt lo lc wr) :
    Blk wr gb 27 #[v1, v2, v3] ∧ ∃ x0 x1 x2 : Value, Blk wr w0.heap.size 27 #[x0, x1, x2] := ⟨h.bx, h.rs⟩
end Go.Proofs.Ytglikjdgjmijfaa
