/-
  Slices of numbers and of parts in memory.
-/
import Derived.Test.YtjciniffkdadaaaTape
import Derived.Test.YtjciniffkdadaaaIMath
namespace Go.Proofs.Ytjciniffkdadaaa
open Go.RowKit
set_option linter.unusedSimpArgs false
set_option linter.unusedVariables false

theorem retB {a b : Bool} (h : a = b) : Ending.returned (.bool a) = .returned (.bool b) := by rw [h]
/-- a slice of numbers reads as C, below block B -/
def RowI (w : World) (B : Nat) (o : Option Addr) (n : Nat) (C : Nat → Int) : Prop :=
  ∀ i, i < n → ∃ b off, o = some ⟨b, off, none⟩ ∧ b < B ∧ w.cell? ⟨b, off + i, none⟩ = some (.int .i64 (C i))
theorem RowI.below {w w' : World} {B B' n : Nat} {o : Option Addr} {C : Nat → Int} (h : RowI w B o n C) (hb : Below B' w w') (hB : B ≤ B') : RowI w' B o n C := fun i hi => by
  obtain ⟨b, off, ho, hl, h0⟩ := h i hi
  exact ⟨b, off, ho, hl, (hb.cell (p := ⟨b, _, none⟩) (Nat.lt_of_lt_of_le hl hB)).trans h0⟩
theorem RowI.more {w : World} {B B' n : Nat} {o : Option Addr} {C : Nat → Int} (h : RowI w B o n C) (hB : B ≤ B') : RowI w B' o n C := fun i hi => by
  obtain ⟨b, off, ho, hl, h0⟩ := h i hi
  exact ⟨b, off, ho, by omega, h0⟩
def iv (x : Nat) : Value := .int .i64 (x : Int)
def ints (l : List Int) : List Value := l.map fun x => .int .i64 x
theorem own_later {w w' : World} {base : Nat} {e : TypeId} {size n : Nat} {v : Value} {xs : List Value} (h : w.ownsRow base e size v n xs) (hb : RowKit.Below w.heap.size w w') : w'.ownsRow base e size v n xs := by
  have hg : w.grownBy w' none := ⟨hb.os, hb.tape, hb.output, hb.size, fun j hj _ => hb.block j hj⟩
  refine h.kept hg ?_
  cases v.ownBlock with
  | none => exact .inl rfl
  | some k => exact .inr (by simp)
theorem own_any {w : World} {B n : Nat} {e : TypeId} {size : Nat} {v : Value} {xs : List Value} (h : w.ownsRow B e size v n xs) : ∃ o c, v = .slice o n c := by
  rcases h.2 with ⟨rfl, h0⟩ | ⟨g, cap, cur, rfl, _⟩
  · exact ⟨none, 0, by rw [h0]⟩
  · exact ⟨_, cap, rfl⟩
theorem cell_one_new (w : World) (x : Value) (t : TypeId) : ∀ j u, [x][j]? = some u → (w.alloc (.cells #[x] t)).cell? ((⟨w.heap.size, 0, none⟩ : Addr).add j) = some u := by
  intro j u hj
  have e : ((⟨w.heap.size, 0, none⟩ : Addr).add j) = ⟨w.heap.size, j, none⟩ := by unfold Addr.add; split <;> simp_all
  have h := (Blk.new w t #[x]).cell j
  rw [e, h]
  simpa using hj
theorem cell_one_new' (w : World) {g : Nat} (hg : g = w.heap.size) (x : Value) (t : TypeId) : ∀ j u, [x][j]? = some u → (w.alloc (.cells #[x] t)).cell? ((⟨g, 0, none⟩ : Addr).add j) = some u := by
  subst hg
  exact cell_one_new w x t
theorem cell_row (w : World) (cs : List Value) (t : TypeId) : ∀ j u, cs[j]? = some u → (w.alloc (.cells cs.toArray t)).cell? ((⟨w.heap.size, 0, none⟩ : Addr).add j) = some u := by
  intro j u hj
  have e : ((⟨w.heap.size, 0, none⟩ : Addr).add j) = ⟨w.heap.size, j, none⟩ := by unfold Addr.add; split <;> simp_all
  have h := (Blk.new w t cs.toArray).cell j
  rw [e, h]
  simpa using hj

/-- a part's six values -/
def ptL (p : Pt) : List Value := [.int .i64 p.kd, .int .i64 p.mx, .int .i64 p.tp, .int .i64 p.ob, .int .i64 p.op, .int .i64 p.ky]
/-- a slice of parts reads as P, below block B -/
def RowP (w : World) (B : Nat) (o : Option Addr) (n : Nat) (P : Nat → Pt) : Prop :=
  ∀ i, i < n → ∃ b off, o = some ⟨b, off, none⟩ ∧ b < B ∧ w.cell? ⟨b, off + i * 6, none⟩ = some (.int .i64 (P i).kd) ∧ w.cell? ⟨b, off + i * 6 + 1, none⟩ = some (.int .i64 (P i).mx) ∧ w.cell? ⟨b, off + i * 6 + 2, none⟩ = some (.int .i64 (P i).tp) ∧ w.cell? ⟨b, off + i * 6 + 3, none⟩ = some (.int .i64 (P i).ob) ∧ w.cell? ⟨b, off + i * 6 + 4, none⟩ = some (.int .i64 (P i).op) ∧ w.cell? ⟨b, off + i * 6 + 5, none⟩ = some (.int .i64 (P i).ky)
theorem RowP.below {w w' : World} {B B' n : Nat} {o : Option Addr} {P : Nat → Pt} (h : RowP w B o n P) (hb : Below B' w w') (hB : B ≤ B') : RowP w' B o n P := fun i hi => by
  obtain ⟨b, off, ho, hl, h0, h1, h2, h3, h4, h5⟩ := h i hi
  have hbB := Nat.lt_of_lt_of_le hl hB
  exact ⟨b, off, ho, hl, (hb.cell (p := ⟨b, _, none⟩) hbB).trans h0, (hb.cell (p := ⟨b, _, none⟩) hbB).trans h1, (hb.cell (p := ⟨b, _, none⟩) hbB).trans h2, (hb.cell (p := ⟨b, _, none⟩) hbB).trans h3, (hb.cell (p := ⟨b, _, none⟩) hbB).trans h4, (hb.cell (p := ⟨b, _, none⟩) hbB).trans h5⟩
theorem RowP.more {w : World} {B B' n : Nat} {o : Option Addr} {P : Nat → Pt} (h : RowP w B o n P) (hB : B ≤ B') : RowP w B' o n P := fun i hi => by
  obtain ⟨b, off, ho, hl, h0⟩ := h i hi
  exact ⟨b, off, ho, by omega, h0⟩
theorem RowP.later {w w' : World} {n : Nat} {o : Option Addr} {P : Nat → Pt} (h : RowP w w.heap.size o n P) (hb : Below w.heap.size w w') : RowP w' w'.heap.size o n P := (h.below hb (Nat.le_refl _)).more hb.size
theorem RowI.later {w w' : World} {n : Nat} {o : Option Addr} {C : Nat → Int} (h : RowI w w.heap.size o n C) (hb : Below w.heap.size w w') : RowI w' w'.heap.size o n C := (h.below hb (Nat.le_refl _)).more hb.size
def pCells (l : List Pt) : List Value := l.flatMap ptL
theorem pCells_snoc (l : List Pt) (x : Pt) : pCells (l ++ [x]) = pCells l ++ ptL x := by unfold pCells; simp
theorem pCells_app (l m : List Pt) : pCells (l ++ m) = pCells l ++ pCells m := by unfold pCells; simp
theorem pCells_at : ∀ (l : List Pt) (j : Nat) (x : Pt), l[j]? = some x → (pCells l)[j * 6]? = some (.int .i64 x.kd) ∧ (pCells l)[j * 6 + 1]? = some (.int .i64 x.mx) ∧ (pCells l)[j * 6 + 2]? = some (.int .i64 x.tp) ∧ (pCells l)[j * 6 + 3]? = some (.int .i64 x.ob) ∧ (pCells l)[j * 6 + 4]? = some (.int .i64 x.op) ∧ (pCells l)[j * 6 + 5]? = some (.int .i64 x.ky)
  | [], j, x, h => by simp at h
  | a :: t, 0, x, h => by simp at h; subst h; simp [pCells, ptL]
  | a :: t, j + 1, x, h => by
    have ih := pCells_at t j x (by simpa using h)
    have e : pCells (a :: t) = .int .i64 a.kd :: .int .i64 a.mx :: .int .i64 a.tp :: .int .i64 a.ob :: .int .i64 a.op :: .int .i64 a.ky :: pCells t := by simp [pCells, ptL]
    rw [e, show (j + 1) * 6 = j * 6 + 1 + 1 + 1 + 1 + 1 + 1 by omega]
    simp only [List.getElem?_cons_succ]
    exact ih
theorem getD_at {α : Type} {l : List α} {d : α} {i : Nat} (h : i < l.length) : l[i]? = some (l.getD i d) := by rw [List.getD_eq_getElem?_getD, List.getElem?_eq_getElem h]; rfl
def ptAt (l : List Pt) (i : Nat) : Pt := l.getD i Pt.z
def inAt (l : List Int) (i : Nat) : Int := l.getD i 0
theorem rowP_own {w : World} {B : Nat} {v : Value} {e : TypeId} {l : List Pt} (h : w.ownsRow B e 6 v l.length (pCells l)) : ∃ o c, v = .slice o l.length c ∧ l.length ≤ c ∧ RowP w w.heap.size o l.length (ptAt l) := by
  rcases h.2 with ⟨rfl, h0⟩ | ⟨g, cap, cur, rfl, hb, hc, hmc, hm, _⟩
  · exact ⟨none, 0, by rw [h0], by omega, fun i hi => by omega⟩
  · refine ⟨_, cap, rfl, hmc, fun i hi => ⟨g, 0, rfl, (Array.getElem?_eq_some_iff.1 hc).1, ?_⟩⟩
    obtain ⟨e0, e1, e2, e3, e4, e5⟩ := pCells_at l i _ (getD_at (d := Pt.z) hi)
    exact ⟨by rw [Nat.zero_add]; exact (h.cellAt (i * 6) (by omega)).trans e0, by rw [Nat.zero_add]; exact (h.cellAt (i * 6 + 1) (by omega)).trans e1, by rw [Nat.zero_add]; exact (h.cellAt (i * 6 + 2) (by omega)).trans e2, by rw [Nat.zero_add]; exact (h.cellAt (i * 6 + 3) (by omega)).trans e3, by rw [Nat.zero_add]; exact (h.cellAt (i * 6 + 4) (by omega)).trans e4, by rw [Nat.zero_add]; exact (h.cellAt (i * 6 + 5) (by omega)).trans e5⟩
theorem rowI_own {w : World} {B : Nat} {v : Value} {e : TypeId} {l : List Int} (h : w.ownsRow B e 1 v l.length (ints l)) : ∃ o c, v = .slice o l.length c ∧ l.length ≤ c ∧ RowI w w.heap.size o l.length (inAt l) := by
  rcases h.2 with ⟨rfl, h0⟩ | ⟨g, cap, cur, rfl, hb, hc, hmc, hm, _⟩
  · exact ⟨none, 0, by rw [h0], by omega, fun i hi => by omega⟩
  · refine ⟨_, cap, rfl, hmc, fun i hi => ⟨g, 0, rfl, (Array.getElem?_eq_some_iff.1 hc).1, ?_⟩⟩
    rw [Nat.zero_add, h.cellAt i (by omega)]
    unfold ints
    rw [List.getElem?_map, getD_at (d := 0) hi]
    rfl

def natAt (l : List Nat) (i : Nat) : Int := ((l.getD i 0 : Nat) : Int)
theorem natAt_mem {l : List Nat} {i : Nat} (h : i < l.length) : l[i]? = some (l.getD i 0) := by
  rw [List.getD_eq_getElem?_getD, List.getElem?_eq_getElem h]; rfl
/-- a slice of indices of the call's own -/
theorem natRow_own {w : World} {B n : Nat} {v : Value} {e : TypeId} {l : List Nat} (h : w.ownsRow B e 1 v n (l.map iv)) : ∃ o c, v = .slice o l.length c ∧ n = l.length ∧ l.length ≤ c ∧ c ≤ maxLen ∧ RowI w w.heap.size o l.length (natAt l) := by
  have hl : l.length = n := by have := h.1; simpa using this
  rcases h.2 with ⟨rfl, h0⟩ | ⟨g, cap, cur, rfl, hb, hc, hmc, hm, _⟩
  · exact ⟨none, 0, by rw [hl, h0], hl.symm, by omega, by unfold maxLen; omega, fun i hi => by omega⟩
  · refine ⟨_, cap, by rw [hl], hl.symm, by omega, hm, fun i hi => ⟨g, 0, rfl, (Array.getElem?_eq_some_iff.1 hc).1, ?_⟩⟩
    have := h.cellAt i (by rw [Nat.mul_one, ← hl]; exact hi)
    rw [Nat.zero_add, this, List.getElem?_map, natAt_mem hi]
    rfl
/-- what a call hands back: a row of indices of its own -/
def NatV (l : List Nat) (w w' : World) (v : Value) : Prop := ∃ B, w'.ownsRow B 3 1 v l.length (l.map iv) ∧ w.heap.size ≤ B
def NatR (l : List Nat) (w : World) (e : Ending) (w' : World) : Prop := ∃ v, e = .returned v ∧ NatV l w w' v ∧ Below w.heap.size w w'
theorem NatV.later {l : List Nat} {w w1 w2 : World} {v : Value} (h : NatV l w w1 v) (hb : Below w1.heap.size w1 w2) : NatV l w w2 v := by
  obtain ⟨B, ho, hB⟩ := h
  exact ⟨B, own_later ho hb, hB⟩
theorem NatV.row {l : List Nat} {w w1 : World} {v : Value} (h : NatV l w w1 v) : ∃ o c, v = .slice o l.length c ∧ l.length ≤ c ∧ c ≤ maxLen ∧ RowI w1 w1.heap.size o l.length (natAt l) := by
  obtain ⟨B, ho, _⟩ := h
  obtain ⟨o, c, h1, _, h2, h3, h4⟩ := natRow_own ho
  exact ⟨o, c, h1, h2, h3, h4⟩
theorem NatV.nil (w w' : World) : NatV [] w w' (.slice none 0 0) := ⟨w.heap.size, World.ownsRow_nil _ _ _ _, Nat.le_refl _⟩
/-- a loop that collects indices -/
theorem filt_yes {f : Nat → Bool} {k : Nat} (h : f k = true) : (List.range (k + 1)).filter f = (List.range k).filter f ++ [k] := by rw [List.range_succ, List.filter_append]; simp [h]
theorem filt_no {f : Nat → Bool} {k : Nat} (h : f k = false) : (List.range (k + 1)).filter f = (List.range k).filter f := by rw [List.range_succ, List.filter_append]; simp [h]
theorem filt_len (f : Nat → Bool) (k : Nat) : ((List.range k).filter f).length ≤ k := Nat.le_trans (List.length_filter_le _ _) (by simp)
def CollAt (f : Nat → Bool) (n : Nat) (w : World) (v i : Value) (wr : World) : Prop :=
  ∃ k : Nat, i = .int .i64 k ∧ k ≤ n ∧ Hid (wr.ownsRow w.heap.size 3 1 v ((List.range k).filter f).length (((List.range k).filter f).map iv)) ∧ Hid (Below w.heap.size w wr)
theorem CollAt.start (f : Nat → Bool) (n : Nat) (w : World) : CollAt f n w (.slice none 0 0) (.int .i64 0) w := ⟨0, rfl, Nat.zero_le _, Lib.hid (World.ownsRow_nil _ _ _ _), Lib.hid (Below.refl _ _)⟩
theorem CollAt.no {f : Nat → Bool} {n k : Nat} {w wr w2 : World} {v : Value} (h : f k = false) (hk : k < n) (ho : wr.ownsRow w.heap.size 3 1 v ((List.range k).filter f).length (((List.range k).filter f).map iv)) (hb : Below w.heap.size w wr) (h2 : Below wr.heap.size wr w2) : CollAt f n w v (.int .i64 ((k + 1 : Nat) : Int)) w2 :=
  ⟨k + 1, rfl, hk, Lib.hid (by rw [filt_no h]; exact own_later ho h2), Lib.hid (bTr hb h2)⟩
theorem CollAt.yes {f : Nat → Bool} {n k : Nat} {w wr w2 w3 : World} {v v' : Value} {ob : Obj} (h : f k = true) (hk : k < n) (ho : wr.ownsRow w.heap.size 3 1 v ((List.range k).filter f).length (((List.range k).filter f).map iv)) (hb : Below w.heap.size w wr) (h2 : Below wr.heap.size wr w2)
    (hg : (w2.alloc ob).grownBy w3 v.ownBlock) (h3 : w3.ownsRow w.heap.size 3 1 v' (((List.range k).filter f).length + 1) (((List.range k).filter f).map iv ++ [iv k])) : CollAt f n w v' (.int .i64 ((k + 1 : Nat) : Int)) w3 :=
  ⟨k + 1, rfl, hk, Lib.hid (by rw [filt_yes h, List.map_append, List.length_append]; exact h3), Lib.hid ((bAl (bTr hb h2) ob).grown hg (by have := hb.size; have := h2.size; simp; omega) (fun j hj => (ho.lt j hj).1))⟩
theorem int_info : (Try.prog.info? 3).map (fun i => (i.zero, i.size, i.bytes)) = some (some (.int .i64 0), 1, 8) := by kernel_rfl
theorem part_info : (Try.prog.info? 23).map (fun i => (i.zero, i.size, i.bytes)) = some (some (.agg #[.int .i64 0, .int .i64 0, .int .i64 0, .int .i64 0, .int .i64 0, .int .i64 0]), 6, 48) := by kernel_rfl
end Go.Proofs.Ytjciniffkdadaaa
