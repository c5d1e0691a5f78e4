/-
  Slices of names, numbers, topics and components in memory.
-/
import Derived.Test.YtglikjdgjmijfaaMem
import Derived.Test.YtglikjdgjmijfaaSMath
namespace Go.Proofs.Ytglikjdgjmijfaa
open Go.RowKit
set_option linter.unusedSimpArgs false
set_option linter.unusedVariables false

/-- a slice of texts reads as nm, below block B -/
def RowStr (w : World) (B : Nat) (o : Option Addr) (n : Nat) (nm : Nat → ByteArray) : Prop :=
  ∀ i, i < n → ∃ b off, o = some ⟨b, off, none⟩ ∧ b < B ∧ w.cell? ⟨b, off + i, none⟩ = some (.string (nm i))
/-- a slice of numbers reads as C, below block B -/
def RowI (w : World) (B : Nat) (o : Option Addr) (n : Nat) (C : Nat → Int) : Prop :=
  ∀ i, i < n → ∃ b off, o = some ⟨b, off, none⟩ ∧ b < B ∧ w.cell? ⟨b, off + i, none⟩ = some (.int .i64 (C i))
def RowT (w : World) (B : Nat) (o : Option Addr) (n : Nat) (tn : Nat → ByteArray) (tp : Nat → Int) : Prop :=
  ∀ i, i < n → ∃ b off, o = some ⟨b, off, none⟩ ∧ b < B ∧ w.cell? ⟨b, off + i * 2, none⟩ = some (.string (tn i)) ∧ w.cell? ⟨b, off + i * 2 + 1, none⟩ = some (.int .i64 (tp i))
def RowC (w : World) (B : Nat) (o : Option Addr) (n : Nat) (cn : Nat → ByteArray) (cw cm : Nat → Int) : Prop :=
  ∀ i, i < n → ∃ b off, o = some ⟨b, off, none⟩ ∧ b < B ∧ w.cell? ⟨b, off + i * 3, none⟩ = some (.string (cn i)) ∧ w.cell? ⟨b, off + i * 3 + 1, none⟩ = some (.int .i64 (cw i)) ∧ w.cell? ⟨b, off + i * 3 + 2, none⟩ = some (.int .i64 (cm i))
theorem RowStr.below {w w' : World} {B B' n : Nat} {o : Option Addr} {nm : Nat → ByteArray} (h : RowStr w B o n nm) (hb : Below B' w w') (hB : B ≤ B') : RowStr w' B o n nm := fun i hi => by
  obtain ⟨b, off, ho, hl, h0⟩ := h i hi
  exact ⟨b, off, ho, hl, (hb.cell (p := ⟨b, _, none⟩) (Nat.lt_of_lt_of_le hl hB)).trans h0⟩
theorem RowI.below {w w' : World} {B B' n : Nat} {o : Option Addr} {C : Nat → Int} (h : RowI w B o n C) (hb : Below B' w w') (hB : B ≤ B') : RowI w' B o n C := fun i hi => by
  obtain ⟨b, off, ho, hl, h0⟩ := h i hi
  exact ⟨b, off, ho, hl, (hb.cell (p := ⟨b, _, none⟩) (Nat.lt_of_lt_of_le hl hB)).trans h0⟩
theorem RowT.below {w w' : World} {B B' n : Nat} {o : Option Addr} {tn : Nat → ByteArray} {tp : Nat → Int} (h : RowT w B o n tn tp) (hb : Below B' w w') (hB : B ≤ B') : RowT w' B o n tn tp := fun i hi => by
  obtain ⟨b, off, ho, hl, h0, h1⟩ := h i hi
  exact ⟨b, off, ho, hl, (hb.cell (p := ⟨b, _, none⟩) (Nat.lt_of_lt_of_le hl hB)).trans h0, (hb.cell (p := ⟨b, _, none⟩) (Nat.lt_of_lt_of_le hl hB)).trans h1⟩
theorem RowC.below {w w' : World} {B B' n : Nat} {o : Option Addr} {cn : Nat → ByteArray} {cw cm : Nat → Int} (h : RowC w B o n cn cw cm) (hb : Below B' w w') (hB : B ≤ B') : RowC w' B o n cn cw cm := fun i hi => by
  obtain ⟨b, off, ho, hl, h0, h1, h2⟩ := h i hi
  exact ⟨b, off, ho, hl, (hb.cell (p := ⟨b, _, none⟩) (Nat.lt_of_lt_of_le hl hB)).trans h0, (hb.cell (p := ⟨b, _, none⟩) (Nat.lt_of_lt_of_le hl hB)).trans h1, (hb.cell (p := ⟨b, _, none⟩) (Nat.lt_of_lt_of_le hl hB)).trans h2⟩
theorem RowStr.more {w : World} {B B' n : Nat} {o : Option Addr} {nm : Nat → ByteArray} (h : RowStr w B o n nm) (hB : B ≤ B') : RowStr w B' o n nm := fun i hi => by
  obtain ⟨b, off, ho, hl, h0⟩ := h i hi
  exact ⟨b, off, ho, by omega, h0⟩
theorem RowI.more {w : World} {B B' n : Nat} {o : Option Addr} {C : Nat → Int} (h : RowI w B o n C) (hB : B ≤ B') : RowI w B' o n C := fun i hi => by
  obtain ⟨b, off, ho, hl, h0⟩ := h i hi
  exact ⟨b, off, ho, by omega, h0⟩
theorem RowT.more {w : World} {B B' n : Nat} {o : Option Addr} {tn : Nat → ByteArray} {tp : Nat → Int} (h : RowT w B o n tn tp) (hB : B ≤ B') : RowT w B' o n tn tp := fun i hi => by
  obtain ⟨b, off, ho, hl, h0⟩ := h i hi
  exact ⟨b, off, ho, by omega, h0⟩
theorem RowC.more {w : World} {B B' n : Nat} {o : Option Addr} {cn : Nat → ByteArray} {cw cm : Nat → Int} (h : RowC w B o n cn cw cm) (hB : B ≤ B') : RowC w B' o n cn cw cm := fun i hi => by
  obtain ⟨b, off, ho, hl, h0⟩ := h i hi
  exact ⟨b, off, ho, by omega, h0⟩
theorem RowStr.less {w : World} {B n m : Nat} {o : Option Addr} {nm : Nat → ByteArray} (h : RowStr w B o n nm) (hm : m ≤ n) : RowStr w B o m nm := fun i hi => h i (by omega)
/-- a row of texts that a call owns -/
def strCells (nm : Nat → ByteArray) (n : Nat) : List Value := (List.range n).map fun i => .string (nm i)
theorem strCells_snoc (nm : Nat → ByteArray) (n : Nat) : strCells nm (n + 1) = strCells nm n ++ [.string (nm n)] := by unfold strCells; rw [List.range_succ, List.map_append]; rfl
theorem strCells_at {nm : Nat → ByteArray} {n i : Nat} (h : i < n) : (strCells nm n)[i]? = some (.string (nm i)) := by unfold strCells; simp [h]
/-- a value that is a slice of texts of the call's own -/
theorem strRow_own {w : World} {B n : Nat} {v : Value} {e : TypeId} {nm : Nat → ByteArray} (h : w.ownsRow B e 1 v n (strCells nm n)) : ∃ o c, v = .slice o n c ∧ n ≤ c ∧ c ≤ maxLen ∧ RowStr w w.heap.size o n nm := by
  rcases h.2 with ⟨rfl, h0⟩ | ⟨g, cap, cur, rfl, hb, hc, hmc, hm, _⟩
  · exact ⟨none, 0, by rw [h0], by omega, by unfold maxLen; omega, fun i hi => by omega⟩
  · refine ⟨_, cap, rfl, hmc, hm, fun i hi => ⟨g, 0, rfl, (Array.getElem?_eq_some_iff.1 hc).1, ?_⟩⟩
    have := h.cellAt i (by rw [Nat.mul_one]; exact hi)
    rw [Nat.zero_add, this, strCells_at hi]
/-- a row of numbers that a call owns -/
def iv (x : Nat) : Value := .int .i64 (x : Int)
def ints (l : List Int) : List Value := l.map fun x => .int .i64 x
theorem intRow_own {w : World} {B n : Nat} {v : Value} {e : TypeId} {l : List Int} (h : w.ownsRow B e 1 v n (ints l)) : ∃ o c, v = .slice o n c ∧ n = l.length ∧ n ≤ c ∧ c ≤ maxLen ∧ RowI w w.heap.size o n (fun i => l.getD i 0) := by
  have hl : l.length = n := by have := h.1; unfold ints at this; simpa using this
  rcases h.2 with ⟨rfl, h0⟩ | ⟨g, cap, cur, rfl, hb, hc, hmc, hm, _⟩
  · exact ⟨none, 0, by rw [h0], by omega, by omega, by unfold maxLen; omega, fun i hi => by omega⟩
  · refine ⟨_, cap, rfl, hl.symm, hmc, hm, fun i hi => ⟨g, 0, rfl, (Array.getElem?_eq_some_iff.1 hc).1, ?_⟩⟩
    have := h.cellAt i (by rw [Nat.mul_one]; exact hi)
    rw [Nat.zero_add, this]
    unfold ints
    rw [List.getElem?_map, List.getElem?_eq_getElem (by omega)]
    show _ = some (Value.int .i64 (l.getD i 0))
    rw [List.getD_eq_getElem?_getD, List.getElem?_eq_getElem (by omega)]
    rfl
theorem own_later {w w' : World} {base : Nat} {e : TypeId} {size n : Nat} {v : Value} {xs : List Value} (h : w.ownsRow base e size v n xs) (hb : RowKit.Below w.heap.size w w') : w'.ownsRow base e size v n xs := by
  have hg : w.grownBy w' none := ⟨hb.os, hb.tape, hb.output, hb.size, fun j hj _ => hb.block j hj⟩
  refine h.kept hg ?_
  cases v.ownBlock with
  | none => exact .inl rfl
  | some k => exact .inr (by simp)
theorem cell_one_new (w : World) (x : Value) (t : TypeId) : ∀ j u, [x][j]? = some u → (w.alloc (.cells #[x] t)).cell? ((⟨w.heap.size, 0, none⟩ : Addr).add j) = some u := by
  intro j u hj
  have e : ((⟨w.heap.size, 0, none⟩ : Addr).add j) = ⟨w.heap.size, j, none⟩ := by unfold Addr.add; split <;> simp_all
  have h := (Blk.new w t #[x]).cell j
  rw [e, h]
  simpa using hj
theorem cell_one_new' (w : World) {g : Nat} (hg : g = w.heap.size) (x : Value) (t : TypeId) : ∀ j u, [x][j]? = some u → (w.alloc (.cells #[x] t)).cell? ((⟨g, 0, none⟩ : Addr).add j) = some u := by
  subst hg
  exact cell_one_new w x t
end Go.Proofs.Ytglikjdgjmijfaa
