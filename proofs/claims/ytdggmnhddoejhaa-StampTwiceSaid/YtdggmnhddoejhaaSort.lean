/-
  The sort of package slices at a row of places, under the two comparisons of package stamp.
-/
import Derived.Test.YtdggmnhddoejhaaSlices
import Derived.Shelf.LaySoft
import Derived.Shelf.Lay
import Derived.Shelf.SlSortCmp.Whole1
namespace Go.Proofs.Ytdggmnhddoejhaa
open Go.RowKit Go.Sort Go.Lib
set_option linter.unusedSimpArgs false
set_option linter.unusedVariables false

section
variable {α : Type} [Inhabited α] {enc : α → Value}
theorem sw_block {w : World} {blk off m : Nat} {dk : Array α} {os : Array Obj} {k : Nat} (hk : k < w.heap.size) (hne : k ≠ blk) : (sortWorld enc w blk off m dk os).heap[k]? = w.heap[k]? := by
  unfold sortWorld
  rw [heap_grow_old _ _ (by simpa [putRow, mapBlock, ahead] using hk)]
  simp [putRow, mapBlock, ahead, Array.getElem?_modify, Ne.symm hne]
theorem sw_size {w : World} {blk off m : Nat} {dk : Array α} {os : Array Obj} : w.heap.size ≤ (sortWorld enc w blk off m dk os).heap.size := by
  unfold sortWorld
  simp [putRow, mapBlock, ahead, grow]
theorem sw_below {w : World} {blk off m : Nat} {dk : Array α} {os : Array Obj} {B : Nat} (hB : B ≤ blk) (hb : blk < w.heap.size) : Below B w (sortWorld enc w blk off m dk os) :=
  ⟨rfl, rfl, rfl, sw_size, fun k hk => sw_block (by omega) (by omega)⟩
theorem perm_sorted {lt : α → α → Bool} {d d' : Array α} (hp : PermIn 0 d.size d d') (hs : SortedIn lt 0 d.size d') : d'.size = d.size ∧ d'.toList.Perm d.toList ∧ d'.toList.Pairwise (fun x y => lt y x = false) := by
  obtain ⟨hsz, _, hperm⟩ := hp
  have e1 : d'.extract 0 d.size = d' := by rw [← hsz]; exact Array.extract_size
  rw [e1, Array.extract_size] at hperm
  refine ⟨hsz, hperm, ?_⟩
  rw [List.pairwise_iff_getElem]
  intro i j hi hj hij
  have hi' : i < d'.size := by simpa using hi
  have hj' : j < d'.size := by simpa using hj
  have := hs i j (Nat.zero_le _) hij (by omega)
  rw [getElem!_pos d' i hi', getElem!_pos d' j hj'] at this
  simpa using this
end

/-- the row as the sort reads it -/
def encF {n : Nat} (x : Fin n) : Value := .int .i64 (x.val : Int)
theorem oneF {n : Nat} : OneCell (encF (n := n)) := fun _ => rfl

def cfId (L : Nat → St) {n : Nat} (x y : Fin n) : Int := orI (cmp2 (L x) (L y)) (cmpI (x.val : Int) (y.val : Int))
theorem cfId_lt (L : Nat → St) {n : Nat} (x y : Fin n) : ltOf (cfId L) x y = true ↔ keyLt L x y := by
  unfold ltOf cfId keyLt orI
  rw [decide_eq_true_eq]
  have h1 := cmp2_lt (L x) (L y); have h2 := cmp2_eq (L x) (L y); have h3 := cmpI_lt (x.val : Int) (y.val : Int)
  rw [← h1, ← h2]
  split
  · rename_i h; rw [h3]; omega
  · rename_i h; omega
theorem keyLt_trans {L : Nat → St} {a b c : Nat} (h : keyLt L a b) (k : keyLt L b c) : keyLt L a c := by
  rcases h with h | ⟨h, h'⟩ <;> rcases k with k | ⟨k, k'⟩
  · exact .inl (idLt_trans h k)
  · exact .inl (idLt_r h k)
  · exact .inl (idLt_l h k)
  · exact .inr ⟨h.trans k, by omega⟩
theorem keyLt_irr {L : Nat → St} {a : Nat} : ¬ keyLt L a a := by
  rintro (h | ⟨_, h⟩)
  · exact idLt_irr _ h
  · omega
theorem keyLt_tri (L : Nat → St) (a b : Nat) : keyLt L a b ∨ a = b ∨ keyLt L b a := by
  unfold keyLt
  rcases idLt_tri (L a) (L b) with h | h | h
  · exact .inl (.inl h)
  · rcases Nat.lt_trichotomy a b with k | k | k
    · exact .inl (.inr ⟨h, k⟩)
    · exact .inr (.inl k)
    · exact .inr (.inr (.inr ⟨h.symm, k⟩))
  · exact .inr (.inr (.inl h))
theorem swoId (L : Nat → St) {n : Nat} : SWO (ltOf (cfId L (n := n))) where
  irrefl x := by rw [Bool.eq_false_iff, Ne, cfId_lt]; exact keyLt_irr
  trans x y z h1 h2 := by rw [cfId_lt] at *; exact keyLt_trans h1 h2
  ntrans x y z h1 h2 := by
    rw [Bool.eq_false_iff, Ne, cfId_lt] at *
    intro h
    rcases keyLt_tri L x y with k | k | k
    · exact h1 k
    · rw [k] at h; exact h2 h
    · exact h2 (keyLt_trans k h)
def cfSt (L : Nat → St) {n : Nat} (x y : Fin n) : Int := cmp3 (L x) (L y)
theorem cfSt_lt (L : Nat → St) {n : Nat} (x y : Fin n) : ltOf (cfSt L) x y = true ↔ stLt (L x) (L y) := by
  unfold ltOf cfSt
  rw [decide_eq_true_eq, cmp3_lt]
theorem swoSt (L : Nat → St) {n : Nat} : SWO (ltOf (cfSt L (n := n))) where
  irrefl x := by rw [Bool.eq_false_iff, Ne, cfSt_lt]; exact stLt_irr _
  trans x y z h1 h2 := by rw [cfSt_lt] at *; exact stLt_trans h1 h2
  ntrans x y z h1 h2 := by
    rw [Bool.eq_false_iff, Ne, cfSt_lt] at *
    intro h
    rcases stLt_tri (L x) (L y) with k | k | k
    · exact h1 k
    · rw [k] at h; exact h2 h
    · exact h2 (stLt_trans k h)

theorem enterId : ∀ args w, (callFunc 50 args).run Try.prog w = .ok (.enter 50 args) w := enters_of Try.func50 (by kernel_rfl) rfl
theorem enterSt : ∀ args w, (callFunc 42 args).run Try.prog w = .ok (.enter 42 args) w := enters_of Try.func42 (by kernel_rfl) rfl

theorem laysId {n : Nat} [Inhabited (Fin n)] {w : World} {B bx c : Nat} {o : Option Addr} {L : Nat → St} (hs : RowS w B o n L) (hbx : w.cell? ⟨bx, 0, none⟩ = some (.slice o n c)) (hlt : bx < w.heap.size) (hB : B ≤ w.heap.size) (hn : n ≤ 9223372036854775807) {blk : Nat} (h1 : B ≤ blk) (h2 : bx ≠ blk) (off size : Nat) :
    CmpLays1 Try.prog 50 #[.pointer (some ⟨bx, 0, none⟩)] (encF (n := n)) (cfId L) blk off size w := by
  intro m os dk hdk x y
  refine closure_id (sortWorld encF w blk off m dk os) B bx c o n L (hs.keep fun k hk => sw_block (by omega) (by omega)) ?_ (Nat.lt_of_lt_of_le hlt sw_size) (Nat.le_trans hB sw_size) x.val y.val x.isLt y.isLt hn
  exact (World.cell?_of_block (a := ⟨bx, 0, none⟩) (sw_block hlt h2)).trans hbx
theorem laysSt {n : Nat} [Inhabited (Fin n)] {w : World} {B bx c : Nat} {o : Option Addr} {L : Nat → St} (hs : RowS w B o n L) (hbx : w.cell? ⟨bx, 0, none⟩ = some (.slice o n c)) (hlt : bx < w.heap.size) (hB : B ≤ w.heap.size) (hn : n ≤ 9223372036854775807) {blk : Nat} (h1 : B ≤ blk) (h2 : bx ≠ blk) (off size : Nat) :
    CmpLays1 Try.prog 42 #[.pointer (some ⟨bx, 0, none⟩)] (encF (n := n)) (cfSt L) blk off size w := by
  intro m os dk hdk x y
  refine closure_st (sortWorld encF w blk off m dk os) B bx c o n L (hs.keep fun k hk => sw_block (by omega) (by omega)) ?_ (Nat.lt_of_lt_of_le hlt sw_size) (Nat.le_trans hB sw_size) x.val y.val x.isLt y.isLt hn
  exact (World.cell?_of_block (a := ⟨bx, 0, none⟩) (sw_block hlt h2)).trans hbx
end Go.Proofs.Ytdggmnhddoejhaa
