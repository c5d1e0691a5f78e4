/-
  The stable sort of fewer than twenty places by their rests, the greatest rest first.
-/
import Derived.Test.YtphlkeoailapcaaAwaken
import Derived.Test.YtphlkeoailapcaaShelf
import Derived.Shelf.SlSortCmp.Insertion
namespace Go.Proofs.Ytphlkeoailapcaa
open Go.RowKit Go.Sort Go.Lib
set_option linter.unusedSimpArgs false
set_option linter.unusedVariables false

def encF {n : Nat} (x : Fin n) : Value := .int .i64 (x.val : Int)
theorem oneF {n : Nat} : OneCell (encF (n := n)) := fun _ => rfl
section
variable {α : Type} [Inhabited α] {enc : α → Value}
theorem sw_block {w : World} {blk off m : Nat} {dk : Array α} {os : Array Obj} {k : Nat} (hk : k < w.heap.size) (hne : k ≠ blk) : (sortWorld enc w blk off m dk os).heap[k]? = w.heap[k]? := by
  unfold sortWorld
  rw [heap_grow_old _ _ (by simpa [putRow, mapBlock, ahead] using hk)]
  simp [putRow, mapBlock, ahead, Array.getElem?_modify, Ne.symm hne]
theorem perm_sorted {lt : α → α → Bool} {d d' : Array α} (hp : PermIn 0 d.size d d') (hs : SortedIn lt 0 d.size d') : d'.size = d.size ∧ d'.toList.Perm d.toList ∧ d'.toList.Pairwise (fun x y => lt y x = false) := by
  obtain ⟨hsz, _, hperm⟩ := hp
  have e1 : d'.extract 0 d.size = d' := by rw [← hsz]; exact Array.extract_size
  rw [e1, Array.extract_size] at hperm
  refine ⟨hsz, hperm, ?_⟩
  rw [List.pairwise_iff_getElem]
  intro i j hi hj hij
  have hi' : i < d'.size := by simpa using hi
  have hj' : j < d'.size := by simpa using hj
  have := hs i j (Nat.zero_le _) hij (by omega)
  rw [getElem!_pos d' i hi', getElem!_pos d' j hj'] at this
  simpa using this
end

def cfR (R : Nat → Int) {n : Nat} (x y : Fin n) : Int := cmpI (R y.val) (R x.val)
theorem cmpI_neg (a b : Int) : cmpI a b < 0 ↔ a < b := by
  unfold cmpI
  split
  · omega
  · split <;> omega
theorem cfR_lt (R : Nat → Int) {n : Nat} (x y : Fin n) : ltOf (cfR R) x y = true ↔ R y.val < R x.val := by
  unfold ltOf cfR
  rw [decide_eq_true_eq, cmpI_neg]
theorem swoR (R : Nat → Int) {n : Nat} : SWO (ltOf (cfR R (n := n))) where
  irrefl x := by rw [Bool.eq_false_iff, Ne, cfR_lt]; omega
  trans x y z h1 h2 := by rw [cfR_lt] at *; omega
  ntrans x y z h1 h2 := by
    rw [Bool.eq_false_iff, Ne, cfR_lt] at *
    omega

theorem enterR : ∀ args w, (callFunc 86 args).run Try.prog w = .ok (.enter 86 args) w := enters_of Try.func86 (by kernel_rfl) rfl

theorem readsR {n : Nat} [Inhabited (Fin n)] {w : World} {rv rb cap : Nat} {R : Nat → Int} (h0 : w.cell? ⟨rv, 0, none⟩ = some (.slice (some ⟨rb, 0, none⟩) n cap)) (hR : ∀ i, i < n → w.cell? ⟨rb, i, none⟩ = some (.int .i64 (R i)))
    (hv : rv < w.heap.size) (hb : rb < w.heap.size) {blk : Nat} (h1 : rv ≠ blk) (h2 : rb ≠ blk) (off size : Nat) :
    CmpReads Try.prog 86 #[.pointer (some ⟨rv, 0, none⟩)] (encF (n := n)) (cfR R) blk off size w := by
  intro m os dk hdk x y
  exact closure_any rv rb n cap x.val y.val (R x.val) (R y.val) _ ((World.cell?_of_block (a := ⟨rv, 0, none⟩) (sw_block hv h1)).trans h0) x.isLt y.isLt
    ((World.cell?_of_block (a := ⟨rb, x.val, none⟩) (sw_block hb h2)).trans (hR _ x.isLt)) ((World.cell?_of_block (a := ⟨rb, y.val, none⟩) (sw_block hb h2)).trans (hR _ y.isLt))

/-- what the sort leaves: the row holds the places in an order of descending rests -/
def SortedW (R : Nat → Int) (n blk : Nat) (w w' : World) : Prop :=
  ∃ ord : List Nat, ord.Perm (List.range n) ∧ ord.Pairwise (fun x y => R y ≤ R x) ∧ (∀ i, (hi : i < ord.length) → w'.cell? ⟨blk, i, none⟩ = some (.int .i64 ord[i]) ∧ w'.frozen? ⟨blk, i, none⟩ = false)
    ∧ w'.heap.size = w.heap.size ∧ (∀ k, k ≠ blk → w'.heap[k]? = w.heap[k]?) ∧ w'.tape = w.tape ∧ w'.output = w.output ∧ w'.os = w.os

theorem range_fin (n : Nat) : ((Array.ofFn (fun i : Fin n => i)).toList).map Fin.val = List.range n := by
  apply List.ext_getElem
  · simp
  · intro i h1 h2
    simp

theorem insertion_any {n : Nat} (hn : 0 < n) (hn2 : n < 4611686018427387904) {w : World} {rv rb cap oc blk : Nat} {R : Nat → Int} (h0 : w.cell? ⟨rv, 0, none⟩ = some (.slice (some ⟨rb, 0, none⟩) n cap)) (hR : ∀ i, i < n → w.cell? ⟨rb, i, none⟩ = some (.int .i64 (R i)))
    (hv : rv < w.heap.size) (hb : rb < w.heap.size) (h1 : rv ≠ blk) (h2 : rb ≠ blk) (hO : ∀ i, i < n → w.cell? ⟨blk, i, none⟩ = some (.int .i64 (i : Int)) ∧ w.frozen? ⟨blk, i, none⟩ = false) :
    Calls Try.prog 102 #[.slice (some ⟨blk, 0, none⟩) n oc, .int .i64 0, .int .i64 n, .func (.func 86) #[] #[.pointer (some ⟨rv, 0, none⟩)]] w fun e w' => e = .returned (.tuple #[]) ∧ SortedW R n blk w w' := by
  haveI : Inhabited (Fin n) := ⟨⟨0, hn⟩⟩
  have hsz : (Array.ofFn (fun i : Fin n => i)).size = n := by simp
  have hH : Holds encF w blk 0 (Array.ofFn (fun i : Fin n => i)) := by
    intro j hj
    have hj' : j < n := by rwa [hsz] at hj
    rw [Nat.zero_add, getElem!_pos _ j hj]
    simpa [encF] using hO j hj'
  have h := Any.insertionSortCmpFunc_one Try.insL encF oneF (cfR R) 86 #[.pointer (some ⟨rv, 0, none⟩)] blk 0 oc 0 n (Array.ofFn (fun i : Fin n => i)) w enterR (readsR h0 hR hv hb h1 h2 0 _) hH (Nat.zero_le _) (by rw [hsz]; exact Nat.le_refl _) (by rw [hsz]; exact hn2)
  rw [hsz] at h
  refine Calls.mono h ?_
  rintro e w' ⟨rfl, m, rfl⟩
  refine ⟨rfl, ?_⟩
  obtain ⟨hp, hs⟩ := insertionSort_holds (swoR R) (Array.ofFn (fun i : Fin n => i)) 0 n (Nat.zero_le _) (by rw [hsz]; exact Nat.le_refl _)
  generalize hd : Sort.insertionSort (ltOf (cfR R)) (Array.ofFn (fun i : Fin n => i)) 0 n = d' at *
  obtain ⟨p1, p2, p3⟩ := perm_sorted (lt := ltOf (cfR R)) (d := Array.ofFn (fun i : Fin n => i)) (d' := d') (by rw [hsz]; exact hp) (by rw [hsz]; exact hs)
  refine ⟨d'.toList.map Fin.val, ?_, ?_, ?_, ?_, ?_, rfl, rfl, rfl⟩
  · rw [← range_fin n]; exact p2.map _
  · rw [List.pairwise_map]
    refine p3.imp ?_
    intro x y hxy
    rw [Bool.eq_false_iff, Ne, cfR_lt] at hxy
    omega
  · intro i hi
    have hi' : i < d'.size := by simpa using hi
    refine ⟨?_, ?_⟩
    · have := cell?_putRow encF w blk 0 _ d' hH p1 i hi'
      rw [Nat.zero_add] at this
      refine Eq.trans this ?_
      rw [getElem!_pos d' i hi']
      simp [encF]
    · rw [World.frozen?_drewN, frozen?_putRow]
      exact (hO i (by rw [p1, hsz] at hi'; exact hi')).2
  · show (putRow encF w blk 0 d').heap.size = _
    exact size_putRow ..
  · intro k hk
    show (putRow encF w blk 0 d').heap[k]? = _
    simp [putRow, mapBlock, Array.getElem?_modify, Ne.symm hk]

theorem stable_any {n : Nat} (hn : 0 < n) (hn2 : n < 20) {w : World} {rv rb cap oc blk : Nat} {R : Nat → Int} (h0 : w.cell? ⟨rv, 0, none⟩ = some (.slice (some ⟨rb, 0, none⟩) n cap)) (hR : ∀ i, i < n → w.cell? ⟨rb, i, none⟩ = some (.int .i64 (R i)))
    (hv : rv < w.heap.size) (hb : rb < w.heap.size) (h1 : rv ≠ blk) (h2 : rb ≠ blk) (hO : ∀ i, i < n → w.cell? ⟨blk, i, none⟩ = some (.int .i64 (i : Int)) ∧ w.frozen? ⟨blk, i, none⟩ = false) :
    Calls Try.prog 97 #[.slice (some ⟨blk, 0, none⟩) n oc, .int .i64 n, .func (.func 86) #[] #[.pointer (some ⟨rv, 0, none⟩)]] w fun e w' => e = .returned (.tuple #[]) ∧ SortedW R n blk w w' := by
  have g1 : ¬ (20 : Int) ≤ (n : Int) := by omega
  have g2 : ¬ (20 : Int) < (n : Int) := by omega
  go_enter Try.func97, Try.ntmps97
  go_wp2_with fail
  refine wp_loop_rounds 1 ?_
  rw [rounds_succ]
  go_wp2_with fail
  refine (insertion_any hn (by omega) h0 hR hv hb h1 h2 hO).mono ?_
  rintro e w' ⟨rfl, HS⟩
  go_wp2_with fail
  refine wp_loop_rounds 1 ?_
  rw [rounds_succ]
  go_wp2
  go_end0
  exact ⟨rfl, HS⟩

theorem sort_any {n : Nat} (hn : 0 < n) (hn2 : n < 20) {w : World} {rv rb cap oc blk : Nat} {R : Nat → Int} (h0 : w.cell? ⟨rv, 0, none⟩ = some (.slice (some ⟨rb, 0, none⟩) n cap)) (hR : ∀ i, i < n → w.cell? ⟨rb, i, none⟩ = some (.int .i64 (R i)))
    (hv : rv < w.heap.size) (hb : rb < w.heap.size) (h1 : rv ≠ blk) (h2 : rb ≠ blk) (hO : ∀ i, i < n → w.cell? ⟨blk, i, none⟩ = some (.int .i64 (i : Int)) ∧ w.frozen? ⟨blk, i, none⟩ = false) :
    Calls Try.prog 85 #[.slice (some ⟨blk, 0, none⟩) n oc, .func (.func 86) #[] #[.pointer (some ⟨rv, 0, none⟩)]] w fun e w' => e = .returned (.tuple #[]) ∧ SortedW R n blk w w' := by
  go_enter Try.func85, Try.ntmps85
  go_wp2_with fail
  refine (stable_any hn hn2 h0 hR hv hb h1 h2 hO).mono ?_
  rintro e w' ⟨rfl, HS⟩
  go_wp2
  go_end0
  exact ⟨rfl, HS⟩
end Go.Proofs.Ytphlkeoailapcaa
