/-
  slices.SortFunc at a row of places of the call's own, whatever the comparison.
-/
import Derived.Test.YtdggmnhddoejhaaSort
import Derived.Test.YtdggmnhddoejhaaShelf
import Derived.Shelf.SlSortCmp.NoneTotal
import Derived.Maps.AppendAt
namespace Go.Proofs.Ytdggmnhddoejhaa
open Go.RowKit Go.Sort Go.Lib
set_option linter.unusedSimpArgs false
set_option linter.unusedVariables false

def iv (j : Nat) : Value := .int .i64 (j : Int)
theorem own_later {w w' : World} {base : Nat} {e : TypeId} {size n : Nat} {v : Value} {xs : List Value} (h : w.ownsRow base e size v n xs) (hb : RowKit.Below w.heap.size w w') : w'.ownsRow base e size v n xs := by
  have hg : w.grownBy w' none := ⟨hb.os, hb.tape, hb.output, hb.size, fun j hj _ => hb.block j hj⟩
  refine h.kept hg ?_
  cases v.ownBlock with
  | none => exact .inl rfl
  | some k => exact .inr (by simp)
section
variable {α : Type} [Inhabited α] {enc : α → Value}
theorem heap_row {w : World} {g n : Nat} {os : Array Obj} {cur : Array Value} {e : TypeId} {fr : Nat × Nat} (d : Array α) (hb : w.heap[g]? = some (.cells cur e fr)) :
    (sortWorld enc w g 0 n d os).heap[g]? = some (.cells (putCells enc 0 d cur) e fr) := by
  have hg : g < w.heap.size := (Array.getElem?_eq_some_iff.1 hb).1
  unfold sortWorld
  rw [heap_grow_old _ _ (by simpa [putRow, mapBlock, Sort.ahead] using hg)]
  simp [putRow, mapBlock, Sort.ahead, Array.getElem?_modify, hb, onCells]
theorem take_put (cur : Array Value) (d : Array α) (h : d.size ≤ cur.size) : (putCells enc 0 d cur).toList.take d.size = d.toList.map enc := by
  apply List.ext_getElem?
  intro j
  by_cases hj : j < d.size
  · rw [List.getElem?_take_of_lt hj, Array.getElem?_toList]
    simp [putCells, hj, show j < cur.size by omega]
  · rw [List.getElem?_take_eq_none (by omega), List.getElem?_eq_none (by simp; omega)]
theorem holds_row {w : World} {g : Nat} {cur : Array Value} {e : TypeId} {d : List α} (hb : w.heap[g]? = some (.cells cur e (0, 0))) (ht : cur.toList.take d.length = d.map enc) : Holds enc w g 0 d.toArray := by
  intro j hj
  have hj' : j < d.length := by simpa using hj
  refine ⟨?_, by simp [World.frozen?, hb]⟩
  have h1 : (cur.toList.take d.length)[j]? = (d.map enc)[j]? := by rw [ht]
  rw [List.getElem?_take_of_lt hj'] at h1
  simp only [World.cell?, hb, Nat.zero_add]
  simp only [Option.isSome_none, Bool.false_eq_true, if_false]
  rw [← Array.getElem?_toList, h1]
  simp [hj']
end
theorem lift_list {n : Nat} : ∀ l : List Nat, (∀ i ∈ l, i < n) → ∃ D : List (Fin n), D.map Fin.val = l
  | [], _ => ⟨[], rfl⟩
  | a :: t, h => by
    obtain ⟨D, hD⟩ := lift_list t fun i hi => h i (List.mem_cons_of_mem _ hi)
    exact ⟨⟨a, h a (List.mem_cons_self ..)⟩ :: D, by simp [hD]⟩
/-- what a sort of places leaves: the same slice owns them in order -/
def Sorted_ (r : Nat → Nat → Prop) (B : Nat) (v : Value) (ord : List Nat) (w : World) (e : Ending) (w' : World) : Prop :=
  e = .returned (.tuple #[]) ∧ ∃ ord' : List Nat, w'.ownsRow B 3 1 v ord.length (ord'.map iv) ∧ ord'.Perm ord ∧ ord'.Pairwise (fun x y => ¬ r y x) ∧ RowKit.Below B w w'

theorem sort_row {n : Nat} {w : World} {B : Nat} {v : Value} {ord : List Nat} {g : Nat} {cb : Array Value} (cf : Fin n → Fin n → Int) (hO : SWO (ltOf cf)) (r : Nat → Nat → Prop) (hr : ∀ x y : Fin n, ltOf cf x y = true ↔ r x y)
    (eg : ∀ args w, (callFunc g args).run Try.prog w = .ok (.enter g args) w) (hcmp : ∀ [Inhabited (Fin n)] (blk off size : Nat), B ≤ blk → blk < w.heap.size → CmpLays1 Try.prog g cb (encF (n := n)) cf blk off size w)
    (hall : ∀ i ∈ ord, i < n) (hB : B ≤ w.heap.size) (hlen : ord.length < 4611686018427387904) (hown : w.ownsRow B 3 1 v ord.length (ord.map iv)) :
    Calls Try.prog 41 #[v, .func (.func g) #[] cb] w (Sorted_ r B v ord w) := by
  obtain ⟨D, rfl⟩ := lift_list ord hall
  rcases D with _ | ⟨a, D⟩
  · obtain ⟨p, cap, hv⟩ : ∃ p cap, v = .slice p 0 cap := by
      rcases hown.2 with ⟨rfl, _⟩ | ⟨q, cap, cur, rfl, _⟩
      · exact ⟨_, _, rfl⟩
      · exact ⟨_, _, rfl⟩
    subst hv
    have h := AnyF.slices_SortFunc_none Try.noneL p cap (.func (.func g) #[] cb) w
    refine Calls.mono h ?_
    rintro e w' ⟨rfl, rfl⟩
    exact ⟨rfl, [], hown, List.Perm.nil, List.Pairwise.nil, RowKit.Below.refl _ _⟩
  · haveI : Inhabited (Fin n) := ⟨a⟩
    generalize hDD : (a :: D) = E at *
    have hne : E.length ≠ 0 := by rw [← hDD]; simp
    rcases hown.2 with ⟨_, h0⟩ | ⟨q, cap, cur, rfl, hq, hcell, hnc, hcm, hcs, htk⟩
    · exact absurd h0 (by simpa using hne)
    · have hql : q < w.heap.size := (Array.getElem?_eq_some_iff.1 hcell).1
      have hmm : (E.map Fin.val).map iv = E.map encF := by rw [List.map_map]; rfl
      have hlen' : (E.map Fin.val).length = E.toArray.size := by simp
      rw [hmm, Nat.mul_one, hlen'] at htk
      have hH : Holds encF w q 0 E.toArray := holds_row hcell (by simpa using htk)
      have h := Any.slices_SortFunc Try.sortL encF oneF cf hO g cb q 0 cap E.toArray w eg (hcmp q 0 _ hq hql) hH hql (by simpa using hlen)
      rw [hlen']
      refine Calls.mono h ?_
      rintro e w' ⟨rfl, d', m, os, hp, hs, rfl⟩
      obtain ⟨hsz, hpm, hpw⟩ := perm_sorted hp hs
      refine ⟨rfl, d'.toList.map Fin.val, ⟨by simp [hsz], .inr ⟨q, cap, _, by simp, hq, heap_row d' hcell, by simpa using hnc, hcm, by simp [putCells, hcs], ?_⟩⟩, ?_, ?_, ?_⟩
      · have hle : d'.size ≤ cur.size := by rw [hsz, hcs]; simpa using hnc
        rw [List.map_map, Nat.mul_one, hlen', ← hsz]
        exact take_put cur d' hle
      · exact (hpm.map Fin.val).trans (by simp)
      · rw [List.pairwise_map]
        refine hpw.imp fun {x y} h => ?_
        rw [← hr, h]; simp
      · exact sw_below hq hql
end Go.Proofs.Ytdggmnhddoejhaa
