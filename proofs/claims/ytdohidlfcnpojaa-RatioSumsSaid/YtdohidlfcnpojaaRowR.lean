/-
  A row of fractions that a call owns.
-/
import Derived.Test.YtdohidlfcnpojaaSum
import Derived.Test.YtdohidlfcnpojaaHeldR
import Derived.Test.YtdohidlfcnpojaaQuietB
import Derived.Deep.AppendLies
namespace Go.Proofs.Ytdohidlfcnpojaa
open Go.RowKit
set_option linter.unusedSimpArgs false
set_option linter.unusedVariables false

theorem fr_info : (Try.prog.info? 26).map (fun i => (i.zero, i.size, i.bytes)) = some (some (.agg #[.int .i64 0, .int .i64 0]), 2, 16) := by kernel_rfl
def frCells (l : List Fr) : List Value := l.flatMap fun x => [.int .i64 x.1, .int .i64 x.2]
theorem frCells_snoc (l : List Fr) (x : Fr) : frCells (l ++ [x]) = frCells l ++ [.int .i64 x.1, .int .i64 x.2] := by unfold frCells; simp
theorem frCells_at : ∀ (l : List Fr) (j : Nat) (x : Fr), l[j]? = some x → (frCells l)[j * 2]? = some (.int .i64 x.1) ∧ (frCells l)[j * 2 + 1]? = some (.int .i64 x.2)
  | [], j, x, h => by simp at h
  | a :: t, 0, x, h => by simp at h; subst h; simp [frCells]
  | a :: t, j + 1, x, h => by
    have ih := frCells_at t j x (by simpa using h)
    have e : frCells (a :: t) = .int .i64 a.1 :: .int .i64 a.2 :: frCells t := by simp [frCells]
    rw [e, show (j + 1) * 2 = j * 2 + 1 + 1 by omega]
    simp only [List.getElem?_cons_succ]
    exact ih
theorem two_one {a b : Int} : ∀ u ∈ ([.int .i64 a, .int .i64 b] : List Value), u.oneCell' = true := by
  intro u hu
  simp at hu
  rcases hu with rfl | rfl <;> rfl
theorem cell_two_new (w : World) (x y : Value) (t : TypeId) : ∀ j u, [x, y][j]? = some u → (w.alloc (.cells #[x, y] t)).cell? ((⟨w.heap.size, 0, none⟩ : Addr).add j) = some u := by
  intro j u hj
  have e : ((⟨w.heap.size, 0, none⟩ : Addr).add j) = ⟨w.heap.size, j, none⟩ := by unfold Addr.add; split <;> simp_all
  have h := (Blk.new w t #[x, y]).cell j
  rw [e, h]
  simpa using hj
def frF (ls : List Fr) (i : Nat) : Fr := ls.getD i (0, 0)
theorem rowR_own {w : World} {B : Nat} {p : Option Addr} {m cap : Nat} {ls : List Fr} (h : w.ownsRow B 26 2 (.slice p m cap) ls.length (frCells ls)) : RowR w w.heap.size p ls.length (frF ls) ∧ m = ls.length ∧ m ≤ cap := by
  rcases h.2 with ⟨hv, h0⟩ | ⟨g, cap', cur, hv, hb, hc, hmc, _⟩
  · injection hv with h1 h2 h3
    exact ⟨fun i hi => by omega, by omega, by omega⟩
  · injection hv with h1 h2 h3
    subst h1; subst h2; subst h3
    refine ⟨fun i hi => ⟨g, 0, rfl, (Array.getElem?_eq_some_iff.1 hc).1, ?_⟩, rfl, hmc⟩
    have hx : ls[i]? = some (frF ls i) := by unfold frF; rw [List.getD_eq_getElem?_getD, List.getElem?_eq_getElem hi]; rfl
    obtain ⟨e0, e1⟩ := frCells_at ls i _ hx
    exact ⟨by rw [Nat.zero_add]; exact (h.cellAt (i * 2) (by omega)).trans e0, by rw [Nat.zero_add]; exact (h.cellAt (i * 2 + 1) (by omega)).trans e1⟩
theorem own_any {w : World} {B size n : Nat} {e : TypeId} {v : Value} {xs : List Value} (h : w.ownsRow B e size v n xs) : ∃ p cap, v = .slice p n cap := by
  rcases h.2 with ⟨rfl, hx⟩ | ⟨g, cap, cur, rfl, _⟩
  · exact ⟨none, 0, by rw [show n = 0 by omega]⟩
  · exact ⟨_, _, rfl⟩
end Go.Proofs.Ytdohidlfcnpojaa
