/-
  Paths as lists: the path to an element of a path is its beginning; the last common element is the last of the common beginning.
-/
import Derived.Test.YtglikjdgjmijfaaSCommon
namespace Go.Proofs.Ytglikjdgjmijfaa
set_option linter.unusedSimpArgs false
set_option linter.unusedVariables false

def lastAt (l : List Nat) (k : Nat) : Int := if k = 0 then -1 else natAt l (k - 1)
theorem path_take (pa : Nat → Int) : ∀ a i, i < (path pa a).length → path pa ((path pa a).getD i 0) = (path pa a).take (i + 1) := by
  intro a
  induction a using Nat.strongRecOn with
  | ind a ih =>
    intro i hi
    by_cases h : 0 ≤ pa a ∧ pa a < (a : Int)
    · have e : path pa a = path pa (pa a).toNat ++ [a] := by rw [path, dif_pos h]
      have IH := ih (pa a).toNat (by omega) i
      rw [e, List.length_append] at hi
      simp only [List.length_cons, List.length_nil] at hi
      by_cases h1 : i < (path pa (pa a).toNat).length
      · rw [e, List.getD_eq_getElem?_getD, List.getElem?_append_left h1, ← List.getD_eq_getElem?_getD, List.take_append_of_le_length (by omega)]
        exact IH h1
      · have h2 : i = (path pa (pa a).toNat).length := by omega
        have e1 : (path pa a).getD i 0 = a := by rw [e, h2, List.getD_eq_getElem?_getD]; simp
        rw [e1, List.take_of_length_le (by rw [e, List.length_append]; simp; omega)]
    · have e : path pa a = [a] := by rw [path, dif_neg h]
      rw [e] at hi ⊢
      simp only [List.length_cons, List.length_nil] at hi
      obtain rfl : i = 0 := by omega
      simpa using e
theorem lastIn_app {p : Nat → Bool} {l2 : List Nat} (h : ∀ x ∈ l2, p x = false) (l1 : List Nat) : lastIn p (l1 ++ l2) = lastIn p l1 := by
  unfold lastIn
  rw [List.foldl_append]
  generalize List.foldl _ (-1) l1 = g
  induction l2 with
  | nil => rfl
  | cons x t ih =>
    rw [List.foldl_cons, h x (List.mem_cons_self ..)]
    exact ih fun y hy => h y (List.mem_cons_of_mem _ hy)
theorem lastIn_pre {p : Nat → Bool} {l : List Nat} {k : Nat} (hk : k ≤ l.length) (h : ∀ i, i < k → p (l.getD i 0) = true) : lastIn p (l.take k) = lastAt l k := by
  cases k with
  | zero => rfl
  | succ k => rw [lastIn_take (by omega), if_pos (h k (by omega))]; unfold lastAt natAt; rw [if_neg (by omega)]; rfl
theorem getD_in {l : List Nat} {i : Nat} (h : i < l.length) : l.getD i 0 ∈ l := List.mem_of_getElem? (natAt_mem h)
theorem take_getD {l : List Nat} {k i : Nat} (h : i < k) : (l.take k).getD i 0 = l.getD i 0 := by
  rw [List.getD_eq_getElem?_getD, List.getElem?_take, if_pos h, ← List.getD_eq_getElem?_getD]
theorem common_last (pa : Nat → Int) (a b k : Nat) (h1 : k ≤ (path pa a).length) (h2 : k ≤ (path pa b).length) (he : (path pa a).take k = (path pa b).take k)
    (hx : k = (path pa a).length ∨ k = (path pa b).length ∨ (path pa a).getD k 0 ≠ (path pa b).getD k 0) : commonI pa a b = lastAt (path pa a) k := by
  unfold commonI
  conv => lhs; rw [← List.take_append_drop k (path pa a)]
  rw [lastIn_app]
  · refine lastIn_pre h1 fun i hi => ?_
    rw [decide_eq_true_eq, ← take_getD hi, he, take_getD hi]
    exact getD_in (by omega)
  · intro x hm
    rw [decide_eq_false_iff_not]
    intro hq
    obtain ⟨i, hi⟩ := List.getElem?_of_mem hm
    rw [List.getElem?_drop] at hi
    obtain ⟨j, hj⟩ := List.getElem?_of_mem hq
    obtain ⟨hil, _⟩ := List.getElem?_eq_some_iff.1 hi
    obtain ⟨hjl, _⟩ := List.getElem?_eq_some_iff.1 hj
    have e1 : (path pa a).getD (k + i) 0 = x := by rw [List.getD_eq_getElem?_getD, hi]; rfl
    have e2 : (path pa b).getD j 0 = x := by rw [List.getD_eq_getElem?_getD, hj]; rfl
    have t1 := path_take pa a (k + i) hil
    have t2 := path_take pa b j hjl
    rw [e1] at t1
    rw [e2, t1] at t2
    have hl := congrArg List.length t2
    rw [List.length_take, List.length_take] at hl
    have hji : j = k + i := by omega
    subst hji
    have e3 : (path pa a).getD k 0 = (path pa b).getD k 0 := by
      rw [← take_getD (l := path pa a) (k := k + i + 1) (by omega), t2, take_getD (by omega)]
    omega
theorem path_pos (pa : Nat → Int) (a : Nat) : 0 < (path pa a).length := by
  rw [path]; split <;> simp
theorem path_root {pa : Nat → Int} {n : Nat} (h : Fst pa n) : ∀ a, a < n → pa ((path pa a).getD 0 0) = -1 ∧ (path pa a).getD 0 0 < n := by
  intro a
  induction a using Nat.strongRecOn with
  | ind a ih =>
    intro ha
    obtain ⟨h1, h2⟩ := h a ha
    by_cases h0 : 0 ≤ pa a ∧ pa a < (a : Int)
    · have e : path pa a = path pa (pa a).toNat ++ [a] := by rw [path, dif_pos h0]
      rw [e, List.getD_eq_getElem?_getD, List.getElem?_append_left (path_pos _ _), ← List.getD_eq_getElem?_getD]
      exact ih (pa a).toNat (by omega) (by omega)
    · have e : path pa a = [a] := by rw [path, dif_neg h0]
      rw [e]
      have e1 : ([a] : List Nat).getD 0 0 = a := rfl
      rw [e1]
      exact ⟨by omega, ha⟩
theorem under_path {pa : Nat → Int} {n a b : Nat} (hb : b < n) : decide (b ∈ underL pa n a) = decide (a ∈ path pa b) := by
  rw [decide_eq_decide]
  unfold underL
  rw [List.mem_filter]
  simp [hb]
end Go.Proofs.Ytglikjdgjmijfaa
