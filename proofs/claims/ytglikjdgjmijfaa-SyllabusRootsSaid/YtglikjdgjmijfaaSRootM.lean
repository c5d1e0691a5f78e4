/-
  Rolled marks: those of a topic are its own and its children's; those of the roots are all.
-/
import Derived.Test.YtglikjdgjmijfaaSRoll
namespace Go.Proofs.Ytglikjdgjmijfaa
set_option linter.unusedSimpArgs false
set_option linter.unusedVariables false

def chs (pa : Nat → Int) (t : Int) (f : Nat → Int) (n : Nat) : Int := sumN (fun c => if pa c = t then f c else 0) n
theorem chs_succ (pa : Nat → Int) (t : Int) (f : Nat → Int) (n : Nat) : chs pa t f (n + 1) = chs pa t f n + (if pa n = t then f n else 0) := rfl
theorem sumN_add (f g : Nat → Int) : ∀ n, sumN (fun i => f i + g i) n = sumN f n + sumN g n
  | 0 => rfl
  | n + 1 => by show sumN (fun i => f i + g i) n + (f n + g n) = (sumN f n + f n) + (sumN g n + g n); rw [sumN_add f g n]; omega
theorem sumN_zero {f : Nat → Int} : ∀ {n : Nat}, (∀ i, i < n → f i = 0) → sumN f n = 0
  | 0, _ => rfl
  | n + 1, h => by show sumN f n + f n = 0; rw [sumN_zero fun i hi => h i (by omega), h n (by omega)]; rfl
theorem sumN_one {m : Nat} {x : Int} : ∀ {n : Nat}, m < n → sumN (fun c => if c = m then x else 0) n = x
  | 0, h => absurd h (Nat.not_lt_zero _)
  | n + 1, h => by
    show sumN (fun c => if c = m then x else 0) n + (if n = m then x else 0) = x
    rcases Nat.lt_succ_iff_lt_or_eq.1 h with h1 | h1
    · rw [sumN_one h1, if_neg (by omega)]; omega
    · rw [if_pos h1.symm, sumN_zero fun i hi => if_neg (by omega)]; omega
theorem chs_bd {pa : Nat → Int} {t m : Int} {f : Nat → Int} {n : Nat} (hm : 0 ≤ m) (h : ∀ i, i < n → 0 ≤ f i ∧ f i ≤ m) : 0 ≤ chs pa t f n ∧ chs pa t f n ≤ m * n := by
  refine sumN_bd fun i hi => ?_
  have := h i hi
  split <;> omega
def up (pa : Nat → Int) (t : Int) (k : Nat) : Bool := decide (t = -1 ∨ (t ≠ (k : Int) ∧ 0 ≤ t ∧ t.toNat ∈ path pa k))
theorem mem_path {pa : Nat → Int} {n k : Nat} (h : Fst pa n) (hk : k < n) (c : Nat) : c ∈ path pa k ↔ (c ∈ pathI pa (pa k) ∨ c = k) := by
  rw [path_eq h hk, List.mem_append, List.mem_singleton]
theorem not_above {pa : Nat → Int} {n k : Nat} (h : Fst pa n) (hk : k < n) : ¬ k ∈ pathI pa (pa k) := by
  intro hm
  obtain ⟨h1, h2⟩ := h k hk
  unfold pathI at hm
  split at hm
  · simp at hm
  · have := path_le pa _ _ hm
    omega
theorem chs_path {pa : Nat → Int} {n : Nat} (h : Fst pa n) (t x : Int) : ∀ m, m < n → chs pa t (fun c => if c ∈ path pa m then x else 0) n = if up pa t m = true then x else 0 := by
  intro m
  induction m using Nat.strongRecOn with
  | ind m ih =>
    intro hm
    obtain ⟨h1, h2⟩ := h m hm
    have hs : chs pa t (fun c => if c ∈ path pa m then x else 0) n = chs pa t (fun c => if c ∈ pathI pa (pa m) then x else 0) n + (if pa m = t then x else 0) := by
      have e1 : chs pa t (fun c => if c ∈ path pa m then x else 0) n = sumN (fun c => (if pa c = t then (if c ∈ pathI pa (pa m) then x else 0) else 0) + (if c = m then (if pa m = t then x else 0) else 0)) n := by
        refine sumN_congr fun c hc => ?_
        by_cases e : c = m
        · subst e
          have hn := not_above h hm
          have hp := path_self pa c
          simp only [hp, hn, if_true, if_false]
          split <;> simp
        · have hi := mem_path h hm c
          simp only [e, or_false] at hi
          simp [hi, e]
      rw [e1, sumN_add, sumN_one hm]; rfl
    rw [hs]
    by_cases h0 : pa m < 0
    · have hz : chs pa t (fun c => if c ∈ pathI pa (pa m) then x else 0) n = 0 := sumN_zero fun c _ => by
        unfold pathI; rw [if_pos h0]; simp
      have hp : path pa m = [m] := by rw [path, dif_neg (by omega)]
      rw [hz]
      have he : pa m = -1 := by omega
      unfold up
      rw [hp, he]
      by_cases ht : t = -1
      · subst ht; simp
      · have : ¬ (t = -1 ∨ t ≠ (m : Int) ∧ 0 ≤ t ∧ t.toNat ∈ [m]) := by
          rintro (h3 | ⟨h3, h4, h5⟩)
          · exact ht h3
          · simp at h5; omega
        rw [decide_eq_false this, if_neg (fun e => ht e.symm)]; simp
    · have hI : pathI pa (pa m) = path pa (pa m).toNat := by unfold pathI; rw [if_neg h0]
      rw [hI, ih (pa m).toNat (by omega) (by omega)]
      have hmem := mem_path h hm t.toNat
      rw [hI] at hmem
      by_cases ht : t = -1
      · subst ht
        have e1 : up pa (-1) (pa m).toNat = true := by unfold up; simp
        have e2 : up pa (-1) m = true := by unfold up; simp
        rw [e1, e2, if_neg (by omega : ¬ pa m = -1)]; simp
      · by_cases h5 : pa m = t
        · have h6 : t.toNat ∈ path pa (pa m).toNat := by rw [h5]; exact path_self _ _
          have e1 : up pa t (pa m).toNat = false := by
            unfold up; rw [decide_eq_false]
            rintro (h7 | ⟨h7, _⟩)
            · exact ht h7
            · omega
          have e2 : up pa t m = true := by
            unfold up; rw [decide_eq_true_eq]
            exact .inr ⟨by omega, by omega, hmem.2 (.inl h6)⟩
          rw [e1, e2, if_pos h5]; simp
        · have e1 : up pa t (pa m).toNat = up pa t m := by
            unfold up
            rw [decide_eq_decide]
            constructor
            · rintro (h7 | ⟨h7, h8, h9⟩)
              · exact .inl h7
              · have := path_le pa _ _ h9
                exact .inr ⟨by omega, h8, hmem.2 (.inl h9)⟩
            · rintro (h7 | ⟨h7, h8, h9⟩)
              · exact .inl h7
              · refine .inr ⟨by omega, h8, ?_⟩
                rcases hmem.1 h9 with h10 | h10
                · exact h10
                · omega
          rw [e1, if_neg h5]; omega
theorem chs_roll {pa mk : Nat → Int} {n : Nat} (h : Fst pa n) (t : Int) : ∀ m, m ≤ n → chs pa t (rollN pa mk m) n = sumN (fun k => if up pa t k = true then mk k else 0) m
  | 0, _ => sumN_zero fun c _ => by show (if pa c = t then (0 : Int) else 0) = 0; split <;> rfl
  | m + 1, hm => by
    have e : chs pa t (rollN pa mk (m + 1)) n = chs pa t (rollN pa mk m) n + chs pa t (fun c => if c ∈ path pa m then mk m else 0) n := by
      unfold chs
      rw [← sumN_add]
      refine sumN_congr fun c _ => ?_
      rw [rollN_succ]
      split <;> simp
    rw [e, chs_roll h t m (by omega), chs_path h t (mk m) m (by omega)]; rfl
theorem roots_all {pa mk : Nat → Int} {n : Nat} (h : Fst pa n) : sumN mk n = chs pa (-1) (rollN pa mk n) n := by
  rw [chs_roll h (-1) n (Nat.le_refl _)]
  refine sumN_congr fun k _ => ?_
  have : up pa (-1) k = true := by unfold up; simp
  rw [this]; rfl
theorem own_children {pa mk : Nat → Int} {n : Nat} (h : Fst pa n) (i : Nat) (hi : i < n) : rollN pa mk n i = mk i + chs pa (i : Int) (rollN pa mk n) n := by
  rw [chs_roll h (i : Int) n (Nat.le_refl _)]
  have e : rollN pa mk n i = sumN (fun k => (if k = i then mk i else 0) + (if up pa (i : Int) k = true then mk k else 0)) n := by
    refine sumN_congr fun k hk => ?_
    unfold markUp
    by_cases e : k = i
    · subst e
      have h1 : up pa (k : Int) k = false := by unfold up; rw [decide_eq_false]; rintro (h7 | ⟨h7, _⟩) <;> omega
      rw [if_pos (path_self pa k), if_pos rfl, h1]; simp
    · rw [if_neg e]
      have h1 : up pa (i : Int) k = decide (i ∈ path pa k) := by
        unfold up; rw [decide_eq_decide]
        constructor
        · rintro (h7 | ⟨h7, h8, h9⟩)
          · omega
          · exact h9
        · exact fun h9 => .inr ⟨by omega, by omega, h9⟩
      rw [h1]
      by_cases hm : i ∈ path pa k
      · rw [if_pos hm, decide_eq_true hm]; simp
      · rw [if_neg hm, decide_eq_false hm]; simp
  rw [e, sumN_add, sumN_one hi]
theorem rolled_bd {pa mk : Nat → Int} {n i : Nat} {m : Int} (hm : 0 ≤ m) (h : ∀ k, k < n → 0 ≤ mk k ∧ mk k ≤ m) : 0 ≤ rollN pa mk n i ∧ rollN pa mk n i ≤ m * n := sumN_bd fun k hk => by
  have := h k hk
  unfold markUp
  split <;> omega
def sumL (l : List Int) : Int := sumN (fun i => l.getD i 0) l.length
theorem sumL_snoc (l : List Int) (x : Int) : sumL (l ++ [x]) = sumL l + x := by
  unfold sumL
  rw [List.length_append]
  show sumN _ l.length + (l ++ [x]).getD l.length 0 = _
  have e : (l ++ [x]).getD l.length 0 = x := by rw [List.getD_eq_getElem?_getD]; simp
  rw [e]
  congr 1
  refine sumN_congr fun i hi => ?_
  rw [List.getD_eq_getElem?_getD, List.getD_eq_getElem?_getD, List.getElem?_append_left hi]
theorem getD_snoc {l : List Int} {x : Int} : (l ++ [x]).getD l.length 0 = x := by rw [List.getD_eq_getElem?_getD]; simp
def GoodM (l : List Int) : Prop := ∀ i, i < l.length → 0 ≤ l.getD i 0 ∧ l.getD i 0 ≤ 30
theorem GoodM.snoc {l : List Int} {x : Int} (h : GoodM l) (hx : 0 ≤ x ∧ x ≤ 30) : GoodM (l ++ [x]) := by
  intro i hi
  rw [List.length_append] at hi
  simp only [List.length_cons, List.length_nil] at hi
  by_cases e : i = l.length
  · subst e; rw [getD_snoc]; exact hx
  · rw [List.getD_eq_getElem?_getD, List.getElem?_append_left (by omega), ← List.getD_eq_getElem?_getD]
    exact h i (by omega)
end Go.Proofs.Ytglikjdgjmijfaa
