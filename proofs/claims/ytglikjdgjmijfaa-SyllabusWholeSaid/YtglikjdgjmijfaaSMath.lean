/-
  The syllabus in plain numbers: names, the first error, the tree, rolled marks.
-/
namespace Go.Proofs.Ytglikjdgjmijfaa
set_option linter.unusedSimpArgs false
set_option linter.unusedVariables false

def byteAt (s : ByteArray) (i : Nat) : Int := ((s.data.toList.getD i 0).toNat : Int)
theorem byteAt_bd (s : ByteArray) (i : Nat) : 0 ≤ byteAt s i ∧ byteAt s i < 256 := by
  unfold byteAt
  have := (s.data.toList.getD i 0).toNat_lt
  omega
theorem byteAt_at (s : ByteArray) (k : Nat) (h : k < s.size) : ((s[k]).toNat : Int) = byteAt s k := by
  unfold byteAt
  have h' : k < s.data.toList.length := by simpa using h
  rw [List.getD_eq_getElem?_getD, List.getElem?_eq_getElem h']
  rfl
/-- the first k bytes are lower-case letters -/
def lowB (s : ByteArray) : Nat → Bool
  | 0 => true
  | k + 1 => lowB s k && decide (97 ≤ byteAt s k ∧ byteAt s k ≤ 122)
theorem lowB_no {s : ByteArray} {k : Nat} (h : ¬ (97 ≤ byteAt s k ∧ byteAt s k ≤ 122)) : ∀ {n : Nat}, k < n → lowB s n = false
  | 0, hk => absurd hk (Nat.not_lt_zero _)
  | n + 1, hk => by
    show (lowB s n && _) = false
    rcases Nat.lt_succ_iff_lt_or_eq.1 hk with h1 | h1
    · rw [lowB_no h h1]; rfl
    · subst h1; rw [decide_eq_false h, Bool.and_false]
def nameB (s : ByteArray) : Bool := decide (1 ≤ s.size ∧ s.size ≤ 12) && lowB s s.size

def eqS (a b : ByteArray) : Bool := a.toList == b.toList
theorem eqS_comm (a b : ByteArray) : eqS a b = eqS b a := by unfold eqS; exact BEq.comm
/-- is x among the first k? -/
def hasS (nm : Nat → ByteArray) (x : ByteArray) : Nat → Bool
  | 0 => false
  | k + 1 => hasS nm x k || eqS (nm k) x
theorem hasS_yes {nm : Nat → ByteArray} {x : ByteArray} {k : Nat} (h : eqS (nm k) x = true) : ∀ {n : Nat}, k < n → hasS nm x n = true
  | 0, hk => absurd hk (Nat.not_lt_zero _)
  | n + 1, hk => by
    show (hasS nm x n || _) = true
    rcases Nat.lt_succ_iff_lt_or_eq.1 hk with h1 | h1
    · rw [hasS_yes h h1]; rfl
    · subst h1; rw [h, Bool.or_true]

/-- the first error among f 0 .. f (n - 1) -/
def firstE (f : Nat → Int) : Nat → Int
  | 0 => 0
  | n + 1 => if firstE f n = 0 then f n else firstE f n
theorem firstE_stop {f : Nat → Int} {i : Nat} (h0 : firstE f i = 0) (hf : f i ≠ 0) : ∀ {n : Nat}, i < n → firstE f n = f i
  | 0, hk => absurd hk (Nat.not_lt_zero _)
  | n + 1, hk => by
    show (if firstE f n = 0 then f n else firstE f n) = f i
    rcases Nat.lt_succ_iff_lt_or_eq.1 hk with h1 | h1
    · rw [firstE_stop h0 hf h1, if_neg hf]
    · subst h1; rw [if_pos h0]
theorem firstE_go {f : Nat → Int} {i : Nat} (h0 : firstE f i = 0) (hf : f i = 0) : firstE f (i + 1) = 0 := by
  show (if firstE f i = 0 then f i else firstE f i) = 0
  rw [if_pos h0]; exact hf
theorem firstE_all {f : Nat → Int} : ∀ {n : Nat}, firstE f n = 0 → ∀ i, i < n → f i = 0
  | 0, _, i, hi => absurd hi (Nat.not_lt_zero _)
  | n + 1, h, i, hi => by
    have h' : (if firstE f n = 0 then f n else firstE f n) = 0 := h
    by_cases h0 : firstE f n = 0
    · rw [if_pos h0] at h'
      rcases Nat.lt_succ_iff_lt_or_eq.1 hi with h1 | h1
      · exact firstE_all h0 i h1
      · subst h1; exact h'
    · rw [if_neg h0] at h'; exact absurd h' h0
theorem firstE_zero {f : Nat → Int} : ∀ {n : Nat}, (∀ i, i < n → f i = 0) → firstE f n = 0
  | 0, _ => rfl
  | n + 1, h => firstE_go (firstE_zero fun i hi => h i (by omega)) (h n (by omega))
theorem firstE_congr {f g : Nat → Int} : ∀ {n : Nat}, (∀ i, i < n → f i = g i) → firstE f n = firstE g n
  | 0, _ => rfl
  | n + 1, h => by
    show (if firstE f n = 0 then f n else firstE f n) = (if firstE g n = 0 then g n else firstE g n)
    rw [firstE_congr fun i hi => h i (by omega), h n (by omega)]

/-- the error of name i -/
def nmE (nm : Nat → ByteArray) (i : Nat) : Int := if nameB (nm i) = true then (if hasS nm (nm i) i = true then 5 else 0) else 7
structure Syl where
  nT : Nat
  tn : Nat → ByteArray
  tp : Nat → Int
  nO : Nat
  on : Nat → ByteArray
  nC : Nat
  cn : Nat → ByteArray
  cw : Nat → Int
  cm : Nat → Int
def topE (tn : Nat → ByteArray) (tp : Nat → Int) (i : Nat) : Int := if nmE tn i = 0 then (if tp i < -1 ∨ (i : Int) ≤ tp i then 2 else 0) else nmE tn i
def comE (cn : Nat → ByteArray) (cw cm : Nat → Int) (i : Nat) : Int := if nmE cn i = 0 then (if cw i < 0 ∨ 1000 < cw i ∨ cm i < 1 ∨ 200 < cm i then 2 else 0) else nmE cn i
def Syl.tE (S : Syl) : Nat → Int := topE S.tn S.tp
def Syl.cE (S : Syl) : Nat → Int := comE S.cn S.cw S.cm
def Syl.big (S : Syl) : Prop := 16 < S.nT ∨ 6 < S.nO ∨ 6 < S.nC
instance (S : Syl) : Decidable S.big := by unfold Syl.big; infer_instance
def orE (a b : Int) : Int := if a = 0 then b else a
def Syl.chk (S : Syl) : Int := if S.big then 3 else orE (firstE S.tE S.nT) (orE (firstE (nmE S.on) S.nO) (firstE S.cE S.nC))

/-- parents are earlier -/
def Fst (pa : Nat → Int) (n : Nat) : Prop := ∀ i, i < n → -1 ≤ pa i ∧ pa i < (i : Int)
theorem Syl.ok {S : Syl} (h : S.chk = 0) : S.nT ≤ 16 ∧ S.nO ≤ 6 ∧ S.nC ≤ 6 ∧ Fst S.tp S.nT ∧ (∀ i, i < S.nC → 0 ≤ S.cw i ∧ S.cw i ≤ 1000) := by
  unfold Syl.chk at h
  by_cases hb : S.big
  · rw [if_pos hb] at h; omega
  rw [if_neg hb] at h
  have hb' : ¬ (16 < S.nT ∨ 6 < S.nO ∨ 6 < S.nC) := hb
  have h1 : firstE S.tE S.nT = 0 := by
    apply Classical.byContradiction; intro h1
    unfold orE at h; rw [if_neg h1] at h; exact h1 h
  have h2 : firstE S.cE S.nC = 0 := by
    unfold orE at h; rw [if_pos h1] at h
    by_cases h3 : firstE (nmE S.on) S.nO = 0
    · rw [if_pos h3] at h; exact h
    · rw [if_neg h3] at h; exact absurd h h3
  refine ⟨by omega, by omega, by omega, fun i hi => ?_, fun i hi => ?_⟩
  · have h3 := firstE_all h1 i hi
    unfold Syl.tE topE at h3
    by_cases h4 : nmE S.tn i = 0
    · rw [if_pos h4] at h3
      by_cases h5 : S.tp i < -1 ∨ (i : Int) ≤ S.tp i
      · rw [if_pos h5] at h3; omega
      · omega
    · rw [if_neg h4] at h3; exact absurd h3 h4
  · have h3 := firstE_all h2 i hi
    unfold Syl.cE comE at h3
    by_cases h4 : nmE S.cn i = 0
    · rw [if_pos h4] at h3
      by_cases h5 : S.cw i < 0 ∨ 1000 < S.cw i ∨ S.cm i < 1 ∨ 200 < S.cm i
      · rw [if_pos h5] at h3; omega
      · omega
    · rw [if_neg h4] at h3; exact absurd h3 h4

/-- the topics above b, from the root on -/
def path (pa : Nat → Int) (b : Nat) : List Nat := if h : 0 ≤ pa b ∧ pa b < (b : Int) then path pa (pa b).toNat ++ [b] else [b]
termination_by b
decreasing_by omega
def pathI (pa : Nat → Int) (t : Int) : List Nat := if t < 0 then [] else path pa t.toNat
theorem path_eq {pa : Nat → Int} {n b : Nat} (h : Fst pa n) (hb : b < n) : path pa b = pathI pa (pa b) ++ [b] := by
  obtain ⟨h1, h2⟩ := h b hb
  rw [path]
  unfold pathI
  by_cases h0 : pa b < 0
  · rw [dif_neg (by omega), if_pos h0]; rfl
  · rw [dif_pos ⟨by omega, h2⟩, if_neg h0]
theorem path_le (pa : Nat → Int) : ∀ b i, i ∈ path pa b → i ≤ b := by
  intro b
  induction b using Nat.strongRecOn with
  | ind b ih =>
    intro i hi
    rw [path] at hi
    split at hi
    · rename_i h
      rcases List.mem_append.1 hi with h1 | h1
      · have := ih (pa b).toNat (by omega) i h1; omega
      · simp at h1; omega
    · simp at hi; omega
theorem path_self (pa : Nat → Int) (b : Nat) : b ∈ path pa b := by rw [path]; split <;> simp
theorem filter_none {p : Nat → Bool} : ∀ {l : List Nat}, (∀ i ∈ l, p i = false) → l.filter p = []
  | [], _ => rfl
  | a :: t, h => by rw [List.filter_cons, h a (List.mem_cons_self ..)]; exact filter_none fun i hi => h i (List.mem_cons_of_mem _ hi)
theorem range_split (b k : Nat) : List.range (b + 1 + k) = List.range b ++ (b :: (List.range k).map (b + 1 + ·)) := by
  rw [List.range_add, List.range_succ, List.append_assoc]; rfl
theorem path_filter (pa : Nat → Int) : ∀ b n, b < n → (List.range n).filter (fun i => decide (i ∈ path pa b)) = path pa b := by
  intro b
  induction b using Nat.strongRecOn with
  | ind b ih =>
    intro n hb
    obtain ⟨k, rfl⟩ : ∃ k, n = b + 1 + k := ⟨n - (b + 1), by omega⟩
    rw [range_split, List.filter_append, List.filter_cons, if_pos (by simpa using path_self pa b), filter_none (l := (List.range k).map (b + 1 + ·)) (by
      intro i hi
      obtain ⟨j, _, rfl⟩ := List.mem_map.1 hi
      rw [decide_eq_false_iff_not]
      intro hm
      have := path_le pa _ _ hm
      omega)]
    have e : path pa b = (if 0 ≤ pa b ∧ pa b < (b : Int) then path pa (pa b).toNat else []) ++ [b] := by
      rw [path]; split <;> simp_all
    rw [e]
    congr 1
    by_cases h : 0 ≤ pa b ∧ pa b < (b : Int)
    · rw [if_pos h]
      refine (List.filter_congr ?_).trans (ih (pa b).toNat (by omega) b (by omega))
      intro i hi
      have hi' := List.mem_range.1 hi
      simp only [List.mem_append, List.mem_singleton, decide_eq_decide]
      constructor
      · rintro (h1 | h1)
        · exact h1
        · omega
      · exact .inl
    · rw [if_neg h]
      refine filter_none fun i hi => ?_
      have hi' := List.mem_range.1 hi
      rw [decide_eq_false_iff_not]
      simp
      omega
theorem path_nodup (pa : Nat → Int) (b : Nat) : (path pa b).Nodup := by
  rw [← path_filter pa b (b + 1) (by omega)]
  exact List.Nodup.sublist List.filter_sublist List.nodup_range
theorem path_len (pa : Nat → Int) (b : Nat) : (path pa b).length ≤ b + 1 := by
  rw [← path_filter pa b (b + 1) (by omega)]
  refine Nat.le_trans (List.length_filter_le _ _) (by simp)

def underL (pa : Nat → Int) (n t : Nat) : List Nat := (List.range n).filter fun i => decide (t ∈ path pa i)
/-- the last of the list that p holds of -/
def lastIn (p : Nat → Bool) (l : List Nat) : Int := l.foldl (fun g t => if p t = true then (t : Int) else g) (-1)
theorem lastIn_snoc (p : Nat → Bool) (l : List Nat) (x : Nat) : lastIn p (l ++ [x]) = if p x = true then (x : Int) else lastIn p l := by unfold lastIn; rw [List.foldl_append]; rfl
theorem lastIn_filter (p q : Nat → Bool) : ∀ (l : List Nat) (g : Int), (l.filter q).foldl (fun g t => if p t = true then (t : Int) else g) g = l.foldl (fun g t => if (q t && p t) = true then (t : Int) else g) g
  | [], g => rfl
  | a :: t, g => by
    rw [List.filter_cons]
    by_cases h : q a = true
    · rw [if_pos h, List.foldl_cons, List.foldl_cons, lastIn_filter p q t, h, Bool.true_and]
    · rw [if_neg h, List.foldl_cons, lastIn_filter p q t]
      have : q a = false := by simpa using h
      rw [this, Bool.false_and]; rfl
def commonI (pa : Nat → Int) (a b : Nat) : Int := lastIn (fun i => decide (i ∈ path pa b)) (path pa a)
theorem common_range (pa : Nat → Int) {n a b : Nat} (ha : a < n) : commonI pa a b = lastIn (fun i => decide (i ∈ path pa a) && decide (i ∈ path pa b)) (List.range n) := by
  unfold commonI
  conv => lhs; rw [← path_filter pa a n ha]
  exact lastIn_filter _ _ _ _
theorem lastIn_bd (p : Nat → Bool) : ∀ (n : Nat), -1 ≤ lastIn p (List.range n) ∧ lastIn p (List.range n) < (n : Int)
  | 0 => by unfold lastIn; simp
  | n + 1 => by
    have ih := lastIn_bd p n
    rw [List.range_succ, lastIn_snoc]
    split <;> omega

def leafB (pa : Nat → Int) (n t : Nat) : Bool := !((List.range n).any fun c => decide (pa c = (t : Int)))
theorem child_of {pa : Nat → Int} {n : Nat} (h : Fst pa n) (t : Nat) : ∀ i, i < n → t ∈ path pa i → i = t ∨ ∃ c, c < n ∧ pa c = (t : Int) := by
  intro i
  induction i using Nat.strongRecOn with
  | ind i ih =>
    intro hi hm
    rw [path_eq h hi] at hm
    rcases List.mem_append.1 hm with h1 | h1
    · unfold pathI at h1
      split at h1
      · simp at h1
      · obtain ⟨h2, h3⟩ := h i hi
        rcases ih (pa i).toNat (by omega) (by omega) h1 with h4 | h4
        · exact .inr ⟨i, hi, by omega⟩
        · exact .inr h4
    · simp at h1; exact .inl h1.symm
theorem filter_one (t : Nat) : ∀ n, t < n → (List.range n).filter (fun i => decide (i = t)) = [t] := by
  intro n h
  obtain ⟨k, rfl⟩ : ∃ k, n = t + 1 + k := ⟨n - (t + 1), by omega⟩
  rw [range_split, List.filter_append, List.filter_cons, if_pos (by simp), filter_none (l := (List.range k).map (t + 1 + ·)) (by
    intro i hi
    obtain ⟨j, _, rfl⟩ := List.mem_map.1 hi
    rw [decide_eq_false_iff_not]; omega), filter_none]
  · rfl
  · intro i hi
    have hi' := List.mem_range.1 hi
    rw [decide_eq_false_iff_not]; omega
theorem under_self (pa : Nat → Int) {n t : Nat} (ht : t < n) : t ∈ underL pa n t := by
  unfold underL
  rw [List.mem_filter]
  exact ⟨List.mem_range.2 ht, by simpa using path_self pa t⟩
theorem leaf_under {pa : Nat → Int} {n t : Nat} (h : Fst pa n) (ht : t < n) : decide ((underL pa n t).length = 1) = leafB pa n t := by
  unfold leafB
  by_cases hc : ∃ c, c < n ∧ pa c = (t : Int)
  · obtain ⟨c, hcn, hpc⟩ := hc
    have h1 := h c hcn
    have hany : ((List.range n).any fun c => decide (pa c = (t : Int))) = true := List.any_eq_true.2 ⟨c, List.mem_range.2 hcn, by simpa using hpc⟩
    rw [hany]
    show _ = false
    rw [decide_eq_false_iff_not]
    intro hl
    have hm1 := under_self pa ht
    have hm2 : c ∈ underL pa n t := by
      unfold underL
      rw [List.mem_filter]
      refine ⟨List.mem_range.2 hcn, ?_⟩
      rw [decide_eq_true_eq, path_eq h hcn, hpc]
      unfold pathI
      rw [if_neg (by omega)]
      exact List.mem_append_left _ (by simpa using path_self pa t)
    match hu : underL pa n t, hl with
    | [x], _ =>
      rw [hu] at hm1 hm2
      simp at hm1 hm2
      omega
  · have hany : ((List.range n).any fun c => decide (pa c = (t : Int))) = false := by
      rw [List.any_eq_false]
      intro c hc'
      simp
      intro he
      exact hc ⟨c, List.mem_range.1 hc', he⟩
    rw [hany]
    show _ = true
    rw [decide_eq_true_eq]
    have e : underL pa n t = (List.range n).filter (fun i => decide (i = t)) := by
      unfold underL
      refine List.filter_congr fun i hi => ?_
      rw [decide_eq_decide]
      constructor
      · intro hm
        rcases child_of h t i (List.mem_range.1 hi) hm with h1 | h1
        · exact h1
        · exact absurd h1 hc
      · rintro rfl; exact path_self pa i
    rw [e, filter_one t n ht]; rfl

def sumN (f : Nat → Int) : Nat → Int
  | 0 => 0
  | n + 1 => sumN f n + f n
theorem sumN_congr {f g : Nat → Int} : ∀ {n : Nat}, (∀ i, i < n → f i = g i) → sumN f n = sumN g n
  | 0, _ => rfl
  | n + 1, h => by show sumN f n + f n = sumN g n + g n; rw [sumN_congr fun i hi => h i (by omega), h n (by omega)]
theorem sumN_bd {f : Nat → Int} {m : Int} : ∀ {n : Nat}, (∀ i, i < n → 0 ≤ f i ∧ f i ≤ m) → 0 ≤ sumN f n ∧ sumN f n ≤ m * n
  | 0, _ => by simp [sumN]
  | n + 1, h => by
    have ih := sumN_bd (f := f) (m := m) (n := n) fun i hi => h i (by omega)
    have h1 := h n (by omega)
    show 0 ≤ sumN f n + f n ∧ sumN f n + f n ≤ m * ((n + 1 : Nat) : Int)
    have e : m * ((n + 1 : Nat) : Int) = m * (n : Int) + m := by rw [Int.natCast_add, Int.mul_add]; simp
    rw [e]; omega
def markUp (pa mk : Nat → Int) (i k : Nat) : Int := if i ∈ path pa k then mk k else 0
/-- the marks of topic i with the first n topics under it -/
def rollN (pa mk : Nat → Int) (n i : Nat) : Int := sumN (markUp pa mk i) n
theorem rollN_succ (pa mk : Nat → Int) (n i : Nat) : rollN pa mk (n + 1) i = rollN pa mk n i + (if i ∈ path pa n then mk n else 0) := rfl
end Go.Proofs.Ytglikjdgjmijfaa
