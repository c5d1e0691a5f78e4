/-
  Apportioning by the largest remainders, in plain numbers: the parts add up, each is near its share, and a greater weight never gets less.
-/
namespace Go.Proofs.Ytphlkeoailapcaa
set_option linter.unusedSimpArgs false
set_option linter.unusedVariables false

def lsum (f : Nat → Int) : List Nat → Int
  | [] => 0
  | i :: t => f i + lsum f t
theorem lsum_perm {f : Nat → Int} {l m : List Nat} (h : l.Perm m) : lsum f l = lsum f m := by
  induction h with
  | nil => rfl
  | cons x _ ih => show f x + _ = f x + _; rw [ih]
  | swap x y l => show f y + (f x + _) = f x + (f y + _); omega
  | trans _ _ h1 h2 => exact h1.trans h2
theorem lsum_app (f : Nat → Int) : ∀ (l m : List Nat), lsum f (l ++ m) = lsum f l + lsum f m
  | [], m => by show lsum f m = 0 + lsum f m; omega
  | a :: t, m => by show f a + lsum f (t ++ m) = f a + lsum f t + lsum f m; rw [lsum_app f t m]; omega
theorem lsum_add (f g : Nat → Int) : ∀ l, lsum (fun i => f i + g i) l = lsum f l + lsum g l
  | [] => rfl
  | a :: t => by show f a + g a + _ = f a + _ + (g a + _); rw [lsum_add f g t]; omega
theorem lsum_mul (c : Int) (f : Nat → Int) : ∀ l, lsum (fun i => c * f i) l = c * lsum f l
  | [] => by show (0 : Int) = c * 0; omega
  | a :: t => by show c * f a + _ = c * (f a + _); rw [lsum_mul c f t, Int.mul_add]
theorem lsum_congr {f g : Nat → Int} : ∀ {l : List Nat}, (∀ i ∈ l, f i = g i) → lsum f l = lsum g l
  | [], _ => rfl
  | a :: t, h => by show f a + _ = g a + _; rw [h a (List.mem_cons_self ..), lsum_congr fun i hi => h i (List.mem_cons_of_mem _ hi)]
theorem lsum_bd {f : Nat → Int} {c : Int} : ∀ {l : List Nat}, (∀ i ∈ l, f i ≤ c) → lsum f l ≤ c * l.length
  | [], _ => by show (0 : Int) ≤ c * 0; omega
  | a :: t, h => by
    have h1 := h a (List.mem_cons_self ..)
    have h2 := lsum_bd (f := f) (c := c) fun i hi => h i (List.mem_cons_of_mem _ hi)
    show f a + lsum f t ≤ c * ((t.length + 1 : Nat) : Int)
    have e : c * ((t.length + 1 : Nat) : Int) = c * t.length + c := by rw [show ((t.length + 1 : Nat) : Int) = (t.length : Int) + 1 from rfl, Int.mul_add, Int.mul_one]
    omega
theorem lsum_nn {f : Nat → Int} : ∀ {l : List Nat}, (∀ i ∈ l, 0 ≤ f i) → 0 ≤ lsum f l
  | [], _ => Int.le_refl _
  | a :: t, h => by
    have h1 := h a (List.mem_cons_self ..)
    have h2 := lsum_nn (f := f) fun i hi => h i (List.mem_cons_of_mem _ hi)
    show 0 ≤ f a + lsum f t
    omega
/-- one where a number is in a list without repetition: as many as the list is long -/
theorem lsum_in {m : List Nat} : ∀ {l : List Nat}, l.Nodup → (∀ i ∈ l, i ∈ m) → lsum (fun i => if i ∈ m then (1 : Int) else 0) l = l.length
  | [], _, _ => rfl
  | a :: t, hd, h => by
    show (if a ∈ m then (1 : Int) else 0) + _ = ((t.length + 1 : Nat) : Int)
    rw [if_pos (h a (List.mem_cons_self ..)), lsum_in (List.nodup_cons.1 hd).2 fun i hi => h i (List.mem_cons_of_mem _ hi)]
    omega
theorem lsum_out {m : List Nat} : ∀ {l : List Nat}, (∀ i ∈ l, ¬ i ∈ m) → lsum (fun i => if i ∈ m then (1 : Int) else 0) l = 0
  | [], _ => rfl
  | a :: t, h => by
    show (if a ∈ m then (1 : Int) else 0) + _ = 0
    rw [if_neg (h a (List.mem_cons_self ..)), lsum_out fun i hi => h i (List.mem_cons_of_mem _ hi)]
    rfl

/-- the shares' floors and rests, what is left, and the order of the rests -/
structure Fair (n : Nat) (T S : Int) (W Q R : Nat → Int) (L : Nat) (ord : List Nat) : Prop where
  t0 : 0 ≤ T
  s0 : 0 < S
  ws : lsum W (List.range n) = S
  qr : ∀ i, i < n → T * W i = S * Q i + R i ∧ 0 ≤ R i ∧ R i < S
  left : T = lsum Q (List.range n) + L
  perm : ord.Perm (List.range n)
  desc : ord.Pairwise (fun x y => R y ≤ R x)
def part (Q : Nat → Int) (L : Nat) (ord : List Nat) (i : Nat) : Int := Q i + (if i ∈ ord.take L then 1 else 0)
section
variable {n : Nat} {T S : Int} {W Q R : Nat → Int} {L : Nat} {ord : List Nat}
theorem Fair.rests (h : Fair n T S W Q R L ord) : lsum R (List.range n) = S * L := by
  have e1 : lsum (fun i => T * W i) (List.range n) = lsum (fun i => S * Q i + R i) (List.range n) := lsum_congr fun i hi => (h.qr i (List.mem_range.1 hi)).1
  rw [lsum_mul, lsum_add, lsum_mul, h.ws] at e1
  have e2 := h.left
  have e3 : T * S = S * lsum Q (List.range n) + S * L := by rw [← Int.mul_add, ← e2, Int.mul_comm]
  omega
theorem Fair.nodup (h : Fair n T S W Q R L ord) : ord.Nodup := h.perm.nodup_iff.2 List.nodup_range
theorem Fair.len (h : Fair n T S W Q R L ord) : ord.length = n := by rw [h.perm.length_eq]; simp
theorem Fair.mem (h : Fair n T S W Q R L ord) {i : Nat} (hi : i ∈ ord) : i < n := List.mem_range.1 (h.perm.mem_iff.1 hi)
/-- fewer are left than there are weights -/
theorem Fair.few (h : Fair n T S W Q R L ord) : L ≤ n := by
  have h1 := h.rests
  have h2 : lsum R (List.range n) ≤ S * (List.range n).length := lsum_bd fun i hi => by have := (h.qr i (List.mem_range.1 hi)).2.2; omega
  rw [List.length_range, h1] at h2
  have := Int.le_of_mul_le_mul_left h2 h.s0
  omega
/-- 1: the parts add up to the total -/
theorem Fair.sum (h : Fair n T S W Q R L ord) : lsum (part Q L ord) (List.range n) = T := by
  have e : lsum (part Q L ord) (List.range n) = lsum Q (List.range n) + lsum (fun i => if i ∈ ord.take L then (1 : Int) else 0) (List.range n) := lsum_add _ _ _
  rw [e, ← lsum_perm h.perm]
  have h2 : lsum (fun i => if i ∈ ord.take L then (1 : Int) else 0) ord = L := by
    have hd := h.nodup
    have e3 : ord = ord.take L ++ ord.drop L := (List.take_append_drop L ord).symm
    have hd2 := hd
    rw [e3] at hd2
    obtain ⟨d1, d2, d3⟩ := List.nodup_append.1 hd2
    have l1 : lsum (fun i => if i ∈ ord.take L then (1 : Int) else 0) (ord.take L) = (ord.take L).length := lsum_in d1 fun i hi => hi
    have l2 : lsum (fun i => if i ∈ ord.take L then (1 : Int) else 0) (ord.drop L) = 0 := lsum_out fun i hi hm => d3 i hm i hi rfl
    have l3 : lsum (fun i => if i ∈ ord.take L then (1 : Int) else 0) ord = lsum (fun i => if i ∈ ord.take L then (1 : Int) else 0) (ord.take L ++ ord.drop L) := by rw [← e3]
    rw [l3, lsum_app, l1, l2, List.length_take, h.len]
    have := h.few
    omega
  have h3 := h.left
  rw [lsum_perm h.perm] at h2
  rw [lsum_perm h.perm]
  omega
/-- who gets one more has a rest -/
theorem Fair.pos (h : Fair n T S W Q R L ord) {i : Nat} (hi : i ∈ ord.take L) : 0 < R i := by
  apply Classical.byContradiction
  intro hn
  obtain ⟨k, hk, rfl⟩ := List.mem_iff_getElem.1 hi
  rw [List.length_take] at hk
  have hkL : k < L := by omega
  have hkn : k < ord.length := by omega
  have hR0 : R (ord.take L)[k] = 0 := by
    have := (h.qr _ (h.mem (List.mem_of_mem_take hi))).2.1
    omega
  rw [List.getElem_take] at hR0
  -- behind k all rests are 0
  have hz : ∀ j ∈ ord.drop k, R j ≤ 0 := by
    intro j hj
    obtain ⟨m, hm, rfl⟩ := List.mem_iff_getElem.1 hj
    rw [List.length_drop] at hm
    rw [List.getElem_drop]
    rcases Nat.eq_zero_or_pos m with rfl | h0
    · simp only [Nat.add_zero]; omega
    · have := List.pairwise_iff_getElem.1 h.desc k (k + m) hkn (by omega) (by omega)
      omega
  have e : lsum R ord = lsum R (ord.take k) + lsum R (ord.drop k) := by rw [← lsum_app, List.take_append_drop]
  have h1 : lsum R (ord.take k) ≤ S * (ord.take k).length := lsum_bd fun j hj => by have := (h.qr j (h.mem (List.mem_of_mem_take hj))).2.2; omega
  have h2 : lsum R (ord.drop k) ≤ 0 * (ord.drop k).length := lsum_bd hz
  have h3 := h.rests
  rw [← lsum_perm h.perm] at h3
  rw [List.length_take] at h1
  have h4 : S * ((min k ord.length : Nat) : Int) = S * k := by rw [Nat.min_eq_left (by omega)]
  have h5 : S * (L : Int) ≤ S * k := by omega
  have := Int.le_of_mul_le_mul_left h5 h.s0
  omega
/-- 2: each part is near its share -/
theorem Fair.near (h : Fair n T S W Q R L ord) {i : Nat} (hi : i < n) : T * W i - S < part Q L ord i * S ∧ part Q L ord i * S < T * W i + S := by
  obtain ⟨e, r0, r1⟩ := h.qr i hi
  unfold part
  by_cases hm : i ∈ ord.take L
  · have := h.pos hm
    rw [if_pos hm, Int.add_mul, Int.one_mul, Int.mul_comm (Q i) S]
    omega
  · rw [if_neg hm, Int.add_zero, Int.mul_comm (Q i) S]
    omega
/-- 3: a greater weight never gets less -/
theorem Fair.mono (h : Fair n T S W Q R L ord) {i k : Nat} (hi : i < n) (hk : k < n) (hw : W k < W i) : part Q L ord k ≤ part Q L ord i := by
  obtain ⟨e1, r0, r1⟩ := h.qr i hi
  obtain ⟨e2, p0, p1⟩ := h.qr k hk
  have hs := h.s0
  have ht : T * W k ≤ T * W i := Int.mul_le_mul_of_nonneg_left (by omega) h.t0
  have hq : Q k ≤ Q i := by
    apply Classical.byContradiction
    intro hn
    have : S * (Q i + 1) ≤ S * Q k := Int.mul_le_mul_of_nonneg_left (by omega) (by omega)
    rw [Int.mul_add, Int.mul_one] at this
    omega
  unfold part
  by_cases hqe : Q k = Q i
  · rw [hqe] at e2 ⊢
    by_cases hmk : k ∈ ord.take L
    · have hpos := h.pos hmk
      -- there is a total, so the rest of i is greater
      have hT : 0 < T := by
        rcases Int.lt_or_eq_of_le h.t0 with h1 | h1
        · exact h1
        · exfalso
          rw [← h1, Int.zero_mul] at e2
          rcases Int.lt_or_le (Q i) 0 with h2 | h2
          · have h3 : S * Q i ≤ S * (-1) := Int.mul_le_mul_of_nonneg_left (by omega) (by omega)
            omega
          · have h3 : 0 ≤ S * Q i := Int.mul_nonneg (by omega) h2
            omega
      have hlt : T * W k < T * W i := Int.mul_lt_mul_of_pos_left hw hT
      have hr : R k < R i := by omega
      have hmi : i ∈ ord.take L := by
        obtain ⟨a, ha, hak⟩ := List.mem_iff_getElem.1 hmk
        rw [List.length_take] at ha
        have hio : i ∈ ord := h.perm.mem_iff.2 (List.mem_range.2 hi)
        obtain ⟨b, hb, hbi⟩ := List.mem_iff_getElem.1 hio
        rw [List.getElem_take] at hak
        have hba : b < a := by
          apply Classical.byContradiction
          intro hn
          rcases Nat.lt_or_eq_of_le (Nat.le_of_not_lt hn) with h1 | h1
          · have := List.pairwise_iff_getElem.1 h.desc a b (by omega) hb h1
            rw [hak, hbi] at this
            omega
          · subst h1
            rw [hak] at hbi
            subst hbi
            omega
        refine List.mem_iff_getElem.2 ⟨b, by rw [List.length_take]; omega, ?_⟩
        rw [List.getElem_take]
        exact hbi
      rw [if_pos hmk, if_pos hmi]
      omega
    · rw [if_neg hmk]
      split <;> omega
  · split <;> split <;> omega
end
end Go.Proofs.Ytphlkeoailapcaa
