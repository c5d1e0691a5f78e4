/-
  Plain mathematics of stamps: comparison, which events count, groups of one identity, what determines the canonical list.
-/
namespace Go.Proofs.Ytdggmnhddoejhaa
set_option linter.unusedVariables false

abbrev St := Int × Int × Int
def vld (x : St) : Bool := decide (0 ≤ x.1 ∧ x.1 ≤ 1000000) && decide (0 ≤ x.2.1 ∧ x.2.1 ≤ 99) && decide (0 ≤ x.2.2 ∧ x.2.2 ≤ 9999)
def cmpI (a b : Int) : Int := if a < b then -1 else if b < a then 1 else 0
def orI (a b : Int) : Int := if a = 0 then b else a
def cmp2 (x y : St) : Int := orI (cmpI x.2.1 y.2.1) (cmpI x.2.2 y.2.2)
def cmp3 (x y : St) : Int := orI (cmpI x.1 y.1) (cmp2 x y)
/-- an identity stands before another -/
def idLt (x y : St) : Prop := x.2.1 < y.2.1 ∨ x.2.1 = y.2.1 ∧ x.2.2 < y.2.2
def stLt (x y : St) : Prop := x.1 < y.1 ∨ x.1 = y.1 ∧ idLt x y
theorem cmpI_lt (a b : Int) : cmpI a b < 0 ↔ a < b := by unfold cmpI; split <;> (try split) <;> omega
theorem cmpI_eq (a b : Int) : cmpI a b = 0 ↔ a = b := by unfold cmpI; split <;> (try split) <;> omega
theorem cmpI_gt (a b : Int) : 0 < cmpI a b ↔ b < a := by unfold cmpI; split <;> (try split) <;> omega
theorem cmpI_bd (a b : Int) : -1 ≤ cmpI a b ∧ cmpI a b ≤ 1 := by unfold cmpI; split <;> (try split) <;> omega
theorem orI_bd (a b : Int) (ha : -1 ≤ a ∧ a ≤ 1) (hb : -1 ≤ b ∧ b ≤ 1) : -1 ≤ orI a b ∧ orI a b ≤ 1 := by unfold orI; split <;> assumption
theorem cmp2_bd (x y : St) : -1 ≤ cmp2 x y ∧ cmp2 x y ≤ 1 := orI_bd _ _ (cmpI_bd _ _) (cmpI_bd _ _)
theorem cmp3_bd (x y : St) : -1 ≤ cmp3 x y ∧ cmp3 x y ≤ 1 := orI_bd _ _ (cmpI_bd _ _) (cmp2_bd _ _)
theorem cmp2_lt (x y : St) : cmp2 x y < 0 ↔ idLt x y := by
  unfold cmp2 idLt orI
  have h1 := cmpI_lt x.2.1 y.2.1; have h2 := cmpI_eq x.2.1 y.2.1; have h3 := cmpI_lt x.2.2 y.2.2
  split <;> omega
theorem cmp2_eq (x y : St) : cmp2 x y = 0 ↔ x.2 = y.2 := by
  unfold cmp2 orI
  have h2 := cmpI_eq x.2.1 y.2.1; have h3 := cmpI_eq x.2.2 y.2.2
  rw [Prod.ext_iff]
  split <;> omega
theorem cmp3_lt (x y : St) : cmp3 x y < 0 ↔ stLt x y := by
  unfold cmp3 stLt orI
  have h1 := cmpI_lt x.1 y.1; have h2 := cmpI_eq x.1 y.1; have h3 := cmp2_lt x y
  rw [← h3]
  split <;> omega
theorem cmp3_eq (x y : St) : cmp3 x y = 0 ↔ x = y := by
  unfold cmp3 orI
  have h2 := cmpI_eq x.1 y.1; have h3 := cmp2_eq x y
  rw [Prod.ext_iff, ← h3]
  split <;> omega
theorem idLt_irr (x : St) : ¬ idLt x x := by unfold idLt; omega
theorem idLt_trans {x y z : St} (h : idLt x y) (k : idLt y z) : idLt x z := by unfold idLt at *; omega
theorem idLt_tri (x y : St) : idLt x y ∨ x.2 = y.2 ∨ idLt y x := by unfold idLt; rw [Prod.ext_iff]; omega
theorem idLt_ne {x y : St} (h : idLt x y) : x.2 ≠ y.2 := by unfold idLt at h; rw [Ne, Prod.ext_iff]; omega
theorem idLt_l {x y z : St} (h : x.2 = y.2) (k : idLt y z) : idLt x z := by unfold idLt at *; rw [h]; exact k
theorem idLt_r {x y z : St} (h : idLt x y) (k : y.2 = z.2) : idLt x z := by unfold idLt at *; rw [← k]; exact h
theorem stLt_irr (x : St) : ¬ stLt x x := by unfold stLt idLt; omega
theorem stLt_trans {x y z : St} (h : stLt x y) (k : stLt y z) : stLt x z := by unfold stLt idLt at *; omega
theorem stLt_tri (x y : St) : stLt x y ∨ x = y ∨ stLt y x := by unfold stLt idLt; rw [Prod.ext_iff, Prod.ext_iff]; omega

/-- two events of one identity that are no copies -/
def dis (x y : St) (a b : Int) : Bool := decide (x.2 = y.2) && (decide (x.1 ≠ y.1) || decide (a ≠ b))
/-- event i spoils event k's claim to count -/
def bars (L : Nat → St) (C : Nat → Int) (i k : Nat) : Bool := vld (L k) && (dis (L i) (L k) (C i) (C k) || (decide (k < i) && decide (L k = L i)))
def cnts (L : Nat → St) (C : Nat → Int) (n i : Nat) : Bool := vld (L i) && (List.range n).all fun k => !bars L C i k
theorem cnts_iff (L : Nat → St) (C : Nat → Int) (n i : Nat) : cnts L C n i = true ↔ vld (L i) = true ∧ ∀ k, k < n → bars L C i k = false := by
  unfold cnts
  rw [Bool.and_eq_true, List.all_eq_true]
  simp only [List.mem_range, Bool.not_eq_true']
/-- the canonical list: the events that count, strictly ascending -/
structure IsCanon (L : Nat → St) (C : Nat → Int) (n : Nat) (out : List Nat) : Prop where
  mem : ∀ i, i ∈ out ↔ i < n ∧ cnts L C n i = true
  asc : out.Pairwise fun i k => stLt (L i) (L k)

theorem sorted_unique {α : Type} (r : α → α → Prop) (irr : ∀ a, ¬ r a a) (asym : ∀ a b, r a b → ¬ r b a) : ∀ l1 l2 : List α, l1.Pairwise r → l2.Pairwise r → (∀ x, x ∈ l1 ↔ x ∈ l2) → l1 = l2
  | [], [], _, _, _ => rfl
  | [], b :: t, _, _, h => absurd ((h b).2 (List.mem_cons_self ..)) (by simp)
  | a :: t, [], _, _, h => absurd ((h a).1 (List.mem_cons_self ..)) (by simp)
  | a :: t, b :: u, h1, h2, h => by
    rw [List.pairwise_cons] at h1 h2
    have e : a = b := by
      have ha := (h a).1 (List.mem_cons_self ..)
      have hb := (h b).2 (List.mem_cons_self ..)
      rw [List.mem_cons] at ha hb
      rcases ha with ha | ha
      · exact ha
      · rcases hb with hb | hb
        · exact hb.symm
        · exact absurd (h1.1 b hb) (asym _ _ (h2.1 a ha))
    subst e
    refine congrArg _ (sorted_unique r irr asym t u h1.2 h2.2 fun x => ⟨fun hx => ?_, fun hx => ?_⟩)
    · have := (h x).1 (List.mem_cons_of_mem _ hx)
      rw [List.mem_cons] at this
      rcases this with rfl | this
      · exact absurd (h1.1 _ hx) (irr _)
      · exact this
    · have := (h x).2 (List.mem_cons_of_mem _ hx)
      rw [List.mem_cons] at this
      rcases this with rfl | this
      · exact absurd (h2.1 _ hx) (irr _)
      · exact this
theorem IsCanon.unique {L : Nat → St} {C : Nat → Int} {n : Nat} {a b : List Nat} (h : IsCanon L C n a) (k : IsCanon L C n b) : a = b :=
  sorted_unique (fun i k => stLt (L i) (L k)) (fun _ => stLt_irr _) (fun _ _ h k => stLt_irr _ (stLt_trans h k)) _ _ h.asc k.asc fun x => (h.mem x).trans (k.mem x).symm

/-! ### groups -/
structure Grp (L : Nat → St) (G : List (List Nat)) : Prop where
  ne : ∀ g ∈ G, g ≠ []
  same : ∀ g ∈ G, ∀ i ∈ g, ∀ k ∈ g, (L i).2 = (L k).2
  idx : ∀ g ∈ G, g.Pairwise (· < ·)
  asc : G.Pairwise fun g h => ∀ i ∈ g, ∀ k ∈ h, idLt (L i) (L k)
theorem Grp.nil (L : Nat → St) : Grp L [] := ⟨by simp, by simp, by simp, by simp⟩
theorem Grp.fresh {L : Nat → St} {G : List (List Nat)} (h : Grp L G) (i : Nat) (hi : ∀ k ∈ G.flatten, idLt (L k) (L i)) : Grp L (G ++ [[i]]) := by
  refine ⟨?_, ?_, ?_, ?_⟩
  · intro g hg; simp only [List.mem_append, List.mem_singleton] at hg
    rcases hg with hg | rfl
    · exact h.ne g hg
    · simp
  · intro g hg; simp only [List.mem_append, List.mem_singleton] at hg
    rcases hg with hg | rfl
    · exact h.same g hg
    · intro a ha b hb; simp only [List.mem_singleton] at ha hb; subst ha; subst hb; rfl
  · intro g hg; simp only [List.mem_append, List.mem_singleton] at hg
    rcases hg with hg | rfl
    · exact h.idx g hg
    · simp
  · rw [List.pairwise_append]
    refine ⟨h.asc, by simp, fun g hg k hk a ha b hb => ?_⟩
    simp only [List.mem_singleton] at hk; subst hk
    simp only [List.mem_singleton] at hb; subst hb
    exact hi a (List.mem_flatten.2 ⟨g, hg, ha⟩)
theorem Grp.more {L : Nat → St} {G : List (List Nat)} {g : List Nat} (h : Grp L (G ++ [g])) (i : Nat) (hs : ∀ k ∈ g, (L k).2 = (L i).2 ∧ k < i) (hi : ∀ k ∈ G.flatten, idLt (L k) (L i)) : Grp L (G ++ [g ++ [i]]) := by
  refine ⟨?_, ?_, ?_, ?_⟩
  · intro x hx; simp only [List.mem_append, List.mem_singleton] at hx
    rcases hx with hx | rfl
    · exact h.ne x (by simp [hx])
    · simp
  · intro x hx; simp only [List.mem_append, List.mem_singleton] at hx
    rcases hx with hx | rfl
    · exact h.same x (by simp [hx])
    · intro a ha b hb; simp only [List.mem_append, List.mem_singleton] at ha hb
      rcases ha with ha | rfl <;> rcases hb with hb | rfl
      · exact h.same g (by simp) a ha b hb
      · exact (hs a ha).1
      · exact (hs b hb).1.symm
      · rfl
  · intro x hx; simp only [List.mem_append, List.mem_singleton] at hx
    rcases hx with hx | rfl
    · exact h.idx x (by simp [hx])
    · rw [List.pairwise_append]
      exact ⟨h.idx g (by simp), by simp, fun a ha b hb => by simp only [List.mem_singleton] at hb; subst hb; exact (hs a ha).2⟩
  · have := h.asc
    rw [List.pairwise_append] at this ⊢
    refine ⟨this.1, by simp, fun x hx k hk a ha b hb => ?_⟩
    simp only [List.mem_singleton] at hk; subst hk
    simp only [List.mem_append, List.mem_singleton] at hb
    rcases hb with hb | rfl
    · exact this.2.2 x hx g (by simp) a ha b hb
    · exact hi a (List.mem_flatten.2 ⟨x, hx, ha⟩)

/-- the head of a group -/
def hd (g : List Nat) : Nat := g.headD 0
/-- a group whose events are not all copies -/
def gdis (L : Nat → St) (C : Nat → Int) (g : List Nat) : Bool := g.any fun i => !decide (L i = L (hd g)) || !decide (C i = C (hd g))
theorem hd_mem {g : List Nat} (h : g ≠ []) : hd g ∈ g := by cases g with | nil => exact absurd rfl h | cons a t => simp [hd]
theorem hd_least {g : List Nat} (h : g.Pairwise (· < ·)) {i : Nat} (hi : i ∈ g) : hd g ≤ i := by
  cases g with
  | nil => simp at hi
  | cons a t =>
    rw [List.pairwise_cons] at h
    rw [List.mem_cons] at hi
    show a ≤ i
    rcases hi with rfl | hi
    · exact Nat.le_refl _
    · exact Nat.le_of_lt (h.1 i hi)
theorem gdis_false {L : Nat → St} {C : Nat → Int} {g : List Nat} : gdis L C g = false ↔ ∀ i ∈ g, L i = L (hd g) ∧ C i = C (hd g) := by
  unfold gdis
  rw [List.any_eq_false]
  simp

/-- the groups are all the valid events -/
def Full (L : Nat → St) (n : Nat) (G : List (List Nat)) : Prop := ∀ i, i ∈ G.flatten ↔ i < n ∧ vld (L i) = true
theorem Grp.pick {L : Nat → St} {G : List (List Nat)} (h : Grp L G) {g g' : List Nat} (hg : g ∈ G) (hg' : g' ∈ G) {i k : Nat} (hi : i ∈ g) (hk : k ∈ g') (e : (L i).2 = (L k).2) : g = g' := by
  obtain ⟨a, ha, rfl⟩ := List.getElem_of_mem hg
  obtain ⟨b, hb, rfl⟩ := List.getElem_of_mem hg'
  have hp := List.pairwise_iff_getElem.1 h.asc
  rcases Nat.lt_trichotomy a b with hab | rfl | hab
  · exact absurd e (idLt_ne (hp a b ha hb hab i hi k hk))
  · rfl
  · exact absurd e.symm (idLt_ne (hp b a hb ha hab k hk i hi))
theorem dis_false {x y : St} {a b : Int} (e : x.2 = y.2) : dis x y a b = false ↔ x = y ∧ a = b := by
  unfold dis
  rw [decide_eq_true e, Bool.true_and, Prod.ext_iff]
  simp [e]
theorem dis_far {x y : St} {a b : Int} (e : x.2 ≠ y.2) : dis x y a b = false := by
  unfold dis
  rw [decide_eq_false e, Bool.false_and]

def counting (L : Nat → St) (C : Nat → Int) (G : List (List Nat)) : List Nat := (G.filter fun g => !gdis L C g).map hd
theorem counting_mem {L : Nat → St} {C : Nat → Int} {n : Nat} {G : List (List Nat)} (h : Grp L G) (hf : Full L n G) (i : Nat) : i ∈ counting L C G ↔ i < n ∧ cnts L C n i = true := by
  unfold counting
  rw [List.mem_map, cnts_iff]
  constructor
  · rintro ⟨g, hg, rfl⟩
    rw [List.mem_filter, Bool.not_eq_true', gdis_false] at hg
    obtain ⟨hg, hd1⟩ := hg
    have hm := hd_mem (h.ne g hg)
    have hi := (hf (hd g)).1 (List.mem_flatten.2 ⟨g, hg, hm⟩)
    refine ⟨hi.1, hi.2, fun k hk => ?_⟩
    unfold bars
    cases hv : vld (L k)
    · rfl
    · rw [Bool.true_and]
      obtain ⟨g', hg', hk'⟩ := List.mem_flatten.1 ((hf k).2 ⟨hk, hv⟩)
      by_cases e : (L (hd g)).2 = (L k).2
      · obtain rfl := h.pick hg hg' hm hk' e
        have := hd1 k hk'
        rw [(dis_false e).2 ⟨this.1.symm, this.2.symm⟩, Bool.false_or, decide_eq_false (by have := hd_least (h.idx g hg) hk'; omega), Bool.false_and]
      · rw [dis_far e, Bool.false_or, decide_eq_false (fun e' : L k = L (hd g) => e (by rw [e'])), Bool.and_false]
  · rintro ⟨hi, hv, hb⟩
    obtain ⟨g, hg, hm⟩ := List.mem_flatten.1 ((hf i).2 ⟨hi, hv⟩)
    have hall : ∀ k ∈ g, L k = L i ∧ C k = C i := by
      intro k hk
      have hkf := (hf k).1 (List.mem_flatten.2 ⟨g, hg, hk⟩)
      have hbk := hb k hkf.1
      unfold bars at hbk
      rw [hkf.2, Bool.true_and, Bool.or_eq_false_iff] at hbk
      have := (dis_false (h.same g hg i hm k hk)).1 hbk.1
      exact ⟨this.1.symm, this.2.symm⟩
    have hh := hd_mem (h.ne g hg)
    have e : hd g = i := by
      have hle := hd_least (h.idx g hg) hm
      rcases Nat.lt_or_ge (hd g) i with hlt | hge
      · have hkf := (hf (hd g)).1 (List.mem_flatten.2 ⟨g, hg, hh⟩)
        have hbk := hb _ hkf.1
        unfold bars at hbk
        rw [hkf.2, Bool.true_and, Bool.or_eq_false_iff, decide_eq_true hlt, decide_eq_true (hall _ hh).1] at hbk
        exact absurd hbk.2 (by simp)
      · omega
    refine ⟨g, List.mem_filter.2 ⟨hg, ?_⟩, e⟩
    rw [Bool.not_eq_true', gdis_false, e]
    exact hall
theorem counting_ids {L : Nat → St} {C : Nat → Int} {G : List (List Nat)} (h : Grp L G) : (counting L C G).Pairwise fun i k => (L i).2 ≠ (L k).2 := by
  unfold counting
  rw [List.pairwise_map]
  have hp : (G.filter fun g => !gdis L C g).Pairwise fun g h => ∀ i ∈ g, ∀ k ∈ h, idLt (L i) (L k) := h.asc.sublist List.filter_sublist
  refine List.Pairwise.imp_of_mem (fun {a b} ha hb hab => ?_) hp
  exact idLt_ne (hab _ (hd_mem (h.ne a (List.mem_filter.1 ha).1)) _ (hd_mem (h.ne b (List.mem_filter.1 hb).1)))
/-- a sorted rearrangement of the heads that count is the canonical list -/
theorem canon_of_sorted {L : Nat → St} {C : Nat → Int} {n : Nat} {G : List (List Nat)} (h : Grp L G) (hf : Full L n G) (out : List Nat) (hp : out.Perm (counting L C G)) (hs : out.Pairwise fun i k => ¬ stLt (L k) (L i)) : IsCanon L C n out := by
  refine ⟨fun i => (hp.mem_iff).trans (counting_mem h hf i), ?_⟩
  have hids : out.Pairwise fun i k => (L i).2 ≠ (L k).2 := hp.symm.pairwise (counting_ids h) (fun h' => Ne.symm h')
  refine (hids.and hs).imp fun {a b} hab => ?_
  rcases stLt_tri (L a) (L b) with h1 | h1 | h1
  · exact h1
  · exact absurd (by rw [h1]) hab.1
  · exact absurd h1 hab.2

/-! ### the disputed identities -/
def pLt (x y : Int × Int) : Prop := x.1 < y.1 ∨ x.1 = y.1 ∧ x.2 < y.2
structure IsDis (L : Nat → St) (C : Nat → Int) (n : Nat) (out : List (Int × Int)) : Prop where
  mem : ∀ x, x ∈ out ↔ ∃ i, i < n ∧ vld (L i) = true ∧ (L i).2 = x ∧ ∃ k, k < n ∧ vld (L k) = true ∧ dis (L i) (L k) (C i) (C k) = true
  asc : out.Pairwise pLt
theorem IsDis.unique {L : Nat → St} {C : Nat → Int} {n : Nat} {a b : List (Int × Int)} (h : IsDis L C n a) (k : IsDis L C n b) : a = b :=
  sorted_unique pLt (fun _ h => by unfold pLt at h; omega) (fun _ _ h k => by unfold pLt at *; omega) _ _ h.asc k.asc fun x => (h.mem x).trans (k.mem x).symm
def disputes (L : Nat → St) (C : Nat → Int) (G : List (List Nat)) : List (Int × Int) := (G.filter fun g => gdis L C g).map fun g => (L (hd g)).2
theorem isDis_of {L : Nat → St} {C : Nat → Int} {n : Nat} {G : List (List Nat)} (h : Grp L G) (hf : Full L n G) : IsDis L C n (disputes L C G) := by
  refine ⟨fun x => ?_, ?_⟩
  · unfold disputes
    rw [List.mem_map]
    constructor
    · rintro ⟨g, hg, rfl⟩
      rw [List.mem_filter] at hg
      obtain ⟨hg, hd1⟩ := hg
      have hm := hd_mem (h.ne g hg)
      have hi := (hf (hd g)).1 (List.mem_flatten.2 ⟨g, hg, hm⟩)
      unfold gdis at hd1
      rw [List.any_eq_true] at hd1
      obtain ⟨k, hk, hne⟩ := hd1
      have hkf := (hf k).1 (List.mem_flatten.2 ⟨g, hg, hk⟩)
      refine ⟨hd g, hi.1, hi.2, rfl, k, hkf.1, hkf.2, ?_⟩
      refine (Bool.eq_false_or_eq_true _).resolve_right fun hf' => ?_
      have := (dis_false (h.same g hg _ hm k hk)).1 hf'
      rw [this.1, this.2] at hne
      simp at hne
    · rintro ⟨i, hi, hv, rfl, k, hk, hkv, hdk⟩
      obtain ⟨g, hg, hm⟩ := List.mem_flatten.1 ((hf i).2 ⟨hi, hv⟩)
      obtain ⟨g', hg', hk'⟩ := List.mem_flatten.1 ((hf k).2 ⟨hk, hkv⟩)
      have e : (L i).2 = (L k).2 := by
        by_cases e : (L i).2 = (L k).2
        · exact e
        · rw [dis_far e] at hdk; cases hdk
      obtain rfl := h.pick hg hg' hm hk' e
      refine ⟨g, List.mem_filter.2 ⟨hg, ?_⟩, h.same g hg _ (hd_mem (h.ne g hg)) _ hm⟩
      refine (Bool.eq_false_or_eq_true _).resolve_right fun hgf => ?_
      rw [gdis_false] at hgf
      have a := hgf i hm
      have b := hgf k hk'
      rw [(dis_false e).2 ⟨a.1.trans b.1.symm, a.2.trans b.2.symm⟩] at hdk
      cases hdk
  · unfold disputes
    rw [List.pairwise_map]
    have hp : (G.filter fun g => gdis L C g).Pairwise fun g h => ∀ i ∈ g, ∀ k ∈ h, idLt (L i) (L k) := h.asc.sublist List.filter_sublist
    refine List.Pairwise.imp_of_mem (fun {a b} ha hb hab => ?_) hp
    exact hab _ (hd_mem (h.ne a (List.mem_filter.1 ha).1)) _ (hd_mem (h.ne b (List.mem_filter.1 hb).1))

/-! ### the order by identity and place -/
def keyLt (L : Nat → St) (i k : Nat) : Prop := idLt (L i) (L k) ∨ (L i).2 = (L k).2 ∧ i < k
theorem grp_fresh {L : Nat → St} {G : List (List Nat)} {pre : List Nat} (h : Grp L G) (hfl : G.flatten = pre) (i p : Nat) (hp : pre.getLast? = some p) (hne : (L p).2 ≠ (L i).2) (hs : (pre ++ [i]).Pairwise (keyLt L)) : Grp L (G ++ [[i]]) := by
  refine h.fresh i fun k hk => ?_
  rw [List.pairwise_append] at hs
  rw [hfl] at hk
  rcases hs.2.2 k hk i (by simp) with h1 | ⟨h1, h2⟩
  · exact h1
  · exfalso
    obtain ⟨ini, hini⟩ := List.getLast?_eq_some_iff.1 hp
    have hpm : p ∈ pre := by rw [hini]; simp
    rcases hs.2.2 p hpm i (by simp) with h3 | ⟨h3, _⟩
    · rw [hini] at hk
      simp only [List.mem_append, List.mem_singleton] at hk
      rcases hk with hk | rfl
      · have hs1 := hs.1
        rw [hini, List.pairwise_append] at hs1
        rcases hs1.2.2 k hk p (by simp) with h4 | ⟨h4, _⟩
        · exact idLt_irr _ (idLt_l h1.symm (idLt_trans h4 h3))
        · exact idLt_ne h3 (h4.symm.trans h1)
      · exact idLt_ne h3 h1
    · exact hne h3
theorem grp_first {L : Nat → St} (i : Nat) : Grp L [[i]] := (Grp.nil L).fresh i (by simp)
theorem grp_same {L : Nat → St} {G : List (List Nat)} {g pre : List Nat} (h : Grp L (G ++ [g])) (hfl : (G ++ [g]).flatten = pre) (i p : Nat) (hp : pre.getLast? = some p) (he : (L p).2 = (L i).2) (hs : (pre ++ [i]).Pairwise (keyLt L)) : Grp L (G ++ [g ++ [i]]) := by
  rw [List.pairwise_append] at hs
  have hgp : p ∈ g := by
    have hg := h.ne g (by simp)
    rw [← hfl] at hp
    simp only [List.flatten_append, List.flatten_cons, List.flatten_nil, List.append_nil] at hp
    rw [List.getLast?_append] at hp
    cases hl : g.getLast? with
    | none => exact absurd (List.getLast?_eq_none_iff.1 hl) hg
    | some q =>
      rw [hl] at hp
      simp only [Option.some_or, Option.some.injEq] at hp
      subst hp
      exact List.mem_of_getLast? hl
  have hsame : ∀ k ∈ g, (L k).2 = (L i).2 := fun k hk => (h.same g (by simp) k hk p hgp).trans he
  refine h.more i (fun k hk => ⟨hsame k hk, ?_⟩) fun k hk => ?_
  · have hkp : k ∈ pre := by rw [← hfl]; simp [hk]
    rcases hs.2.2 k hkp i (by simp) with h1 | ⟨_, h1⟩
    · exact absurd (hsame k hk) (idLt_ne h1)
    · exact h1
  · obtain ⟨x, hx, hkx⟩ := List.mem_flatten.1 hk
    have := (List.pairwise_append.1 h.asc).2.2 x hx g (by simp) k hkx p hgp
    exact idLt_r this he
end Go.Proofs.Ytdggmnhddoejhaa
