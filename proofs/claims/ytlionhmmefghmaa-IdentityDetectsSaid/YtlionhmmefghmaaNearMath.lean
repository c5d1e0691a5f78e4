/-
  The program's and the reference's lists of near numbers are one.
-/
import Derived.Test.YtlionhmmefghmaaRNear
namespace Go.Proofs.Ytlionhmmefghmaa
open Go.RowKit
set_option linter.unusedSimpArgs false
set_option linter.unusedVariables false
set_option maxRecDepth 100000

theorem u8_inj {x y : Int} (hx : 0 ≤ x ∧ x < 256) (hy : 0 ≤ y ∧ y < 256) (h : UInt8.ofNat x.toNat = UInt8.ofNat y.toNat) : x = y := by
  rw [← u8_back hx, ← u8_back hy, h]
theorem tL_inj {c d : Nat → Int} (hc : ∀ i, 0 ≤ c i ∧ c i < 256) (hd : ∀ i, 0 ≤ d i ∧ d i < 256) (h : tL c = tL d) {i : Nat} (hi : i < 9) : c i = d i := by
  unfold tL at h
  simp only [List.cons.injEq, and_true] at h
  obtain ⟨h0, h1, h2, h3, h4, h5, h6, h7, h8⟩ := h
  obtain rfl | rfl | rfl | rfl | rfl | rfl | rfl | rfl | rfl : i = 0 ∨ i = 1 ∨ i = 2 ∨ i = 3 ∨ i = 4 ∨ i = 5 ∨ i = 6 ∨ i = 7 ∨ i = 8 := by omega
  · exact u8_inj (hc _) (hd _) h0
  · exact u8_inj (hc _) (hd _) h1
  · exact u8_inj (hc _) (hd _) h2
  · exact u8_inj (hc _) (hd _) h3
  · exact u8_inj (hc _) (hd _) h4
  · exact u8_inj (hc _) (hd _) h5
  · exact u8_inj (hc _) (hd _) h6
  · exact u8_inj (hc _) (hd _) h7
  · exact u8_inj (hc _) (hd _) h8
theorem sy_mem_bd {p : Nat} {x : Int} (h : x ∈ sy p) : 0 ≤ x ∧ x < 256 := by
  unfold sy at h
  split at h
  · simp at h; omega
  · simp at h; omega
theorem allB_bd {x : Int} (h : x ∈ allB) : 0 ≤ x ∧ x < 256 := by
  unfold allB at h
  rw [List.mem_map] at h
  obtain ⟨n, hn, rfl⟩ := h
  rw [List.mem_range'_1] at hn
  omega
theorem same_tL {c : Nat → Int} (hc : ∀ i, 0 ≤ c i ∧ c i < 256) {p : Nat} (hp : p < 9) {x : Int} (hx : 0 ≤ x ∧ x < 256) : (tL (upd c p x) == tL c) = (x == c p) := by
  by_cases h : x = c p
  · subst h
    rw [upd_self]
    simp
  · rw [beq_eq_false_iff_ne.2 h]
    refine beq_eq_false_iff_ne.2 fun e => h ?_
    have := tL_inj (upd_bd hc p hx) hc e hp
    rwa [upd_same] at this
/-- what the reference puts in is what the program appends -/
theorem wth_rep {c : Nat → Int} (hc : ∀ i, 0 ≤ c i ∧ c i < 256) {p : Nat} (hp : p < 9) : (wth c p allB).filter (fun x => !(x == tL c)) = rep c p (sy p) := by
  rw [rep_eq c p hp]
  unfold wth
  rw [List.filter_map, List.filter_filter]
  congr 1
  refine List.filter_congr fun x hx => ?_
  show (!(tL (upd c p x) == tL c) && good (upd c p x)) = _
  rw [same_tL hc hp (allB_bd hx), Bool.and_comm]
theorem text_tL (s : ByteArray) (h : s.size = 9) : bytesL s = tL (byteAt s) := by
  have := congrArg (fun b => b.data.toList) (tx9_byteAt s h)
  exact this.symm
theorem nearK_fold (s : ByteArray) (h : s.size = 9) (k : Nat) (hk : k ≤ 9) : nearK s k = (catR (byteAt s) k).foldl insL [] := by
  induction k with
  | zero => rfl
  | succ k ih =>
    show putL (bytesL s) (nearK s k) (wth (byteAt s) k allB) = (catR (byteAt s) k ++ rep (byteAt s) k (sy k)).foldl insL []
    rw [ih (by omega), List.foldl_append]
    unfold putL
    rw [text_tL s h, wth_rep (byteAt_bd s) (by omega)]
theorem catR_form (c : Nat → Int) (k : Nat) : ∀ y, y ∈ catR c k → ∃ p x, p < k ∧ x ≠ c p ∧ (0 ≤ x ∧ x < 256) ∧ good (upd c p x) = true ∧ y = tL (upd c p x) := by
  induction k with
  | zero => intro y hy; simp [catR] at hy
  | succ k ih =>
    intro y hy
    have hy' : y ∈ catR c k ++ rep c k (sy k) := hy
    rcases List.mem_append.1 hy' with h | h
    · obtain ⟨p, x, h1, h2, h3, h4⟩ := ih y h
      exact ⟨p, x, by omega, h2, h3, h4⟩
    · unfold rep at h
      rw [List.mem_map] at h
      obtain ⟨x, hx, rfl⟩ := h
      rw [List.mem_filter, Bool.and_eq_true] at hx
      exact ⟨k, x, by omega, by simpa using hx.2.1, sy_mem_bd hx.1, hx.2.2, rfl⟩
theorem rep_nodup {c : Nat → Int} (hc : ∀ i, 0 ≤ c i ∧ c i < 256) {p : Nat} (hp : p < 9) : (rep c p (sy p)).Nodup := by
  unfold rep
  refine List.pairwise_map.2 ?_
  refine List.Pairwise.imp_of_mem (fun ha hb hne e => hne ?_) ((sy_nodup p).filter _)
  have h1 := sy_mem_bd (List.mem_filter.1 ha).1
  have h2 := sy_mem_bd (List.mem_filter.1 hb).1
  have := tL_inj (upd_bd hc p h1) (upd_bd hc p h2) e hp
  rwa [upd_same, upd_same] at this
theorem catR_nodup {c : Nat → Int} (hc : ∀ i, 0 ≤ c i ∧ c i < 256) (k : Nat) (hk : k ≤ 9) : (catR c k).Nodup := by
  induction k with
  | zero => exact List.nodup_nil
  | succ k ih =>
    show (catR c k ++ rep c k (sy k)).Nodup
    refine List.nodup_append.2 ⟨ih (by omega), rep_nodup hc (by omega), fun a ha b hb e => ?_⟩
    subst e
    obtain ⟨p, x, h1, h2, h3, -, rfl⟩ := catR_form c k a ha
    unfold rep at hb
    rw [List.mem_map] at hb
    obtain ⟨y, hy, e⟩ := hb
    have hy3 := sy_mem_bd (List.mem_filter.1 hy).1
    have := tL_inj (upd_bd hc k hy3) (upd_bd hc p h3) e (show p < 9 by omega)
    rw [upd_same, upd_other c y (by omega)] at this
    exact h2 this.symm
/-- ascending -/
abbrev Asc (l : List (List UInt8)) : Prop := l.Pairwise fun a b => leB a b = true
theorem leB_iff (a b : List UInt8) : leB a b = true ↔ a ≤ b := by unfold leB; exact decide_eq_true_iff
theorem ins_asc {acc : List (List UInt8)} {s : List UInt8} (ha : Asc acc) (hs : s ∉ acc) : Asc (insL acc s) ∧ (insL acc s).Perm (s :: acc) := by
  have hne : ¬ acc[place acc s]? = some s := fun e => hs (List.mem_of_getElem? e)
  have he : insL acc s = acc.take (place acc s) ++ [s] ++ acc.drop (place acc s) := by unfold insL; rw [if_neg hne]
  have hsplit : acc.take (place acc s) ++ acc.drop (place acc s) = acc := List.take_append_drop _ _
  have h1 : ∀ x, x ∈ acc.take (place acc s) → x ≤ s := fun x hx => by
    obtain ⟨i, hi, e⟩ := List.mem_iff_getElem.1 hx
    rw [List.length_take] at hi
    have := place_lt (l := acc) (s := s) (k := i) (by omega)
    rw [List.getElem_take] at e
    rw [List.getD_eq_getElem?_getD, List.getElem?_eq_getElem (by omega), Option.getD_some, e] at this
    exact List.le_of_lt this
  have h2 : ∀ x, x ∈ acc.drop (place acc s) → s ≤ x := fun x hx => by
    obtain ⟨i, hi, e⟩ := List.mem_iff_getElem.1 hx
    rw [List.length_drop] at hi
    have hp : place acc s < acc.length := by omega
    have hh := place_at hp
    rw [List.getD_eq_getElem?_getD, List.getElem?_eq_getElem hp, Option.getD_some] at hh
    have hh' := List.not_lt.1 hh
    rw [List.getElem_drop] at e
    subst e
    by_cases h0 : i = 0
    · subst h0
      exact hh'
    · have := List.pairwise_iff_getElem.1 ha (place acc s) (place acc s + i) hp (by omega) (by omega)
      exact List.le_trans hh' ((leB_iff _ _).1 this)
  rw [he]
  refine ⟨?_, ?_⟩
  · rw [← hsplit] at ha
    obtain ⟨a1, a2, a3⟩ := List.pairwise_append.1 ha
    rw [List.append_assoc]
    refine List.pairwise_append.2 ⟨a1, ?_, fun x hx y hy => ?_⟩
    · refine List.pairwise_cons.2 ⟨fun y hy => (leB_iff _ _).2 (h2 y hy), a2⟩
    · rcases List.mem_cons.1 hy with rfl | hy
      · exact (leB_iff _ _).2 (h1 x hx)
      · exact a3 x hx y hy
  · rw [List.append_assoc]
    have := List.perm_middle (a := s) (l₁ := acc.take (place acc s)) (l₂ := acc.drop (place acc s))
    rw [hsplit] at this
    exact this
theorem fold_asc (l : List (List UInt8)) : ∀ acc, Asc acc → l.Nodup → (∀ x, x ∈ l → x ∉ acc) → Asc (l.foldl insL acc) ∧ (l.foldl insL acc).Perm (acc ++ l) := by
  induction l with
  | nil => intro acc ha _ _; exact ⟨ha, by simp⟩
  | cons x l ih =>
    intro acc ha hn hd
    rw [List.nodup_cons] at hn
    obtain ⟨h1, h2⟩ := ins_asc ha (hd x (by simp))
    obtain ⟨h3, h4⟩ := ih (insL acc x) h1 hn.2 (fun y hy hm => by
      rcases List.mem_cons.1 (h2.mem_iff.1 hm) with rfl | hm
      · exact hn.1 hy
      · exact hd y (by simp [hy]) hm)
    refine ⟨h3, h4.trans ?_⟩
    refine (h2.append_right l).trans ?_
    exact List.perm_middle.symm
theorem near_eq (s : ByteArray) : rnearL s = nearL s := by
  unfold rnearL nearL
  by_cases hs : shp s = true
  · rw [if_pos hs, if_pos hs]
    have h9 : s.size = 9 := by unfold shp at hs; simp at hs; exact hs.1
    rw [nearK_fold s h9 9 (by omega)]
    obtain ⟨h1, h2⟩ := fold_asc (catR (byteAt s) 9) [] List.Pairwise.nil (catR_nodup (byteAt_bd s) 9 (by omega)) (fun x _ h => by cases h)
    have tr : ∀ a b c : List UInt8, leB a b = true → leB b c = true → leB a c = true := fun a b c h1 h2 => (leB_iff _ _).2 (List.le_trans ((leB_iff _ _).1 h1) ((leB_iff _ _).1 h2))
    have to : ∀ a b : List UInt8, (leB a b || leB b a) = true := fun a b => by rw [Bool.or_eq_true, leB_iff, leB_iff]; exact List.le_total a b
    refine List.Perm.eq_of_pairwise (le := fun a b => leB a b = true) (fun a b _ _ h1 h2 => List.le_antisymm ((leB_iff _ _).1 h1) ((leB_iff _ _).1 h2)) h1 (List.pairwise_mergeSort tr to _) (h2.trans ?_)
    exact (List.mergeSort_perm _ _).symm
  · rw [if_neg hs, if_neg hs]
theorem nearL_len (s : ByteArray) : (nearL s).length ≤ 100000 := by
  unfold nearL
  split
  · rw [List.length_mergeSort]
    exact Nat.le_trans (catR_len _ _) (by omega)
  · simp
end Go.Proofs.Ytlionhmmefghmaa
