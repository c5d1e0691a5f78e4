/-
  A replaced byte: the number is refused, near it stands the number itself, and just one with its digits.
-/
import Derived.Test.YtlionhmmefghmaaNearMath
import Derived.Test.YtlionhmmefghmaaWalkFills
namespace Go.Proofs.Ytlionhmmefghmaa
open Go.RowKit
set_option linter.unusedSimpArgs false
set_option linter.unusedVariables false
set_option maxRecDepth 100000

theorem catR_ext {c d : Nat → Int} (h : ∀ i, i < 9 → c i = d i) (k : Nat) (hk : k ≤ 9) : catR c k = catR d k := by
  induction k with
  | zero => rfl
  | succ k ih =>
    show catR c k ++ rep c k (sy k) = catR d k ++ rep d k (sy k)
    rw [ih (by omega), rep_ext h (show k < 9 by omega)]
/-- near a candidate number there is none -/
theorem near_good (c : Nat → Int) (hc : ∀ i, 0 ≤ c i ∧ c i < 256) (hg : good c = true) : nearL (tx9 c) = [] := by
  have hb : ∀ i, i < 9 → byteAt (tx9 c) i = c i := fun i hi => byteAt_tx9 _ hc hi
  have hnil : catR c 9 = [] := by
    refine List.eq_nil_iff_forall_not_mem.2 fun y hy => ?_
    obtain ⟨p, x, hp, hne, -, hgx, -⟩ := catR_form c 9 y hy
    exact hne (good_one hp hgx (by rw [upd_self]; exact hg))
  unfold nearL
  split
  · rw [catR_ext hb 9 (by omega), hnil, List.mergeSort_nil]
  · rfl
theorem det_bad (N p : Nat) (hp : p < 9) (b : Int) (hpb : plc p b = true) (hb0 : 0 ≤ b ∧ b < 256) (hne : numC N p ≠ b) : good (upd (numC N) p b) = false := by
  cases e : good (upd (numC N) p b)
  · rfl
  · have := good_one (c := numC N) hp e (by rw [upd_self]; exact good_num N)
    exact absurd this.symm hne
theorem det_shape (N p : Nat) (hp : p < 9) (b : Int) (hpb : plc p b = true) (hb0 : 0 ≤ b ∧ b < 256) (hne : numC N p ≠ b) : digs (upd (numC N) p b) 8 = true ∧ isLet (upd (numC N) p b 8) = true := by
  have hg := good_num N
  have hpl : ∀ i, i < 9 → plc i (upd (numC N) p b i) = true := fun i hi => by
    by_cases e : i = p
    · subst e; rw [upd_same]; exact hpb
    · rw [upd_other _ _ e]; exact good_place hg hi
  refine ⟨(digs_iff _ _).2 fun i hi => ?_, ?_⟩
  · have := hpl i (by omega)
    unfold plc at this
    rw [if_pos hi] at this
    exact of_decide_eq_true this
  · have := hpl 8 (by omega)
    unfold plc at this
    rwa [if_neg (by omega)] at this
theorem det_prE (N p : Nat) (hp : p < 9) (b : Int) (hpb : plc p b = true) (hb0 : 0 ≤ b ∧ b < 256) (hne : numC N p ≠ b) : prE (tx9 (upd (numC N) p b)) = 24 := by
  have hc := upd_bd (numC_bd N) p hb0
  have hbt : ∀ i, i < 9 → byteAt (tx9 (upd (numC N) p b)) i = upd (numC N) p b i := fun i hi => byteAt_tx9 _ hc hi
  obtain ⟨h1, h2⟩ := det_shape N p hp b hpb hb0 hne
  have hs : shp (tx9 (upd (numC N) p b)) = true := by
    unfold shp
    rw [hbt 8 (by omega), h2, (digs_iff _ _).2 fun i hi => by rw [hbt i (by omega)]; exact (digs_iff _ _).1 h1 i hi]
    rfl
  have hn : ¬ prE (tx9 (upd (numC N) p b)) = 0 := fun e => by
    have := (prE_good _ hc).1 e
    rw [det_bad N p hp b hpb hb0 hne] at this
    cases this
  unfold prE at hn ⊢
  rw [if_pos hs] at hn ⊢
  cases hr : rgt (tx9 (upd (numC N) p b))
  · rw [if_neg (by simp)]
  · rw [hr, if_pos rfl] at hn
    exact absurd rfl hn
theorem det_near (N p : Nat) (hp : p < 9) (b : Int) (hpb : plc p b = true) (hb0 : 0 ≤ b ∧ b < 256) (hne : numC N p ≠ b) : nearL (tx9 (upd (numC N) p b)) = (catR (upd (numC N) p b) 9).mergeSort leB := by
  have hc := upd_bd (numC_bd N) p hb0
  have hbt : ∀ i, i < 9 → byteAt (tx9 (upd (numC N) p b)) i = upd (numC N) p b i := fun i hi => byteAt_tx9 _ hc hi
  obtain ⟨h1, h2⟩ := det_shape N p hp b hpb hb0 hne
  have hs : shp (tx9 (upd (numC N) p b)) = true := by
    unfold shp
    rw [hbt 8 (by omega), h2, (digs_iff _ _).2 fun i hi => by rw [hbt i (by omega)]; exact (digs_iff _ _).1 h1 i hi]
    rfl
  unfold nearL
  rw [if_pos hs, catR_ext hbt 9 (by omega)]
theorem catR_mem {c : Nat → Int} {k q : Nat} (hq : q < k) {y : List UInt8} (hy : y ∈ rep c q (sy q)) : y ∈ catR c k := by
  induction k with
  | zero => omega
  | succ k ih =>
    show y ∈ catR c k ++ rep c k (sy k)
    rcases Nat.lt_or_ge q k with h | h
    · exact List.mem_append_left _ (ih h)
    · obtain rfl : q = k := by omega
      exact List.mem_append_right _ hy
theorem det_found (N p : Nat) (hp : p < 9) (b : Int) (hpb : plc p b = true) (hb0 : 0 ≤ b ∧ b < 256) (hne : numC N p ≠ b) : tL (numC N) ∈ nearL (tx9 (upd (numC N) p b)) := by
  rw [det_near N p hp b hpb hb0 hne]
  refine (List.mergeSort_perm _ _).mem_iff.2 (catR_mem hp ?_)
  unfold rep
  rw [List.mem_map]
  refine ⟨numC N p, List.mem_filter.2 ⟨?_, ?_⟩, ?_⟩
  · have hpl := good_place (good_num N) hp
    exact sy_mem hp hpl (plc_bd hp (numC_bd N p) hpl)
  · rw [upd_same, upd_upd, upd_self, good_num N]
    simp [hne]
  · show tL (upd (upd (numC N) p b) p (numC N p)) = _
    rw [upd_back]
theorem tL_take {c d : Nat → Int} : ((tL c).take 8 = (tL d).take 8 ↔ ∀ i, i < 8 → UInt8.ofNat (c i).toNat = UInt8.ofNat (d i).toNat) := by
  unfold tL
  simp only [List.take_succ_cons, List.take_zero, List.cons.injEq, and_true]
  constructor
  · rintro ⟨h0, h1, h2, h3, h4, h5, h6, h7⟩ i hi
    obtain rfl | rfl | rfl | rfl | rfl | rfl | rfl | rfl : i = 0 ∨ i = 1 ∨ i = 2 ∨ i = 3 ∨ i = 4 ∨ i = 5 ∨ i = 6 ∨ i = 7 := by omega
    all_goals assumption
  · intro h
    exact ⟨h 0 (by omega), h 1 (by omega), h 2 (by omega), h 3 (by omega), h 4 (by omega), h 5 (by omega), h 6 (by omega), h 7 (by omega)⟩
theorem det_count (N p : Nat) (hp : p < 9) (b : Int) (hpb : plc p b = true) (hb0 : 0 ≤ b ∧ b < 256) (hne : numC N p ≠ b) : (nearL (tx9 (upd (numC N) p b))).countP (fun u => u.take 8 == (tL (upd (numC N) p b)).take 8) = 1 := by
  have hc := upd_bd (numC_bd N) p hb0
  have hbad := det_bad N p hp b hpb hb0 hne
  obtain ⟨h1, h2⟩ := det_shape N p hp b hpb hb0 hne
  rw [det_near N p hp b hpb hb0 hne, (List.mergeSort_perm _ _).countP_eq]
  show (catR (upd (numC N) p b) 8 ++ rep (upd (numC N) p b) 8 (sy 8)).countP _ = 1
  generalize upd (numC N) p b = c at *
  rw [List.countP_append, List.countP_eq_zero.2 fun u hu => ?_]
  · have hL : 0 ≤ lsum c ∧ lsum c < 256 := lett_bd _
    have hlet : isLet (lsum c) = true := by unfold lsum; exact isLet_lett (by omega)
    have hgo : good (upd c 8 (lsum c)) = true := by
      have hd : digs (upd c 8 (lsum c)) 8 = true := (digs_iff _ _).2 fun i hi => by rw [upd_other _ _ (by omega)]; exact (digs_iff _ _).1 h1 i hi
      have hw : lsum (upd c 8 (lsum c)) = lsum c := by
        have := wsum_ext (c := upd c 8 (lsum c)) (d := c) 8 fun i hi => upd_other _ _ (by omega)
        unfold lsum at this ⊢
        rw [this]
      unfold good
      rw [hd, upd_same, hw, hlet]
      simp
    have hne8 : ¬ lsum c = c 8 := fun e => by
      rw [e, upd_self] at hgo
      rw [hgo] at hbad
      cases hbad
    have hrep : rep c 8 (sy 8) = [tL (upd c 8 (lsum c))] := by
      unfold rep
      rw [filter_one (sy_nodup 8) (a := lsum c) (sy_mem (by omega) (by unfold plc; rw [if_neg (by omega)]; exact hlet) (plc_bd (p := 8) (by omega) hL (by unfold plc; rw [if_neg (by omega)]; exact hlet))) fun y hy => ?_]
      · rfl
      · rw [Bool.and_eq_true]
        constructor
        · intro h
          exact good_one (by omega) h.2 hgo
        · rintro rfl
          exact ⟨by simp [hne8], hgo⟩
    rw [hrep]
    have ht : (tL (upd c 8 (lsum c))).take 8 = (tL c).take 8 := rfl
    simp [ht]
  · obtain ⟨q, x, hq, hxne, hx, -, rfl⟩ := catR_form c 8 u hu
    intro e
    have := (tL_take).1 (eq_of_beq e) q (by omega)
    rw [upd_same] at this
    exact hxne (u8_inj hx (hc q) this)
theorem det_len (N p : Nat) (hp : p < 9) (b : Int) (hpb : plc p b = true) (hb0 : 0 ≤ b ∧ b < 256) (hne : numC N p ≠ b) : ∀ u, u ∈ nearL (tx9 (upd (numC N) p b)) → u.length = 9 := fun u hu => by
  rw [det_near N p hp b hpb hb0 hne] at hu
  obtain ⟨q, x, -, -, -, -, rfl⟩ := catR_form _ 9 u ((List.mergeSort_perm _ _).mem_iff.1 hu)
  rfl
theorem det_take (u : List UInt8) : (⟨u.toArray⟩ : ByteArray).extract 0 8 = ⟨(u.take 8).toArray⟩ := by
  apply ByteArray.ext
  rw [ByteArray.data_extract]
  show u.toArray.extract 0 8 = (u.take 8).toArray
  simp
theorem det_mem {xl u : List UInt8} {l : List (List UInt8)} : decide (xl ∈ l ++ [u]) = (decide (xl ∈ l) || (u == xl)) := by
  have e : (u == xl) = decide (xl = u) := by
    by_cases h : xl = u
    · subst h
      simp
    · rw [beq_eq_false_iff_ne.2 (fun e => h e.symm), decide_eq_false h]
  rw [e]
  simp
end Go.Proofs.Ytlionhmmefghmaa
