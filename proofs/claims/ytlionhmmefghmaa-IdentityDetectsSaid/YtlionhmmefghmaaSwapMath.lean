/-
  Changed digits change the check letter.
-/
import Derived.Test.YtlionhmmefghmaaBytes
namespace Go.Proofs.Ytlionhmmefghmaa
open Go.RowKit
set_option linter.unusedSimpArgs false
set_option linter.unusedVariables false
set_option maxRecDepth 100000

theorem tdiv_bd {a k : Int} (h0 : -9223372036854775808 ≤ a) (h1 : a < 9223372036854775808) (hk : 1 < k) : -9223372036854775808 ≤ a.tdiv k ∧ a.tdiv k ≤ 9223372036854775807 := by
  have h : (a.tdiv k).natAbs = a.natAbs / k.natAbs := Int.natAbs_tdiv a k
  have h2 : a.natAbs / k.natAbs ≤ a.natAbs / 2 := Nat.div_le_div_left (by omega) (by omega)
  rw [← h] at h2
  clear h
  omega
theorem lett_inj {i j : Nat} (hi : i < 23) (hj : j < 23) (h : lett i = lett j) : i = j := by
  have : ∀ i j : Fin 23, lett i.val = lett j.val → i = j := by decide +kernel
  exact Fin.mk.inj (this ⟨i, hi⟩ ⟨j, hj⟩ h)
/-- one byte replaced -/
def upd (c : Nat → Int) (k : Nat) (x : Int) : Nat → Int := fun j => if j = k then x else c j
theorem upd_same (c : Nat → Int) (k : Nat) (x : Int) : upd c k x k = x := if_pos rfl
theorem upd_other (c : Nat → Int) {k j : Nat} (x : Int) (h : j ≠ k) : upd c k x j = c j := if_neg h
theorem upd_bd {c : Nat → Int} (hc : ∀ i, 0 ≤ c i ∧ c i < 256) (k : Nat) {x : Int} (hx : 0 ≤ x ∧ x < 256) (i : Nat) : 0 ≤ upd c k x i ∧ upd c k x i < 256 := by
  unfold upd
  split
  · exact hx
  · exact hc i
theorem wsum_upd (c : Nat → Int) {k : Nat} (x : Int) {n : Nat} (h : k < n) : wsum (upd c k x) n = wsum c n + ((k : Int) + 1) * (dg x - dg (c k)) := by
  induction n with
  | zero => omega
  | succ n ih =>
    simp only [wsum]
    by_cases e : k = n
    · subst e
      rw [upd_same, wsum_ext k fun i hi => upd_other c x (by omega)]
      grind
    · rw [ih (by omega), upd_other c x (fun h => e h.symm)]
      grind
/-- other digits, the old letter, another sum: not the letter of these digits -/
theorem bad_letter (N : Nat) (c : Nat → Int) (hc : ∀ i, 0 ≤ c i ∧ c i < 256) (hd : digs c 8 = true) (h8 : c 8 = numC N 8) (hw : ¬ wsum c 8 % 23 = wsum (numC N) 8 % 23) : prE (tx9 c) = 24 := by
  have hb : ∀ i, i < 9 → byteAt (tx9 c) i = c i := fun i hi => byteAt_tx9 _ hc hi
  have hd' : digs (byteAt (tx9 c)) 8 = true := (digs_iff _ _).2 fun i hi => by rw [hb i (by omega)]; exact (digs_iff _ _).1 hd i hi
  have hwc : wsum (byteAt (tx9 c)) 8 = wsum c 8 := wsum_ext 8 fun i hi => hb i (by omega)
  have hn : wsum (partC N 0) 8 = wsum (numC N) 8 := wsum_ext 8 fun i hi => by unfold partC numC; rw [if_pos ⟨by omega, hi⟩, if_pos hi]
  have hl : numC N 8 = lett ((wsum (numC N) 8) % 23).toNat := by rw [← hn]; unfold numC; rw [if_neg (by omega)]
  have hs : shp (tx9 c) = true := by
    unfold shp
    rw [hd', hb 8 (by omega), h8, hl, isLet_lett (by omega)]
    rfl
  have hr : rgt (tx9 c) = false := by
    unfold rgt
    rw [hb 8 (by omega), h8, hl, hwc]
    refine beq_eq_false_iff_ne.2 fun e => hw ?_
    have := lett_inj (by omega) (by omega) e
    omega
  unfold prE
  rw [if_pos hs, hr, if_neg (by simp)]
theorem num_digit (N : Nat) {i : Nat} (hi : i < 8) : 48 ≤ numC N i ∧ numC N i ≤ 57 := by
  have := digN_lt N i
  unfold numC
  rw [if_pos hi]
  omega
theorem prod_mod {m d : Int} (hm : -15 ≤ m ∧ m ≤ 15) (hm0 : m ≠ 0) (hd : -9 ≤ d ∧ d ≤ 9) (hd0 : d ≠ 0) : ¬ (m * d) % 23 = 0 := by
  have : ∀ a b : Fin 31, a.val ≠ 15 → b.val ≠ 15 → ¬ (((a.val : Int) - 15) * ((b.val : Int) - 15)) % 23 = 0 := by decide +kernel
  have h := this ⟨(m + 15).toNat, by omega⟩ ⟨(d + 15).toNat, by omega⟩ (by show (m + 15).toNat ≠ 15; omega) (by show (d + 15).toNat ≠ 15; omega)
  have e1 : (((m + 15).toNat : Nat) : Int) - 15 = m := by omega
  have e2 : (((d + 15).toNat : Nat) : Int) - 15 = d := by omega
  rwa [show ((⟨(m + 15).toNat, by omega⟩ : Fin 31).val : Int) - 15 = m from e1, show ((⟨(d + 15).toNat, by omega⟩ : Fin 31).val : Int) - 15 = d from e2] at h
theorem swap_bad (N : Nat) {i k : Nat} (hi : i < 8) (hk : k < 8) (h : numC N i ≠ numC N k) : prE (tx9 (upd (upd (numC N) i (numC N k)) k (numC N i))) = 24 := by
  have hik : i ≠ k := fun e => h (by rw [e])
  have di := num_digit N hi
  have dk := num_digit N hk
  refine bad_letter N _ (upd_bd (upd_bd (numC_bd N) i (numC_bd N k)) k (numC_bd N i)) ((digs_iff _ _).2 fun j hj => ?_) ?_ ?_
  · unfold upd
    split
    · exact di
    · split
      · exact dk
      · exact num_digit N hj
  · rw [upd_other _ _ (by omega), upd_other _ _ (by omega)]
  · rw [wsum_upd _ _ hk, wsum_upd _ _ hi, upd_other _ _ (fun e => hik e.symm)]
    have hp := prod_mod (m := (i : Int) - k) (d := dg (numC N k) - dg (numC N i)) (by omega) (by omega) (by unfold dg; omega) (by unfold dg; omega)
    have e : wsum (numC N) 8 + ((i : Int) + 1) * (dg (numC N k) - dg (numC N i)) + ((k : Int) + 1) * (dg (numC N i) - dg (numC N k)) = wsum (numC N) 8 + ((i : Int) - k) * (dg (numC N k) - dg (numC N i)) := by grind
    rw [e]
    omega
theorem twin_bad (N : Nat) {i : Nat} {x : Int} (hi : i < 7) (hx : 48 ≤ x ∧ x ≤ 57) (he : numC N (i + 1) = numC N i) (h : numC N i ≠ x) : prE (tx9 (upd (upd (numC N) i x) (i + 1) x)) = 24 := by
  have di := num_digit N (show i < 8 by omega)
  refine bad_letter N _ (upd_bd (upd_bd (numC_bd N) i (by omega)) (i + 1) (by omega)) ((digs_iff _ _).2 fun j hj => ?_) ?_ ?_
  · unfold upd
    split
    · exact hx
    · split
      · exact hx
      · exact num_digit N hj
  · rw [upd_other _ _ (by omega), upd_other _ _ (by omega)]
  · rw [wsum_upd _ _ (by omega), wsum_upd _ _ (by omega), upd_other _ _ (by omega), he]
    have hp := prod_mod (m := 2 * (i : Int) + 3) (d := dg x - dg (numC N i)) (by omega) (by omega) (by unfold dg; omega) (by unfold dg; omega)
    have e : wsum (numC N) 8 + ((i : Int) + 1) * (dg x - dg (numC N i)) + (((i + 1 : Nat) : Int) + 1) * (dg x - dg (numC N i)) = wsum (numC N) 8 + (2 * (i : Int) + 3) * (dg x - dg (numC N i)) := by grind
    rw [e]
    omega
theorem fmt_id (a b d : Int) (ha : 0 ≤ a ∧ a ≤ 99) (hb : 0 ≤ b ∧ b ≤ 99) (hd : 0 ≤ d ∧ d ≤ 9999) : ∃ N : Nat, N < 100000000 ∧ fmtS a b d = tx9 (numC N) ∧ fmtE a b d = 0 := by
  have hv : okID a b d = true := (okID_iff _ _ _).2 ⟨ha, hb, hd⟩
  refine ⟨idN a b d, by unfold idN; omega, ?_, ?_⟩
  · unfold fmtS; rw [if_pos hv]
  · unfold fmtE; rw [if_pos hv]
end Go.Proofs.Ytlionhmmefghmaa
