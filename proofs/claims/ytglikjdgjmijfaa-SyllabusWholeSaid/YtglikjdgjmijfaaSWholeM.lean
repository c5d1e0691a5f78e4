/-
  The shares of all components add up to 1, in numbers.
-/
import Derived.Test.YtglikjdgjmijfaaSShare
import Derived.Test.YtglikjdgjmijfaaSumN
namespace Go.Proofs.Ytglikjdgjmijfaa
set_option linter.unusedSimpArgs false
set_option linter.unusedVariables false

theorem new_q {n d : Int} (hd : 0 < d) : newNum n d = qn n d ∧ newDen n d = qd n d ∧ newErr n d = qe n d := by
  have hs : sgnOf n d = decide (n < 0) := by
    unfold sgnOf
    rw [decide_eq_false (show ¬ d < 0 by omega)]
    cases decide (n < 0) <;> rfl
  unfold newNum newDen newErr qn qd qe
  rw [if_neg (by omega), if_neg (by omega), if_neg (by omega), hs]
  exact ⟨rfl, rfl, rfl⟩
/-- the list of the shares -/
def shF (c : Nat → Int) (W : Int) (i : Nat) : Fr := (qn (c i) W, qd (c i) W)
theorem share_ok {c : Nat → Int} {W : Int} {i : Nat} (hW : 0 < W) (hW1 : W ≤ 6000) (h0 : 0 ≤ c i) (h1 : c i ≤ 1000) : qe (c i) W = 0 ∧ Frac.valid (shF c W i).1 (shF c W i).2 = true ∧ (shF c W i).1 * W = c i * (shF c W i).2 := by
  have he := q_fits (c i) W (by omega) (by omega) (by omega) hW
  obtain ⟨v, e⟩ := q_ok (c i) W hW he
  exact ⟨he, v, e⟩
theorem share_dvd {x y W k : Int} (hv : Frac.valid x y = true) (h : x * W = k * y) : y.natAbs ∣ W.natAbs := by
  obtain ⟨_, _, _, _, hg⟩ := (valid_iff x y).1 hv
  have hd : y.natAbs ∣ x.natAbs * W.natAbs := by
    rw [← Int.natAbs_mul, h, Int.natAbs_mul]
    exact Nat.dvd_mul_left _ _
  exact (Nat.Coprime.symm hg).dvd_of_dvd_mul_left hd
theorem lcm_shares {L : Nat → Fr} {W : Nat} : ∀ {n : Nat}, (∀ i, i < n → (L i).2.natAbs ∣ W) → lcmF L n ∣ W
  | 0, _ => Nat.one_dvd _
  | n + 1, h => Nat.lcm_dvd (lcm_shares fun i hi => h i (by omega)) (h n (by omega))
theorem sum_shares {L : Nat → Fr} {c : Nat → Int} {W D : Int} : ∀ {n : Nat}, (∀ i, i < n → 0 < (L i).2 ∧ (L i).2 ∣ D ∧ (L i).1 * W = c i * (L i).2) → sumF L D n * W = sumN c n * D
  | 0, _ => by show (0 : Int) * W = 0 * D; simp
  | n + 1, h => by
    have ih := sum_shares (n := n) fun i hi => h i (by omega)
    obtain ⟨h1, ⟨z, hz⟩, h3⟩ := h n (by omega)
    show (sumF L D n + (L n).1 * (D / (L n).2)) * W = (sumN c n + c n) * D
    have hq : D / (L n).2 = z := by rw [hz]; exact Int.mul_ediv_cancel_left _ (by omega)
    rw [hq, Int.add_mul, Int.add_mul, ih]
    congr 1
    rw [Int.mul_assoc, Int.mul_comm z W, ← Int.mul_assoc, h3, Int.mul_assoc, ← hz]
theorem whole_one {c : Nat → Int} {n : Nat} (hn : n ≤ 6) (hc : ∀ i, i < n → 0 ≤ c i ∧ c i ≤ 1000) (hW : 0 < sumN c n) :
    sRN (shF c (sumN c n)) n = 1 ∧ sRD (shF c (sumN c n)) n = 1 ∧ sRE (shF c (sumN c n)) n = 0 := by
  have hb := sumN_bd (m := 1000) hc
  have hW1 : sumN c n ≤ 6000 := by omega
  obtain ⟨W, hWW⟩ : ∃ W, sumN c n = W := ⟨_, rfl⟩
  rw [hWW] at hW hW1 ⊢
  have hok := fun i (hi : i < n) => share_ok (c := c) (i := i) hW hW1 (hc i hi).1 (hc i hi).2
  have hp : ∀ i, i < n → 0 < (shF c W i).2 := fun i hi => den_pos' (hok i hi).2.1
  have hdv : lcmF (shF c W) n ∣ W.natAbs := lcm_shares fun i hi => share_dvd (hok i hi).2.1 (hok i hi).2.2
  have hlp := lcmF_pos (shF c W) n hp
  have hle : lcmF (shF c W) n ≤ W.natAbs := Nat.le_of_dvd (by omega) hdv
  have hs := sum_shares (L := shF c W) (c := c) (W := W) (D := (lcmF (shF c W) n : Nat)) (n := n) fun i hi => ⟨hp i hi, by
    have : (shF c W i).2.natAbs ∣ lcmF (shF c W) n := Nat.dvd_trans (Nat.dvd_lcm_right (lcmF (shF c W) i) _) (lcmF_mono (shF c W) (show i + 1 ≤ n by omega))
    exact Int.natAbs_dvd.1 (Int.natCast_dvd_natCast.2 this), (hok i hi).2.2⟩
  rw [hWW, Int.mul_comm W] at hs
  have hsum : sumF (shF c W) (lcmF (shF c W) n : Nat) n = (lcmF (shF c W) n : Nat) := Int.eq_of_mul_eq_mul_right (by omega) hs
  obtain ⟨a, b, d⟩ := sR_yes (L := shF c W) (n := n) (by omega)
  rw [a, b, d]
  unfold ratN ratD ratE
  rw [hsum]
  generalize lcmF (shF c W) n = D at hlp hle
  unfold qn qd qe rnum rden rerr Frac.fit Frac.num Frac.den Frac.M
  rw [Int.natAbs_natCast, Nat.gcd_self, Nat.div_self hlp, decide_eq_false (show ¬ (D : Int) < 0 by omega)]
  decide
end Go.Proofs.Ytglikjdgjmijfaa
