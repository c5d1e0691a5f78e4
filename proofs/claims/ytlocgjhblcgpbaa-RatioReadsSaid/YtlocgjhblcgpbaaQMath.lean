/-
  Fractions in lowest terms: what a numerator and a denominator denote; sums, products, quotients of them.
-/
import Derived.Test.YtlocgjhblcgpbaaQuot
namespace Go.Proofs.Ytlocgjhblcgpbaa
set_option linter.unusedSimpArgs false
set_option linter.unusedVariables false

/-- the fraction N / D in lowest terms: numerator, denominator, code -/
def qn (N D : Int) : Int := rnum (decide (N < 0)) N.natAbs D.natAbs
def qd (N D : Int) : Int := rden N.natAbs D.natAbs
def qe (N D : Int) : Int := rerr N.natAbs D.natAbs
theorem q_scale (k N D : Int) (hk : 0 < k) : qn (k * N) (k * D) = qn N D ∧ qd (k * N) (k * D) = qd N D ∧ qe (k * N) (k * D) = qe N D := by
  have hk' : 0 < k.natAbs := by omega
  have hs : decide (k * N < 0) = decide (N < 0) := by
    by_cases h : N < 0
    · rw [decide_eq_true h, decide_eq_true (Int.mul_neg_of_pos_of_neg hk h)]
    · rw [decide_eq_false h, decide_eq_false (by have := Int.mul_nonneg (Int.le_of_lt hk) (show 0 ≤ N by omega); omega)]
  unfold qn qd qe rnum rden rerr
  rw [hs, Int.natAbs_mul, Int.natAbs_mul, Frac.num_scale _ _ _ _ hk', Frac.den_scale _ _ _ hk', Frac.fit_scale _ _ _ hk']
  exact ⟨rfl, rfl, rfl⟩
theorem valid_iff (n d : Int) : Frac.valid n d = true ↔ 1 ≤ d ∧ d ≤ 1152921504606846976 ∧ -1152921504606846976 ≤ n ∧ n ≤ 1152921504606846976 ∧ Nat.gcd n.natAbs d.natAbs = 1 := by
  unfold Frac.valid
  simp only [Bool.and_eq_true, decide_eq_true_eq, beq_iff_eq]
  constructor
  · rintro ⟨⟨⟨⟨a, b⟩, c⟩, d⟩, e⟩; exact ⟨a, b, c, d, e⟩
  · rintro ⟨a, b, c, d, e⟩; exact ⟨⟨⟨⟨a, b⟩, c⟩, d⟩, e⟩
/-- where it fits: the fraction is valid, and it denotes N / D -/
theorem q_ok (N D : Int) (hD : 0 < D) (he : qe N D = 0) : Frac.valid (qn N D) (qd N D) = true ∧ qn N D * D = N * qd N D := by
  unfold qe rerr at he
  unfold qn qd rnum rden
  have hf : Frac.fit N.natAbs D.natAbs = true := by
    by_cases h : Frac.fit N.natAbs D.natAbs = true
    · exact h
    · rw [if_neg h] at he; omega
  rw [if_pos hf, if_pos hf]
  unfold Frac.fit at hf
  simp only [Bool.and_eq_true, decide_eq_true_eq] at hf
  unfold Frac.M at hf
  obtain ⟨g, hg⟩ : ∃ g, Nat.gcd N.natAbs D.natAbs = g := ⟨_, rfl⟩
  have g0 : 0 < g := by rw [← hg]; exact Nat.gcd_pos_of_pos_right _ (by omega)
  obtain ⟨x, hx⟩ : g ∣ N.natAbs := by rw [← hg]; exact Nat.gcd_dvd_left _ _
  obtain ⟨y, hy⟩ : g ∣ D.natAbs := by rw [← hg]; exact Nat.gcd_dvd_right _ _
  have hc : Nat.gcd x y = 1 := by
    have h1 : Nat.gcd (g * x) (g * y) = g := by rw [← hx, ← hy]; exact hg
    rw [Nat.gcd_mul_left] at h1
    exact Nat.eq_of_mul_eq_mul_left g0 (by omega)
  have hnx : N.natAbs / g = x := by rw [hx]; exact Nat.mul_div_cancel_left _ g0
  have hny : D.natAbs / g = y := by rw [hy]; exact Nat.mul_div_cancel_left _ g0
  rw [hg, hnx, hny] at hf
  have y0 : 0 < y := by
    rcases Nat.eq_zero_or_pos y with h | h
    · subst h; omega
    · exact h
  unfold Frac.num Frac.den
  rw [hg, hnx, hny]
  have hDg : D = (g : Int) * (y : Int) := by rw [← Int.natCast_mul, ← hy]; omega
  by_cases hn : N < 0
  · rw [decide_eq_true hn]
    simp only [if_true]
    have hNg : N = -((g : Int) * (x : Int)) := by rw [← Int.natCast_mul, ← hx]; omega
    refine ⟨(valid_iff _ _).2 ⟨by omega, by omega, by omega, by omega, ?_⟩, ?_⟩
    · rw [Int.natAbs_neg, Int.natAbs_natCast, Int.natAbs_natCast]; exact hc
    · rw [hDg, hNg]
      simp only [Int.neg_mul]
      rw [← Int.mul_assoc, Int.mul_comm (x : Int) (g : Int)]
  · rw [decide_eq_false hn]
    simp only [Bool.false_eq_true, if_false]
    have hNg : N = ((g : Int) * (x : Int)) := by rw [← Int.natCast_mul, ← hx]; omega
    refine ⟨(valid_iff _ _).2 ⟨by omega, by omega, by omega, by omega, ?_⟩, ?_⟩
    · rw [Int.natAbs_natCast, Int.natAbs_natCast]; exact hc
    · rw [hDg, hNg]
      rw [← Int.mul_assoc, Int.mul_comm (x : Int) (g : Int)]
theorem q_fits (N D : Int) (h0 : -1152921504606846976 ≤ N) (h1 : N ≤ 1152921504606846976) (h2 : D ≤ 1152921504606846976) (h3 : 0 < D) : qe N D = 0 := by
  unfold qe rerr
  have a := Nat.div_le_self N.natAbs (Nat.gcd N.natAbs D.natAbs)
  have b := Nat.div_le_self D.natAbs (Nat.gcd N.natAbs D.natAbs)
  rw [if_pos]
  unfold Frac.fit Frac.M
  rw [decide_eq_true (show N.natAbs / Nat.gcd N.natAbs D.natAbs ≤ 1152921504606846976 by omega), decide_eq_true (show D.natAbs / Nat.gcd N.natAbs D.natAbs ≤ 1152921504606846976 by omega)]
  rfl
theorem coprime_eq {a b c d : Nat} (h1 : Nat.gcd a b = 1) (h2 : Nat.gcd c d = 1) (hb : 0 < b) (hd : 0 < d) (h : a * d = c * b) : a = c ∧ b = d := by
  have k1 : b ∣ d := (Nat.Coprime.symm (show Nat.Coprime a b from h1)).dvd_of_dvd_mul_left (by rw [h]; exact Nat.dvd_mul_left _ _)
  have k2 : d ∣ b := (Nat.Coprime.symm (show Nat.Coprime c d from h2)).dvd_of_dvd_mul_left (by rw [← h]; exact Nat.dvd_mul_left _ _)
  have e : b = d := Nat.dvd_antisymm k1 k2
  subst e
  exact ⟨Nat.eq_of_mul_eq_mul_right hb h, rfl⟩
/-- valid fractions that denote one number are one fraction -/
theorem valid_eq {a b c d : Int} (h1 : Frac.valid a b = true) (h2 : Frac.valid c d = true) (h : a * d = c * b) : a = c ∧ b = d := by
  obtain ⟨b1, -, -, -, g1⟩ := (valid_iff a b).1 h1
  obtain ⟨d1, -, -, -, g2⟩ := (valid_iff c d).1 h2
  have hn : a.natAbs * d.natAbs = c.natAbs * b.natAbs := by rw [← Int.natAbs_mul, ← Int.natAbs_mul, h]
  obtain ⟨e1, e2⟩ := coprime_eq g1 g2 (by omega) (by omega) hn
  have e3 : b = d := by omega
  subst e3
  exact ⟨Int.eq_of_mul_eq_mul_right (by omega) h, rfl⟩
/-- a valid fraction is its own lowest terms -/
theorem q_self {a b : Int} (h : Frac.valid a b = true) : qn a b = a ∧ qd a b = b ∧ qe a b = 0 := by
  obtain ⟨b1, b2, a1, a2, g⟩ := (valid_iff a b).1 h
  have he := q_fits a b a1 a2 b2 (by omega)
  obtain ⟨v, e⟩ := q_ok a b (by omega) he
  obtain ⟨x, y⟩ := valid_eq v h e
  exact ⟨x, y, he⟩
/-- the value decides: two spellings of one number -/
theorem q_congr {N D N' D' : Int} (hD : 0 < D) (hD' : 0 < D') (h : N * D' = N' * D) : qn N D = qn N' D' ∧ qd N D = qd N' D' ∧ qe N D = qe N' D' := by
  obtain ⟨a1, a2, a3⟩ := q_scale D' N D hD'
  obtain ⟨b1, b2, b3⟩ := q_scale D N' D' hD
  have e1 : D' * N = D * N' := by rw [Int.mul_comm D' N, h, Int.mul_comm]
  have e2 : D' * D = D * D' := Int.mul_comm _ _
  rw [e1, e2] at a1 a2 a3
  exact ⟨a1.symm.trans b1, a2.symm.trans b2, a3.symm.trans b3⟩
/-- the numerator over the least common multiple has no divisor in common with the factor -/
theorem add_coprime (a b c d g : Int) (hab : Nat.gcd a.natAbs b.natAbs = 1) (hb : 0 < b) (hd : 0 < d) (hg : (Nat.gcd b.natAbs d.natAbs : Int) = g) :
    Nat.gcd (a * (d / g) + c * (b / g)).natAbs (b / g).natAbs = 1 := by
  have g0 : 0 < g := by rw [← hg]; have := Nat.gcd_pos_of_pos_left d.natAbs (show 0 < b.natAbs by omega); omega
  obtain ⟨y, hy⟩ : g ∣ d := by rw [← hg]; exact Int.ofNat_dvd_left.2 (Nat.gcd_dvd_right _ _)
  obtain ⟨x, hx⟩ : g ∣ b := by rw [← hg]; exact Int.ofNat_dvd_left.2 (Nat.gcd_dvd_left _ _)
  have ex : b / g = x := by rw [hx]; exact Int.mul_ediv_cancel_left _ (by omega)
  have ey : d / g = y := by rw [hy]; exact Int.mul_ediv_cancel_left _ (by omega)
  rw [ex, ey]
  have hxy : Nat.gcd x.natAbs y.natAbs = 1 := by
    have h1 : Nat.gcd (g.natAbs * x.natAbs) (g.natAbs * y.natAbs) = g.natAbs := by rw [← Int.natAbs_mul, ← Int.natAbs_mul, ← hx, ← hy]; omega
    rw [Nat.gcd_mul_left] at h1
    exact Nat.eq_of_mul_eq_mul_left (show 0 < g.natAbs by omega) (by omega)
  have hax : Nat.gcd a.natAbs x.natAbs = 1 := by
    have : x.natAbs ∣ b.natAbs := by rw [hx, Int.natAbs_mul]; exact Nat.dvd_mul_left _ _
    exact Nat.Coprime.coprime_dvd_right this hab
  have hay : Nat.gcd (a * y).natAbs x.natAbs = 1 := by
    rw [Int.natAbs_mul]
    exact Nat.Coprime.mul_left hax (Nat.Coprime.symm hxy)
  have h : Int.gcd (a * y + c * x) x = 1 := by
    rw [Int.gcd_add_mul_right_left]; exact hay
  exact h
theorem add_scale (a b c d g : Int) (hb : 0 < b) (hd : 0 < d) (hg : (Nat.gcd b.natAbs d.natAbs : Int) = g) :
    g * (a * (d / g) + c * (b / g)) = a * d + c * b ∧ g * (d * (b / g)) = b * d ∧ 0 < g ∧ 0 < b / g ∧ b / g ≤ b ∧ 0 < d / g ∧ d / g ≤ d := by
  have g0 : 0 < g := by rw [← hg]; have := Nat.gcd_pos_of_pos_left d.natAbs (show 0 < b.natAbs by omega); omega
  obtain ⟨y, hy⟩ : g ∣ d := by rw [← hg]; exact Int.ofNat_dvd_left.2 (Nat.gcd_dvd_right _ _)
  obtain ⟨x, hx⟩ : g ∣ b := by rw [← hg]; exact Int.ofNat_dvd_left.2 (Nat.gcd_dvd_left _ _)
  have ex : b / g = x := by rw [hx]; exact Int.mul_ediv_cancel_left _ (by omega)
  have ey : d / g = y := by rw [hy]; exact Int.mul_ediv_cancel_left _ (by omega)
  have x0 : 0 < x := by
    rcases Int.lt_or_le 0 x with h | h
    · exact h
    · have := Int.mul_nonpos_of_nonneg_of_nonpos (Int.le_of_lt g0) h; omega
  have y0 : 0 < y := by
    rcases Int.lt_or_le 0 y with h | h
    · exact h
    · have := Int.mul_nonpos_of_nonneg_of_nonpos (Int.le_of_lt g0) h; omega
  rw [ex, ey]
  refine ⟨?_, ?_, g0, x0, ?_, y0, ?_⟩
  · rw [hx, hy, Int.mul_add, ← Int.mul_assoc, ← Int.mul_assoc, Int.mul_comm g a, Int.mul_comm g c, Int.mul_assoc, Int.mul_assoc]
  · rw [hx, hy]; simp only [Int.mul_comm, Int.mul_left_comm]
  · have := Int.mul_le_mul_of_nonneg_right (show (1:Int) ≤ g by omega) (Int.le_of_lt x0); rw [hx]; omega
  · have := Int.mul_le_mul_of_nonneg_right (show (1:Int) ≤ g by omega) (Int.le_of_lt y0); rw [hy]; omega
theorem mul_coprime (a b c g : Int) (hab : Nat.gcd a.natAbs b.natAbs = 1) (hb : 0 < b) (hg : (Nat.gcd c.natAbs b.natAbs : Int) = g) :
    Nat.gcd (a * (c / g)).natAbs (b / g).natAbs = 1 := by
  have g0 : 0 < g := by rw [← hg]; have := Nat.gcd_pos_of_pos_right c.natAbs (show 0 < b.natAbs by omega); omega
  obtain ⟨y, hy⟩ : g ∣ c := by rw [← hg]; exact Int.ofNat_dvd_left.2 (Nat.gcd_dvd_left _ _)
  obtain ⟨x, hx⟩ : g ∣ b := by rw [← hg]; exact Int.ofNat_dvd_left.2 (Nat.gcd_dvd_right _ _)
  have ex : b / g = x := by rw [hx]; exact Int.mul_ediv_cancel_left _ (by omega)
  have ey : c / g = y := by rw [hy]; exact Int.mul_ediv_cancel_left _ (by omega)
  rw [ex, ey, Int.natAbs_mul]
  have hxy : Nat.gcd y.natAbs x.natAbs = 1 := by
    have h1 : Nat.gcd (g.natAbs * y.natAbs) (g.natAbs * x.natAbs) = g.natAbs := by rw [← Int.natAbs_mul, ← Int.natAbs_mul, ← hx, ← hy]; omega
    rw [Nat.gcd_mul_left] at h1
    exact Nat.eq_of_mul_eq_mul_left (show 0 < g.natAbs by omega) (by omega)
  have hax : Nat.gcd a.natAbs x.natAbs = 1 := by
    have : x.natAbs ∣ b.natAbs := by rw [hx, Int.natAbs_mul]; exact Nat.dvd_mul_left _ _
    exact Nat.Coprime.coprime_dvd_right this hab
  exact Nat.Coprime.mul_left hax hxy
theorem mul_scale (a b c d g : Int) (hb : 0 < b) (hd : 0 < d) (hg : (Nat.gcd c.natAbs b.natAbs : Int) = g) :
    g * (a * (c / g)) = a * c ∧ g * (d * (b / g)) = b * d ∧ 0 < g ∧ 0 < b / g ∧ b / g ≤ b ∧ (c / g).natAbs ≤ c.natAbs ∧ c.tdiv g = c / g := by
  have g0 : 0 < g := by rw [← hg]; have := Nat.gcd_pos_of_pos_right c.natAbs (show 0 < b.natAbs by omega); omega
  obtain ⟨y, hy⟩ : g ∣ c := by rw [← hg]; exact Int.ofNat_dvd_left.2 (Nat.gcd_dvd_left _ _)
  obtain ⟨x, hx⟩ : g ∣ b := by rw [← hg]; exact Int.ofNat_dvd_left.2 (Nat.gcd_dvd_right _ _)
  have ex : b / g = x := by rw [hx]; exact Int.mul_ediv_cancel_left _ (by omega)
  have ey : c / g = y := by rw [hy]; exact Int.mul_ediv_cancel_left _ (by omega)
  have x0 : 0 < x := by
    rcases Int.lt_or_le 0 x with h | h
    · exact h
    · have := Int.mul_nonpos_of_nonneg_of_nonpos (Int.le_of_lt g0) h; omega
  rw [ex, ey]
  refine ⟨?_, ?_, g0, x0, ?_, ?_, ?_⟩
  · rw [hy, ← Int.mul_assoc, Int.mul_comm g a, Int.mul_assoc]
  · rw [hx]; simp only [Int.mul_comm, Int.mul_left_comm]
  · have := Int.mul_le_mul_of_nonneg_right (show (1:Int) ≤ g by omega) (Int.le_of_lt x0); rw [hx]; omega
  · rw [hy, Int.natAbs_mul]; exact Nat.le_mul_of_pos_left _ (by omega)
  · rw [hy]; exact Int.mul_tdiv_cancel_left _ (by omega)
/-- the valid fraction p / q denotes N / D, and how great N and D may be -/
structure Q (p q N D : Int) (A B : Nat) : Prop where
  v : Frac.valid p q = true
  e : p * D = N * q
  d : 0 < D
  n : N.natAbs ≤ A
  m : D.natAbs ≤ B
theorem q_le {N D : Int} (hD : 0 < D) (he : qe N D = 0) : (qn N D).natAbs ≤ N.natAbs ∧ (qd N D).natAbs ≤ D.natAbs := by
  have hf : Frac.fit N.natAbs D.natAbs = true := by
    unfold qe rerr at he
    by_cases h : Frac.fit N.natAbs D.natAbs = true
    · exact h
    · rw [if_neg h] at he; omega
  unfold qn qd rnum rden Frac.num Frac.den
  rw [if_pos hf, if_pos hf]
  have a := Nat.div_le_self N.natAbs (Nat.gcd N.natAbs D.natAbs)
  have b := Nat.div_le_self D.natAbs (Nat.gcd N.natAbs D.natAbs)
  generalize N.natAbs / Nat.gcd N.natAbs D.natAbs = x at a ⊢
  generalize D.natAbs / Nat.gcd N.natAbs D.natAbs = y at b ⊢
  refine ⟨?_, by omega⟩
  split <;> omega
theorem Q.of {N D : Int} {A B : Nat} (d : 0 < D) (n : N.natAbs ≤ A) (m : D.natAbs ≤ B) (hA : A ≤ 1152921504606846976) (hB : B ≤ 1152921504606846976) : Q (qn N D) (qd N D) N D A B ∧ qe N D = 0 := by
  have he := q_fits N D (by omega) (by omega) (by omega) d
  obtain ⟨v, e⟩ := q_ok N D d he
  exact ⟨⟨v, e, d, n, m⟩, he⟩
theorem Q.den {p q N D : Int} {A B : Nat} (h : Q p q N D A B) : 0 < q := by have := ((valid_iff p q).1 h.v).1; omega
theorem abs_mul_le {x y : Int} {A B : Nat} (hx : x.natAbs ≤ A) (hy : y.natAbs ≤ B) : (x * y).natAbs ≤ A * B := by rw [Int.natAbs_mul]; exact Nat.mul_le_mul hx hy
theorem Q.add {p q N D p' q' N' D' : Int} {A B A' B' : Nat} (h : Q p q N D A B) (k : Q p' q' N' D' A' B') (hA : A * B' + A' * B ≤ 1152921504606846976) (hB : B * B' ≤ 1152921504606846976) :
    Q (qn (p * q' + p' * q) (q * q')) (qd (p * q' + p' * q) (q * q')) (N * D' + N' * D) (D * D') (A * B' + A' * B) (B * B') ∧ qe (p * q' + p' * q) (q * q') = 0 := by
  have h1 := h.e
  have k1 := k.e
  obtain ⟨e1, e2, e3⟩ := q_congr (N := p * q' + p' * q) (D := q * q') (N' := N * D' + N' * D) (D' := D * D') (Int.mul_pos h.den k.den) (Int.mul_pos h.d k.d) (by grind)
  rw [e1, e2, e3]
  refine Q.of (Int.mul_pos h.d k.d) ?_ (abs_mul_le h.m k.m) hA hB
  have a := abs_mul_le h.n k.m
  have b := abs_mul_le k.n h.m
  omega
theorem Q.sub {p q N D p' q' N' D' : Int} {A B A' B' : Nat} (h : Q p q N D A B) (k : Q p' q' N' D' A' B') (hA : A * B' + A' * B ≤ 1152921504606846976) (hB : B * B' ≤ 1152921504606846976) :
    Q (qn (p * q' + -p' * q) (q * q')) (qd (p * q' + -p' * q) (q * q')) (N * D' - N' * D) (D * D') (A * B' + A' * B) (B * B') ∧ qe (p * q' + -p' * q) (q * q') = 0 := by
  have h1 := h.e
  have k1 := k.e
  obtain ⟨e1, e2, e3⟩ := q_congr (N := p * q' + -p' * q) (D := q * q') (N' := N * D' - N' * D) (D' := D * D') (Int.mul_pos h.den k.den) (Int.mul_pos h.d k.d) (by grind)
  rw [e1, e2, e3]
  refine Q.of (Int.mul_pos h.d k.d) ?_ (abs_mul_le h.m k.m) hA hB
  have a := abs_mul_le h.n k.m
  have b := abs_mul_le k.n h.m
  omega
theorem Q.mul {p q N D p' q' N' D' : Int} {A B A' B' : Nat} (h : Q p q N D A B) (k : Q p' q' N' D' A' B') (hA : A * A' ≤ 1152921504606846976) (hB : B * B' ≤ 1152921504606846976) :
    Q (qn (p * p') (q * q')) (qd (p * p') (q * q')) (N * N') (D * D') (A * A') (B * B') ∧ qe (p * p') (q * q') = 0 := by
  have h1 := h.e
  have k1 := k.e
  obtain ⟨e1, e2, e3⟩ := q_congr (N := p * p') (D := q * q') (N' := N * N') (D' := D * D') (Int.mul_pos h.den k.den) (Int.mul_pos h.d k.d) (by grind)
  rw [e1, e2, e3]
  exact Q.of (Int.mul_pos h.d k.d) (abs_mul_le h.n k.n) (abs_mul_le h.m k.m) hA hB
theorem Q.same {p q N D p' q' N' D' : Int} {A B A' B' : Nat} (h : Q p q N D A B) (k : Q p' q' N' D' A' B') (e : N * D' = N' * D) : p = p' ∧ q = q' := by
  have h1 := h.e
  have k1 := k.e
  have hd := h.d
  have kd := k.d
  refine valid_eq h.v k.v ?_
  have e2 : (p * q') * (D * D') = (p' * q) * (D * D') := by grind
  exact Int.eq_of_mul_eq_mul_right (by have := Int.mul_pos hd kd; omega) e2
/-- dividing a product by one of its factors -/
theorem Q.divPos {p q N D a b c d : Int} {A B : Nat} (h : Q p q N D A B) (hab : Frac.valid a b = true) (hN : N = a * c) (hD : D = b * d) (hc : 0 < c) (hd : 0 < d) : qn (p * d) (q * c) = a ∧ qd (p * d) (q * c) = b ∧ qe (p * d) (q * c) = 0 := by
  have h1 := h.e
  have hb : 0 < b := by have := ((valid_iff a b).1 hab).1; omega
  obtain ⟨e1, e2, e3⟩ := q_congr (N := p * d) (D := q * c) (N' := a) (D' := b) (Int.mul_pos h.den hc) hb (by grind)
  rw [e1, e2, e3]
  exact q_self hab
theorem Q.divNeg {p q N D a b c d : Int} {A B : Nat} (h : Q p q N D A B) (hab : Frac.valid a b = true) (hN : N = a * c) (hD : D = b * d) (hc : c < 0) (hd : 0 < d) : qn (p * -d) (q * -c) = a ∧ qd (p * -d) (q * -c) = b ∧ qe (p * -d) (q * -c) = 0 := by
  have h1 := h.e
  have hb : 0 < b := by have := ((valid_iff a b).1 hab).1; omega
  obtain ⟨e1, e2, e3⟩ := q_congr (N := p * -d) (D := q * -c) (N' := a) (D' := b) (Int.mul_pos h.den (by omega)) hb (by grind)
  rw [e1, e2, e3]
  exact q_self hab
/-- Valid of the opposite, and of the reciprocal -/
theorem valid_neg {a b : Int} (h : Frac.valid a b = true) : Frac.valid (-a) b = true := by
  obtain ⟨h1, h2, h3, h4, h5⟩ := (valid_iff a b).1 h
  exact (valid_iff _ _).2 ⟨h1, h2, by omega, by omega, by rw [Int.natAbs_neg]; exact h5⟩
theorem valid_inv {a b : Int} (h : Frac.valid a b = true) (ha : 0 < a) : Frac.valid b a = true := by
  obtain ⟨h1, h2, h3, h4, h5⟩ := (valid_iff a b).1 h
  exact (valid_iff _ _).2 ⟨by omega, by omega, by omega, by omega, by rw [Nat.gcd_comm]; exact h5⟩
theorem valid_invNeg {a b : Int} (h : Frac.valid a b = true) (ha : a < 0) : Frac.valid (-b) (-a) = true := by
  obtain ⟨h1, h2, h3, h4, h5⟩ := (valid_iff a b).1 h
  exact (valid_iff _ _).2 ⟨by omega, by omega, by omega, by omega, by rw [Int.natAbs_neg, Int.natAbs_neg, Nat.gcd_comm]; exact h5⟩
theorem field_1 (a b c d e f : Int) : ((a * d + c * b) * f + e * (b * d)) * (b * (d * f)) = (a * (d * f) + (c * f + e * d) * b) * (b * d * f) := by grind
theorem field_2 (a b c d e f : Int) : (a * (c * f + e * d)) * (b * d * (b * f)) = ((a * c) * (b * f) + (a * e) * (b * d)) * (b * (d * f)) := by grind
theorem field_3 (a b c d : Int) : ((a * d + c * b) * d - c * (b * d)) * b = a * (b * d * d) := by grind
end Go.Proofs.Ytlocgjhblcgpbaa
