set_option linter.unusedVariables false
/-! Plain arithmetic of one step of the long division of two words by one. -/
namespace DivMath
theorem tq (b yn1 yn0 u c q r : Nat) (h : q * yn1 + r = u) : (u * b + c) + q * yn0 = q * (yn1 * b + yn0) + (b * r + c) := by
  subst h
  rw [Nat.mul_add, Nat.add_mul, Nat.mul_assoc, Nat.mul_comm r b]; omega
theorem qhat_le (b yn1 yn0 u : Nat) (hb : b ≤ 2 * yn1) (h0 : yn0 < b) (hu : u < yn1 * b + yn0) : u / yn1 ≤ b + 1 := by
  have hy : 0 < yn1 := by omega
  have : u < (b + 2) * yn1 := by rw [Nat.add_mul, Nat.mul_comm b yn1]; omega
  have := (Nat.div_lt_iff_lt_mul hy).2 this
  omega
theorem quo_le_qhat (b yn1 yn0 u c : Nat) (hc : c < b) (hy : 0 < yn1) : (u * b + c) / (yn1 * b + yn0) ≤ u / yn1 := by
  have hb : 0 < b := by omega
  have h1 : (u * b + c) / (yn1 * b + yn0) ≤ (u * b + c) / (yn1 * b) := Nat.div_le_div_left (Nat.le_add_right _ _) (Nat.mul_pos hy hb)
  have h2 : (u * b + c) / (yn1 * b) = u / yn1 := by
    rw [Nat.mul_comm yn1 b, ← Nat.div_div_eq_div_mul, Nat.mul_comm u b, Nat.mul_add_div hb, Nat.div_eq_of_lt hc, Nat.add_zero]
  omega
theorem quo_lt (b v u c : Nat) (hc : c < b) (hu : u < v) : (u * b + c) / v < b := by
  rw [Nat.div_lt_iff_lt_mul (by omega)]
  have : (u + 1) * b ≤ v * b := Nat.mul_le_mul_right b hu
  rw [Nat.add_mul, Nat.one_mul] at this
  rw [Nat.mul_comm b v]; omega
theorem go_on (T v q : Nat) (hv : 0 < v) (h : T < q * v) : T / v < q := (Nat.div_lt_iff_lt_mul hv).2 h
theorem stop (T v q : Nat) (hv : 0 < v) (hq : T / v ≤ q) (h : q * v ≤ T) : T / v = q := by
  have := (Nat.le_div_iff_mul_le hv).2 h
  omega
theorem test_iff (b yn1 yn0 u c q r : Nat) (h : q * yn1 + r = u) : (b * r + c < q * yn0) ↔ (u * b + c < q * (yn1 * b + yn0)) := by
  have := tq b yn1 yn0 u c q r h
  omega
theorem stop_big (b yn1 yn0 u c q r : Nat) (h : q * yn1 + r = u) (h0 : yn0 < b) (hq : q ≤ b) (hr : b ≤ r) : q * (yn1 * b + yn0) ≤ u * b + c := by
  have h1 : q * yn0 ≤ b * b := Nat.mul_le_mul hq (by omega)
  have h2 : b * b ≤ b * r := Nat.mul_le_mul_left b hr
  have := tq b yn1 yn0 u c q r h
  omega
/-- the two steps together -/
theorem two_steps (b v U un1 un0 Q1 R1 Q0 R0 : Nat) (hv : 0 < v) (hQ1 : Q1 = (U * b + un1) / v) (hR1 : R1 = (U * b + un1) % v) (hQ0 : Q0 = (R1 * b + un0) / v) (hR0 : R0 = (R1 * b + un0) % v) :
    ((U * b + un1) * b + un0) / v = Q1 * b + Q0 ∧ ((U * b + un1) * b + un0) % v = R0 := by
  have h1 : U * b + un1 = v * Q1 + R1 := by rw [hQ1, hR1]; exact (Nat.div_add_mod _ _).symm
  have h2 : (U * b + un1) * b + un0 = v * (Q1 * b) + (R1 * b + un0) := by
    rw [h1, Nat.add_mul, Nat.mul_assoc]; omega
  constructor
  · rw [h2, Nat.mul_add_div hv, hQ0]
  · rw [h2, Nat.mul_add_mod, hR0]
theorem unshift_quo (n y p : Nat) (hp : 0 < p) : (n * p) / (y * p) = n / y := Nat.mul_div_mul_right n y hp
theorem unshift_rem (n y p : Nat) (hp : 0 < p) : (n * p) % (y * p) / p = n % y := by
  rw [Nat.mul_mod_mul_right, Nat.mul_div_cancel _ hp]
end DivMath
namespace Rep
theorem hi_lt (z : Int) : 0 ≤ z / 18446744073709551616 % 18446744073709551616 ∧ z / 18446744073709551616 % 18446744073709551616 < 18446744073709551616 := by omega
def hi (z : Int) : Int := z / 18446744073709551616 % 18446744073709551616
def lo (z : Int) : Int := z % 18446744073709551616
def val (h l : Int) : Int := h * 18446744073709551616 + l
theorem hi_bd (z : Int) : 0 ≤ hi z ∧ hi z < 18446744073709551616 := by unfold hi; omega
theorem lo_bd (z : Int) : 0 ≤ lo z ∧ lo z < 18446744073709551616 := by unfold lo; omega
theorem hi_val (h l : Int) (h0 : 0 ≤ h) (h1 : h < 18446744073709551616) (l0 : 0 ≤ l) (l1 : l < 18446744073709551616) : hi (val h l) = h := by unfold hi val; omega
theorem lo_val (h l : Int) (l0 : 0 ≤ l) (l1 : l < 18446744073709551616) : lo (val h l) = l := by unfold lo val; omega
theorem val_hi_lo (z : Int) (h0 : 0 ≤ z) (h1 : z < 340282366920938463463374607431768211456) : val (hi z) (lo z) = z := by unfold hi lo val; omega
theorem plus_lo (x y : Int) : (lo x + lo y) % 18446744073709551616 = lo (x + y) := by unfold lo; omega
theorem plus_hi (x y : Int) : (hi x + hi y + (lo x + lo y) / 18446744073709551616) % 18446744073709551616 = hi (x + y) := by unfold hi lo; omega
theorem neg_lo (x : Int) : (18446744073709551615 - lo x + 1) % 18446744073709551616 = lo (-x) := by unfold lo; omega
theorem neg_hi (x : Int) : (18446744073709551615 - hi x + 0 + (18446744073709551615 - lo x + 1) / 18446744073709551616) % 18446744073709551616 = hi (-x) := by unfold hi lo; omega
theorem negative (x : Int) (h0 : -170141183460469231731687303715884105728 ≤ x) (h1 : x < 170141183460469231731687303715884105728) : (9223372036854775808 ≤ hi x) ↔ x < 0 := by unfold hi; omega
/-- a word as a signed one -/
def sg (h : Int) : Int := if 9223372036854775808 ≤ h then h - 18446744073709551616 else h
theorem sg_hi (x : Int) (h0 : -170141183460469231731687303715884105728 ≤ x) (h1 : x < 170141183460469231731687303715884105728) : sg (hi x) * 18446744073709551616 + lo x = x := by
  unfold sg hi lo; split <;> omega
theorem cmp_lt (x y : Int) (hx0 : -170141183460469231731687303715884105728 ≤ x) (hx1 : x < 170141183460469231731687303715884105728) (hy0 : -170141183460469231731687303715884105728 ≤ y) (hy1 : y < 170141183460469231731687303715884105728) :
    (x < y ↔ sg (hi x) < sg (hi y) ∨ (sg (hi x) = sg (hi y) ∧ lo x < lo y)) := by
  have a := sg_hi x hx0 hx1; have b := sg_hi y hy0 hy1; have c := lo_bd x; have d := lo_bd y
  constructor <;> intro h <;> omega
theorem hi_nat (x y : Nat) (h : x * y < 340282366920938463463374607431768211456) : ((x * y / 18446744073709551616 : Nat) : Int) = hi ((x * y : Nat) : Int) := by unfold hi; omega
theorem lo_nat (x y : Nat) : ((x * y % 18446744073709551616 : Nat) : Int) = lo ((x * y : Nat) : Int) := by unfold lo; omega
theorem mul_lt_sq (x y : Nat) (hx : x < 18446744073709551616) (hy : y < 18446744073709551616) : x * y < 340282366920938463463374607431768211456 := by
  have : x * y ≤ 18446744073709551615 * 18446744073709551615 := Nat.mul_le_mul (by omega) (by omega)
  omega
def addLo (x y c : Int) : Int := (x + y + c) % 18446744073709551616
def addHi (x y c : Int) : Int := (x + y + c) / 18446744073709551616
theorem addLo_bd (x y c : Int) : 0 ≤ addLo x y c ∧ addLo x y c < 18446744073709551616 := by unfold addLo; omega
theorem addHi_bd (x y c : Int) (x0 : 0 ≤ x) (y0 : 0 ≤ y) (c0 : 0 ≤ c) (x1 : x < 18446744073709551616) (y1 : y < 18446744073709551616) (c1 : c ≤ 1) : 0 ≤ addHi x y c ∧ addHi x y c ≤ 1 := by unfold addHi; omega
theorem sum_lo (a b c d : Int) : addLo b d 0 = lo (val a b + val c d) := by unfold addLo lo val; omega
theorem sum_hi (a b c d : Int) (b0 : 0 ≤ b) (d0 : 0 ≤ d) : addLo a c (addHi b d 0) = hi (val a b + val c d) := by unfold addLo addHi hi val; omega
def subLo (x y c : Int) : Int := (x - y - c) % 18446744073709551616
def subHi (x y c : Int) : Int := if x < y + c then 1 else 0
theorem subLo_bd (x y c : Int) : 0 ≤ subLo x y c ∧ subLo x y c < 18446744073709551616 := by unfold subLo; omega
theorem subHi_bd (x y c : Int) : 0 ≤ subHi x y c ∧ subHi x y c ≤ 1 := by unfold subHi; split <;> omega
theorem dif_lo (a b c d : Int) : subLo b d 0 = lo (val a b - val c d) := by unfold subLo lo val; omega
theorem dif_hi (a b c d : Int) (b0 : 0 ≤ b) (b1 : b < 18446744073709551616) (d0 : 0 ≤ d) (d1 : d < 18446744073709551616) : subLo a c (subHi b d 0) = hi (val a b - val c d) := by unfold subLo subHi hi val; split <;> omega
/-- the bits of a word turned round -/
def flip (x : Int) : Int := 18446744073709551615 - x
theorem flip_bd (x : Int) (h0 : 0 ≤ x) (h1 : x < 18446744073709551616) : 0 ≤ flip x ∧ flip x < 18446744073709551616 := by unfold flip; omega
theorem neg_hi' (a b : Int) : hi (val (flip a) (flip b) + val 0 1) = hi (-(val a b)) := by unfold hi val flip; omega
theorem neg_lo' (a b : Int) : lo (val (flip a) (flip b) + val 0 1) = lo (-(val a b)) := by unfold lo val flip; omega
theorem hi_val_hi (x : Int) : hi (val (hi x) (lo x)) = hi x := by unfold hi lo val; omega
theorem hi_congr_add (x y : Int) : hi (val (hi x) (lo x) + val (hi y) (lo y)) = hi (x + y) := by unfold hi lo val; omega
theorem lo_congr_add (x y : Int) : lo (val (hi x) (lo x) + val (hi y) (lo y)) = lo (x + y) := by unfold hi lo val; omega
def sgn (s : Bool) (z : Int) : Int := if s then -z else z
theorem hi_congr_sgn (s : Bool) (x : Int) : hi (sgn s (val (hi x) (lo x))) = hi (sgn s x) := by
  cases s
  · show hi (val (hi x) (lo x)) = hi x
    unfold hi lo val; omega
  · show hi (-(val (hi x) (lo x))) = hi (-x)
    unfold hi lo val; omega
theorem lo_congr_sgn (s : Bool) (x : Int) : lo (sgn s (val (hi x) (lo x))) = lo (sgn s x) := by
  cases s
  · show lo (val (hi x) (lo x)) = lo x
    unfold hi lo val; omega
  · show lo (-(val (hi x) (lo x))) = lo (-x)
    unfold hi lo val; omega
/-- the product of two integers out of the product of their magnitudes -/
theorem sgn_prod (a b : Int) : sgn (!decide (a < 0) == decide (b < 0)) ((a.natAbs : Int) * (b.natAbs : Int)) = a * b := by
  by_cases h1 : a < 0 <;> by_cases h2 : b < 0 <;> simp only [h1, h2, sgn, decide_true, decide_false]
  · rw [show (a.natAbs : Int) = -a by omega, show (b.natAbs : Int) = -b by omega]; simp [Int.neg_mul_neg]
  · rw [show (a.natAbs : Int) = -a by omega, show (b.natAbs : Int) = b by omega]; simp [Int.neg_mul]
  · rw [show (a.natAbs : Int) = a by omega, show (b.natAbs : Int) = -b by omega]; simp [Int.mul_neg]
  · rw [show (a.natAbs : Int) = a by omega, show (b.natAbs : Int) = b by omega]; simp
theorem hi_congr_neg (x : Int) : hi (-(val (hi x) (lo x))) = hi (-x) := by unfold hi lo val; omega
theorem lo_congr_neg (x : Int) : lo (-(val (hi x) (lo x))) = lo (-x) := by unfold hi lo val; omega
end Rep
namespace Frac
def M : Nat := 1152921504606846976
/-- the fraction with this sign, numerator and denominator, in lowest terms, and the code -/
def num (neg : Bool) (n d : Nat) : Int := if neg then -((n / Nat.gcd n d : Nat) : Int) else ((n / Nat.gcd n d : Nat) : Int)
def den (n d : Nat) : Int := ((d / Nat.gcd n d : Nat) : Int)
def fit (n d : Nat) : Bool := decide (n / Nat.gcd n d ≤ M) && decide (d / Nat.gcd n d ≤ M)
theorem gcd_step (n d f : Nat) (h : Nat.gcd n f = 1) : Nat.gcd d (n % d) = Nat.gcd n (d * f) := by
  have h1 : Nat.gcd n (d * f) = Nat.gcd n d := Nat.Coprime.gcd_mul_right_cancel_right d (Nat.Coprime.symm h)
  rw [h1, Nat.gcd_comm n d, Nat.gcd_rec d n, Nat.gcd_comm]
theorem gcd_pos (n d : Nat) (hd : 0 < d) : 0 < Nat.gcd n d := Nat.gcd_pos_of_pos_right _ hd
theorem below (n d f : Nat) (h : Nat.gcd n f = 1) : d / Nat.gcd n (d * f) * f = d * f / Nat.gcd n (d * f) := by
  have h1 : Nat.gcd n (d * f) = Nat.gcd n d := Nat.Coprime.gcd_mul_right_cancel_right d (Nat.Coprime.symm h)
  rw [h1]
  exact (Nat.div_mul_right_comm (Nat.gcd_dvd_right n d) f)
theorem gcd_scale (k n d : Nat) : Nat.gcd (k * n) (k * d) = k * Nat.gcd n d := Nat.gcd_mul_left k n d
theorem div_scale_n (k n d : Nat) (hk : 0 < k) : (k * n) / Nat.gcd (k * n) (k * d) = n / Nat.gcd n d := by
  rw [gcd_scale, Nat.mul_div_mul_left _ _ hk]
theorem div_scale_d (k n d : Nat) (hk : 0 < k) : (k * d) / Nat.gcd (k * n) (k * d) = d / Nat.gcd n d := by
  rw [gcd_scale, Nat.mul_div_mul_left _ _ hk]
theorem num_scale (neg : Bool) (k n d : Nat) (hk : 0 < k) : num neg (k * n) (k * d) = num neg n d := by unfold num; rw [div_scale_n k n d hk]
theorem den_scale (k n d : Nat) (hk : 0 < k) : den (k * n) (k * d) = den n d := by unfold den; rw [div_scale_d k n d hk]
theorem fit_scale (k n d : Nat) (hk : 0 < k) : fit (k * n) (k * d) = fit n d := by unfold fit; rw [div_scale_n k n d hk, div_scale_d k n d hk]
def valid (n d : Int) : Bool := decide (1 ≤ d) && decide (d ≤ 1152921504606846976) && decide (-1152921504606846976 ≤ n) && decide (n ≤ 1152921504606846976) && (Nat.gcd n.natAbs d.natAbs == 1)
end Frac
namespace DivI
theorem key (b yn1 yn0 u c q r : Int) (h : q * yn1 + r = u) : (u * b + c) + q * yn0 = q * (yn1 * b + yn0) + (b * r + c) := by
  subst h
  rw [Int.mul_add, Int.add_mul, Int.mul_assoc, Int.mul_comm r b]; omega
theorem qhat_le (b yn1 yn0 u q r : Int) (h : q * yn1 + r = u) (r0 : 0 ≤ r) (hb : b ≤ 2 * yn1) (hy : 0 < yn1) (h0 : yn0 < b) (hu : u < yn1 * b + yn0) : q ≤ b + 1 := by
  have h2 : q * yn1 < (b + 2) * yn1 := by rw [Int.add_mul, Int.mul_comm b yn1]; omega
  have := Int.lt_of_mul_lt_mul_right h2 (by omega)
  omega
theorem go_on (T v q : Int) (hv : 0 < v) (h : T < q * v) : T / v < q := Int.ediv_lt_of_lt_mul hv h
theorem stop (T v q : Int) (hv : 0 < v) (hq : T / v ≤ q) (h : q * v ≤ T) : T / v = q := by
  have := (Int.le_ediv_iff_mul_le hv).2 h
  omega
theorem quo_le (b yn1 yn0 u c q r : Int) (h : q * yn1 + r = u) (r1 : r < yn1) (hb : 0 < b) (hc : c < b) (hy : 0 < yn1) (h0 : 0 ≤ yn0) (hq : 0 ≤ q) : (u * b + c) / (yn1 * b + yn0) ≤ q := by
  have hv : 0 < yn1 * b + yn0 := by have := Int.mul_pos hy hb; omega
  have k := key b yn1 yn0 u c (q + 1) (r - yn1) (by rw [Int.add_mul]; omega)
  have h1 : b * (r - yn1) ≤ b * (-1) := Int.mul_le_mul_of_nonneg_left (by omega) (by omega)
  have h2 : 0 ≤ (q + 1) * yn0 := Int.mul_nonneg (by omega) h0
  have h3 : u * b + c < (q + 1) * (yn1 * b + yn0) := by omega
  have := Int.ediv_lt_of_lt_mul hv h3
  omega
theorem quo_lt (b v u c : Int) (hv : 0 < v) (hb : 0 < b) (hc : c < b) (hu : u < v) : (u * b + c) / v < b := by
  apply Int.ediv_lt_of_lt_mul hv
  have : (u + 1) * b ≤ v * b := Int.mul_le_mul_of_nonneg_right hu (by omega)
  rw [Int.add_mul, Int.one_mul] at this
  rw [Int.mul_comm b v]; omega
theorem stop_big (b yn1 yn0 u c q r : Int) (h : q * yn1 + r = u) (h0 : 0 ≤ yn0) (h1 : yn0 < b) (q0 : 0 ≤ q) (hq : q ≤ b) (c0 : 0 ≤ c) (hr : b ≤ r) : q * (yn1 * b + yn0) ≤ u * b + c := by
  have e1 : q * yn0 ≤ b * yn0 := Int.mul_le_mul_of_nonneg_right hq h0
  have e2 : b * yn0 ≤ b * b := Int.mul_le_mul_of_nonneg_left (by omega) (by omega)
  have e3 : b * b ≤ b * r := Int.mul_le_mul_of_nonneg_left hr (by omega)
  have := key b yn1 yn0 u c q r h
  omega
theorem two_steps (b v U un1 un0 : Int) (hv : 0 < v) :
    ((U * b + un1) * b + un0) / v = (U * b + un1) / v * b + ((U * b + un1) % v * b + un0) / v ∧ ((U * b + un1) * b + un0) % v = ((U * b + un1) % v * b + un0) % v := by
  have h1 : U * b + un1 = v * ((U * b + un1) / v) + (U * b + un1) % v := (Int.mul_ediv_add_emod _ _).symm
  have h2 : (U * b + un1) * b + un0 = ((U * b + un1) % v * b + un0) + v * ((U * b + un1) / v * b) := by
    have : (U * b + un1) * b = (v * ((U * b + un1) / v) + (U * b + un1) % v) * b := by rw [← h1]
    rw [this, Int.add_mul, Int.mul_assoc]; omega
  constructor
  · rw [h2, Int.add_mul_ediv_left _ _ (by omega)]; omega
  · rw [h2, Int.add_mul_emod_self_left]
/-- what is left behind a step, in words that wrap -/
theorem rest_wrap (B T Q v u : Int) (hB : 0 < B) (hv : 0 < v) (hvB : v ≤ B) (hQ : Q = T / v) : ((T % B) - (Q * v) % B) % B = T % v := by
  have h1 := Int.mul_ediv_add_emod T v
  have h2 := Int.emod_nonneg T (by omega : v ≠ 0)
  have h3 := Int.emod_lt_of_pos T hv
  rw [← Int.sub_emod, hQ, Int.mul_comm]
  have e : T - v * (T / v) = T % v := by omega
  rw [e]
  exact Int.emod_eq_of_lt h2 (by omega)
theorem unshift_quo (n y p : Int) (hp : 0 < p) : (n * p) / (y * p) = n / y := Int.mul_ediv_mul_of_pos_left n y hp
theorem unshift_rem (n y p : Int) (hp : 0 < p) : (n * p) % (y * p) / p = n % y := by
  rw [Int.mul_comm n p, Int.mul_comm y p, Int.mul_emod_mul_of_pos n y hp, Int.mul_ediv_cancel_left _ (by omega)]
end DivI
namespace DivW
theorem pow_split (s : Nat) (hs : s ≤ 64) : (2 : Int) ^ s * 2 ^ (64 - s) = 18446744073709551616 := by
  rw [← Int.pow_add, show s + (64 - s) = 64 by omega]; rfl
theorem pos_pow (s : Nat) : (0 : Int) < 2 ^ s := Int.pow_pos (by omega)
/-- the low word that is shifted out and in -/
theorem shifted (h l p q : Int) (p0 : 0 < p) (q0 : 0 < q) (hpq : p * q = 18446744073709551616) (l0 : 0 ≤ l) :
    (h * p + l / q) * 18446744073709551616 + (l * p) % 18446744073709551616 = (h * 18446744073709551616 + l) * p := by
  have e1 : l * p = l % q * p + 18446744073709551616 * (l / q) := by
    have : l = q * (l / q) + l % q := (Int.mul_ediv_add_emod l q).symm
    calc l * p = (q * (l / q) + l % q) * p := by rw [← this]
      _ = q * (l / q) * p + l % q * p := Int.add_mul _ _ _
      _ = (p * q) * (l / q) + l % q * p := by rw [Int.mul_comm (q * (l / q)) p, ← Int.mul_assoc]
      _ = _ := by rw [hpq]; omega
  have m0 := Int.emod_nonneg l (by omega : q ≠ 0)
  have m1 := Int.emod_lt_of_pos l q0
  have b0 : 0 ≤ l % q * p := Int.mul_nonneg m0 (by omega)
  have b1 : l % q * p < q * p := Int.mul_lt_mul_of_pos_right m1 p0
  rw [Int.mul_comm q p, hpq] at b1
  have e2 : (l * p) % 18446744073709551616 = l % q * p := by rw [e1, Int.add_mul_emod_self_left]; exact Int.emod_eq_of_lt b0 b1
  rw [e2, Int.add_mul, Int.add_mul, e1, Int.mul_assoc h p, Int.mul_comm p, ← Int.mul_assoc]
  omega
theorem lt_q (l p q : Int) (p0 : 0 < p) (q0 : 0 < q) (hpq : p * q = 18446744073709551616) (l1 : l < 18446744073709551616) : l / q < p := by
  apply Int.ediv_lt_of_lt_mul q0; rw [hpq]; exact l1
theorem u_lt (h l y p U L : Int) (p0 : 0 < p) (hh : h < y) (l1 : l < 18446744073709551616) (L0 : 0 ≤ L) (e : U * 18446744073709551616 + L = (h * 18446744073709551616 + l) * p) : U < y * p := by
  have h1 : (h * 18446744073709551616 + l) * p < (y * 18446744073709551616) * p := Int.mul_lt_mul_of_pos_right (by omega) p0
  have h2 : (y * 18446744073709551616) * p = y * p * 18446744073709551616 := by rw [Int.mul_assoc, Int.mul_comm 18446744073709551616 p, ← Int.mul_assoc]
  omega
end DivW
namespace DivV
theorem split_ (B a b y : Int) (hB : 0 < B) (y0 : 0 < y) (b0 : 0 ≤ b) (b1 : b < B) (a0 : 0 ≤ a) :
    (a * B + b) / y = a / y * B + (a % y * B + b) / y ∧ (a * B + b) % y = (a % y * B + b) % y ∧ (a % y * B + b) / y < B ∧ 0 ≤ (a % y * B + b) / y := by
  have h1 : a = y * (a / y) + a % y := (Int.mul_ediv_add_emod a y).symm
  have m0 := Int.emod_nonneg a (by omega : y ≠ 0)
  have m1 := Int.emod_lt_of_pos a y0
  have h2 : a * B + b = (a % y * B + b) + y * (a / y * B) := by
    have : a * B = (y * (a / y) + a % y) * B := by rw [← h1]
    rw [this, Int.add_mul, Int.mul_assoc]; omega
  have m2 : 0 ≤ a % y * B := Int.mul_nonneg m0 (by omega)
  refine ⟨?_, ?_, ?_, Int.ediv_nonneg (by omega) (by omega)⟩
  · rw [h2, Int.add_mul_ediv_left _ _ (by omega)]; omega
  · rw [h2, Int.add_mul_emod_self_left]
  · apply Int.ediv_lt_of_lt_mul y0
    have : (a % y + 1) * B ≤ y * B := Int.mul_le_mul_of_nonneg_right m1 (by omega)
    rw [Int.add_mul, Int.one_mul] at this
    rw [Int.mul_comm B y]; omega
theorem hi_lo (q r : Int) (q0 : 0 ≤ q) (q1 : q < 18446744073709551616) (r0 : 0 ≤ r) (r1 : r < 18446744073709551616) :
    (q * 18446744073709551616 + r) / 18446744073709551616 % 18446744073709551616 = q ∧ (q * 18446744073709551616 + r) % 18446744073709551616 = r := by omega
end DivV
