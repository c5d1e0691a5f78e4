/-
  What the statements of this seat need of the fractions: sum_yes, sum_limit, sR_yes.
-/
import Derived.Test.YtglikjdgjmijfaaMath
import Derived.Test.YtglikjdgjmijfaaMem
import Derived.Test.YtglikjdgjmijfaaNums
import Derived.Test.YtglikjdgjmijfaaTape
import Derived.Test.YtglikjdgjmijfaaQuietB
import Derived.Test.YtglikjdgjmijfaaQuietTail
import Derived.Test.YtglikjdgjmijfaaShelf
import Derived.Test.YtglikjdgjmijfaaRatN
import Derived.WalkKit
import Derived.Below
import Derived.Laws.OwnMore
import Derived.Deep.Draws
import Derived.Laws.Rows
import Derived.Lib.Hide
import Derived.WalkLawsBesides
import Derived.WalkSpells
import Derived.BigQuiet
import Derived.Deep.QuietTactic
import Derived.Laws.Bits64
import Derived.Deep.LoopGhost
import Derived.Outline
import Derived.Shelf.Spec.BitsCarry
import Derived.Deep.RegionHeld3
import Derived.Laws.BitsAllLaws
import Derived.RegionTactic
import Derived.Deep.DeepCutAuto
import Derived.Deep.CutBlock
import Derived.Lib.ItoaNum
import Derived.LoopN
import Derived.BigRegion
import Derived.Deep.RegionWith
namespace Go.Proofs.Ytglikjdgjmijfaa
set_option linter.unusedSimpArgs false
set_option linter.unusedVariables false
open Go.RowKit
set_option maxHeartbeats 400000 in
theorem product_any (a b : Int) (w : World) (a0 : -9223372036854775808 ≤ a) (b0 : -9223372036854775808 ≤ b) (a1 : a < 9223372036854775808) (b1 : b < 9223372036854775808) :
    Calls Try.prog 57 #[.int .i64 a, .int .i64 b] w fun e w' => e = .returned (.agg #[.int .u64 (Rep.hi (a * b)), .int .u64 (Rep.lo (a * b))]) ∧ Below w.heap.size w w' := by
  have hx : (0 : Int) ≤ (a.natAbs : Int) ∧ (a.natAbs : Int) < 18446744073709551616 := by omega
  have hy : (0 : Int) ≤ (b.natAbs : Int) ∧ (b.natAbs : Int) < 18446744073709551616 := by omega
  have hh := Rep.hi_bd ((a.natAbs : Int) * (b.natAbs : Int))
  have hl := Rep.lo_bd ((a.natAbs : Int) * (b.natAbs : Int))
  have HH := Lib.hid ((Rep.hi_congr_sgn (!decide (a < 0) == decide (b < 0)) ((a.natAbs : Int) * (b.natAbs : Int))).trans (by rw [Rep.sgn_prod]))
  have HL := Lib.hid ((Rep.lo_congr_sgn (!decide (a < 0) == decide (b < 0)) ((a.natAbs : Int) * (b.natAbs : Int))).trans (by rw [Rep.sgn_prod]))
  obtain ⟨x, hx'⟩ : ∃ x : Int, x = (a.natAbs : Int) := ⟨_, rfl⟩
  obtain ⟨y, hy'⟩ : ∃ y : Int, y = (b.natAbs : Int) := ⟨_, rfl⟩
  have HX := Lib.hid hx'
  have HY := Lib.hid hy'
  rw [← hx', ← hy'] at hh hl HH HL
  rw [← hx'] at hx
  rw [← hy'] at hy
  clear hx' hy'
  go_enter Try.func57, Try.ntmps57
  go_wp2_with fail
  refine (magnitude_any _ a0 a1 _).mono ?_
  rintro e w1 ⟨rfl, rfl⟩
  rw [← HX.out]
  go_wp2_with fail
  refine (magnitude_any _ b0 b1 _).mono ?_
  rintro e w1 ⟨rfl, rfl⟩
  rw [← HY.out]
  go_wp2_with fail
  refine (times_any _ _ hx.1 hy.1 hx.2 hy.2 _).mono ?_
  rintro e w1 ⟨rfl, hb⟩
  go_wp2_with fail
  refine (signed_any _ _ _ _ hh.1 hl.1 hh.2 hl.2).mono ?_
  rintro e w2 ⟨rfl, hb2⟩
  have hb3 := bTr hb hb2
  clear hb hb2
  obtain ⟨hc, hf⟩ := bcell hb3
  have hz : w.heap.size < w2.heap.size := by have := hb3.size; simp at this; omega
  rw [HH.out, HL.out]
  go_wp2
  refine bodyPost_ret (v := .agg #[.int .u64 (Rep.hi (a * b)), .int .u64 (Rep.lo (a * b))]) (by simp [results, Try.results57, go_sem, hc, hz]) rfl ⟨rfl, ?_⟩
  exact bSt (bSt (bTr (bAl (Below.refl _ _) _) hb3) (by simp) _) (by simp) _
theorem valid_no (n d : Int) (h : d < 1 ∨ 1152921504606846976 < d ∨ n < -1152921504606846976 ∨ 1152921504606846976 < n) : false = Frac.valid n d := by
  unfold Frac.valid
  rcases h with h | h | h | h
  · rw [decide_eq_false (show ¬ 1 ≤ d by omega)]; rfl
  · rw [decide_eq_false (show ¬ d ≤ 1152921504606846976 by omega)]; simp
  · rw [decide_eq_false (show ¬ -1152921504606846976 ≤ n by omega)]; simp
  · rw [decide_eq_false (show ¬ n ≤ 1152921504606846976 by omega)]; simp
theorem valid_yes (n d : Int) (h1 : 1 ≤ d) (h2 : d ≤ 1152921504606846976) (h3 : -1152921504606846976 ≤ n) (h4 : n ≤ 1152921504606846976) : (((Nat.gcd n.natAbs d.natAbs : Nat) : Int) == 1) = Frac.valid n d := by
  unfold Frac.valid
  rw [decide_eq_true h1, decide_eq_true h2, decide_eq_true h3, decide_eq_true h4, Bool.eq_iff_iff]
  simp only [beq_iff_eq, Bool.true_and]
  omega
set_option maxHeartbeats 1000000 in
theorem valid_any (n d : Int) (n0 : -9223372036854775808 ≤ n) (n1 : n < 9223372036854775808) (d0 : -9223372036854775808 ≤ d) (d1 : d < 9223372036854775808) (w : World) :
    Calls Try.prog 54 #[.agg #[.int .i64 n, .int .i64 d]] w fun e w' => e = .returned (.bool (Frac.valid n d)) ∧ Below w.heap.size w w' := by
  by_cases h1 : d < 1
  · have H := Lib.hid (valid_no n d (.inl h1))
    go_enter Try.func54, Try.ntmps54
    go_wp2
    go_ret
    exact ⟨ret_bool H.out, bAl (Below.refl _ _) _⟩
  by_cases h2 : 1152921504606846976 < d
  · have H := Lib.hid (valid_no n d (.inr (.inl h2)))
    go_enter Try.func54, Try.ntmps54
    go_wp2
    go_ret
    exact ⟨ret_bool H.out, bAl (Below.refl _ _) _⟩
  by_cases h3 : n < -1152921504606846976
  · have H := Lib.hid (valid_no n d (.inr (.inr (.inl h3))))
    go_enter Try.func54, Try.ntmps54
    go_wp2
    go_ret
    exact ⟨ret_bool H.out, bAl (Below.refl _ _) _⟩
  by_cases h4 : 1152921504606846976 < n
  · have H := Lib.hid (valid_no n d (.inr (.inr (.inr h4))))
    go_enter Try.func54, Try.ntmps54
    go_wp2
    go_ret
    exact ⟨ret_bool H.out, bAl (Below.refl _ _) _⟩
  have H := Lib.hid (valid_yes n d (by omega) (by omega) (by omega) (by omega))
  go_enter Try.func54, Try.ntmps54
  go_wp2_with fail
  go_quiet ((first | (go_at_call 59; exact qSame (magnitude_any _ (by omega) (by omega) _)) | (go_at_call 70; exact Calls.quiet_of (gcd_any _ _ (by omega) (by omega) _))))
  go_wp2
  go_ret
  exact ⟨ret_bool H.out, bDr (bAl (Below.refl _ _) _) _⟩
/-- the fraction N / D in lowest terms: numerator, denominator, code -/
def qn (N D : Int) : Int := rnum (decide (N < 0)) N.natAbs D.natAbs
def qd (N D : Int) : Int := rden N.natAbs D.natAbs
def qe (N D : Int) : Int := rerr N.natAbs D.natAbs
theorem valid_iff (n d : Int) : Frac.valid n d = true ↔ 1 ≤ d ∧ d ≤ 1152921504606846976 ∧ -1152921504606846976 ≤ n ∧ n ≤ 1152921504606846976 ∧ Nat.gcd n.natAbs d.natAbs = 1 := by
  unfold Frac.valid
  simp only [Bool.and_eq_true, decide_eq_true_eq, beq_iff_eq]
  constructor
  · rintro ⟨⟨⟨⟨a, b⟩, c⟩, d⟩, e⟩; exact ⟨a, b, c, d, e⟩
  · rintro ⟨a, b, c, d, e⟩; exact ⟨⟨⟨⟨a, b⟩, c⟩, d⟩, e⟩
/-- where it fits: the fraction is valid, and it denotes N / D -/
theorem q_ok (N D : Int) (hD : 0 < D) (he : qe N D = 0) : Frac.valid (qn N D) (qd N D) = true ∧ qn N D * D = N * qd N D := by
  unfold qe rerr at he
  unfold qn qd rnum rden
  have hf : Frac.fit N.natAbs D.natAbs = true := by
    by_cases h : Frac.fit N.natAbs D.natAbs = true
    · exact h
    · rw [if_neg h] at he; omega
  rw [if_pos hf, if_pos hf]
  unfold Frac.fit at hf
  simp only [Bool.and_eq_true, decide_eq_true_eq] at hf
  unfold Frac.M at hf
  obtain ⟨g, hg⟩ : ∃ g, Nat.gcd N.natAbs D.natAbs = g := ⟨_, rfl⟩
  have g0 : 0 < g := by rw [← hg]; exact Nat.gcd_pos_of_pos_right _ (by omega)
  obtain ⟨x, hx⟩ : g ∣ N.natAbs := by rw [← hg]; exact Nat.gcd_dvd_left _ _
  obtain ⟨y, hy⟩ : g ∣ D.natAbs := by rw [← hg]; exact Nat.gcd_dvd_right _ _
  have hc : Nat.gcd x y = 1 := by
    have h1 : Nat.gcd (g * x) (g * y) = g := by rw [← hx, ← hy]; exact hg
    rw [Nat.gcd_mul_left] at h1
    exact Nat.eq_of_mul_eq_mul_left g0 (by omega)
  have hnx : N.natAbs / g = x := by rw [hx]; exact Nat.mul_div_cancel_left _ g0
  have hny : D.natAbs / g = y := by rw [hy]; exact Nat.mul_div_cancel_left _ g0
  rw [hg, hnx, hny] at hf
  have y0 : 0 < y := by
    rcases Nat.eq_zero_or_pos y with h | h
    · subst h; omega
    · exact h
  unfold Frac.num Frac.den
  rw [hg, hnx, hny]
  have hDg : D = (g : Int) * (y : Int) := by rw [← Int.natCast_mul, ← hy]; omega
  by_cases hn : N < 0
  · rw [decide_eq_true hn]
    simp only [if_true]
    have hNg : N = -((g : Int) * (x : Int)) := by rw [← Int.natCast_mul, ← hx]; omega
    refine ⟨(valid_iff _ _).2 ⟨by omega, by omega, by omega, by omega, ?_⟩, ?_⟩
    · rw [Int.natAbs_neg, Int.natAbs_natCast, Int.natAbs_natCast]; exact hc
    · rw [hDg, hNg]
      simp only [Int.neg_mul]
      rw [← Int.mul_assoc, Int.mul_comm (x : Int) (g : Int)]
  · rw [decide_eq_false hn]
    simp only [Bool.false_eq_true, if_false]
    have hNg : N = ((g : Int) * (x : Int)) := by rw [← Int.natCast_mul, ← hx]; omega
    refine ⟨(valid_iff _ _).2 ⟨by omega, by omega, by omega, by omega, ?_⟩, ?_⟩
    · rw [Int.natAbs_natCast, Int.natAbs_natCast]; exact hc
    · rw [hDg, hNg]
      rw [← Int.mul_assoc, Int.mul_comm (x : Int) (g : Int)]
theorem q_fits (N D : Int) (h0 : -1152921504606846976 ≤ N) (h1 : N ≤ 1152921504606846976) (h2 : D ≤ 1152921504606846976) (h3 : 0 < D) : qe N D = 0 := by
  unfold qe rerr
  have a := Nat.div_le_self N.natAbs (Nat.gcd N.natAbs D.natAbs)
  have b := Nat.div_le_self D.natAbs (Nat.gcd N.natAbs D.natAbs)
  rw [if_pos]
  unfold Frac.fit Frac.M
  rw [decide_eq_true (show N.natAbs / Nat.gcd N.natAbs D.natAbs ≤ 1152921504606846976 by omega), decide_eq_true (show D.natAbs / Nat.gcd N.natAbs D.natAbs ≤ 1152921504606846976 by omega)]
  rfl
/-- the valid fraction p / q denotes N / D, and how great N and D may be -/
structure Q (p q N D : Int) (A B : Nat) : Prop where
  v : Frac.valid p q = true
  e : p * D = N * q
  d : 0 < D
  n : N.natAbs ≤ A
  m : D.natAbs ≤ B
theorem Q.of {N D : Int} {A B : Nat} (d : 0 < D) (n : N.natAbs ≤ A) (m : D.natAbs ≤ B) (hA : A ≤ 1152921504606846976) (hB : B ≤ 1152921504606846976) : Q (qn N D) (qd N D) N D A B ∧ qe N D = 0 := by
  have he := q_fits N D (by omega) (by omega) (by omega) d
  obtain ⟨v, e⟩ := q_ok N D d he
  exact ⟨⟨v, e, d, n, m⟩, he⟩
theorem Q.den {p q N D : Int} {A B : Nat} (h : Q p q N D A B) : 0 < q := by have := ((valid_iff p q).1 h.v).1; omega
theorem ret3 {a b c a' b' c' : Int} (h : a = a' ∧ b = b' ∧ c = c') : Ending.returned (.tuple #[.agg #[.int .i64 a, .int .i64 b], .int .i64 c]) = .returned (.tuple #[.agg #[.int .i64 a', .int .i64 b'], .int .i64 c']) := by rw [h.1, h.2.1, h.2.2]
/-- a fraction in a list -/
abbrev Fr := Int × Int
/-- the least common multiple of the first k denominators -/
def lcmF (L : Nat → Fr) : Nat → Nat
  | 0 => 1
  | k + 1 => Nat.lcm (lcmF L k) (L k).2.natAbs
/-- the sum of the first k numerators over the denominator D -/
def sumF (L : Nat → Fr) (D : Int) : Nat → Int
  | 0 => 0
  | k + 1 => sumF L D k + (L k).1 * (D / (L k).2)
theorem lcmF_pos (L : Nat → Fr) (k : Nat) (h : ∀ i, i < k → 0 < (L i).2) : 0 < lcmF L k := by
  induction k with
  | zero => exact Nat.one_pos
  | succ k ih => exact Nat.lcm_pos (ih fun i hi => h i (by omega)) (by have := h k (by omega); omega)
theorem lcmF_dvd_next (L : Nat → Fr) (k : Nat) : lcmF L k ∣ lcmF L (k + 1) := Nat.dvd_lcm_left _ _
theorem lcmF_mono (L : Nat → Fr) {k n : Nat} (h : k ≤ n) : lcmF L k ∣ lcmF L n := by
  induction n with
  | zero => obtain rfl : k = 0 := by omega
            exact Nat.dvd_refl _
  | succ n ih =>
    rcases Nat.lt_or_ge k (n + 1) with g | g
    · exact Nat.dvd_trans (ih (by omega)) (lcmF_dvd_next L n)
    · obtain rfl : k = n + 1 := by omega
      exact Nat.dvd_refl _
theorem lcmF_le (L : Nat → Fr) {k n : Nat} (h : k ≤ n) (hp : ∀ i, i < n → 0 < (L i).2) : lcmF L k ≤ lcmF L n := Nat.le_of_dvd (lcmF_pos L n hp) (lcmF_mono L h)
/-- the step of the loop: all / gcd * den -/
theorem lcm_step (a d : Nat) : a / Nat.gcd a d * d = Nat.lcm a d := by
  unfold Nat.lcm
  rw [Nat.div_mul_right_comm (Nat.gcd_dvd_left a d)]
theorem quo_bd2 {D d : Int} (hD : 0 ≤ D) (hD1 : D ≤ 1152921504606846976) (hd : 0 < d) : 0 ≤ D / d ∧ D / d ≤ 1152921504606846976 := by
  refine ⟨Int.ediv_nonneg hD (by omega), ?_⟩
  exact Int.le_trans (Int.ediv_le_self d hD) hD1
theorem prod_bd {x y : Int} (hx : x.natAbs ≤ 1152921504606846976) (hy : y.natAbs ≤ 1152921504606846976) : -1329227995784915872903807060280344576 ≤ x * y ∧ x * y ≤ 1329227995784915872903807060280344576 := by
  have h := Nat.mul_le_mul hx hy
  rw [← Int.natAbs_mul] at h
  omega
theorem sumF_bd (L : Nat → Fr) (D : Int) (k : Nat) (hD : 0 ≤ D) (hD1 : D ≤ 1152921504606846976) (h : ∀ i, i < k → (L i).1.natAbs ≤ 1152921504606846976 ∧ 0 < (L i).2) : -((k : Int) * 1329227995784915872903807060280344576) ≤ sumF L D k ∧ sumF L D k ≤ (k : Int) * 1329227995784915872903807060280344576 := by
  induction k with
  | zero => show _ ≤ (0 : Int) ∧ (0 : Int) ≤ _; omega
  | succ k ih =>
    obtain ⟨h1, h2⟩ := h k (by omega)
    obtain ⟨i1, i2⟩ := ih fun i hi => h i (by omega)
    obtain ⟨q1, q2⟩ := quo_bd2 hD hD1 h2
    obtain ⟨p1, p2⟩ := prod_bd (x := (L k).1) (y := D / (L k).2) h1 (by omega)
    show _ ≤ sumF L D k + (L k).1 * (D / (L k).2) ∧ sumF L D k + (L k).1 * (D / (L k).2) ≤ _
    omega
/-- the fractions of a slice: each lies below block B -/
def RowR (w : World) (B : Nat) (o : Option Addr) (n : Nat) (L : Nat → Fr) : Prop :=
  ∀ i, i < n → ∃ b off, o = some ⟨b, off, none⟩ ∧ b < B ∧ w.cell? ⟨b, off + i * 2, none⟩ = some (.int .i64 (L i).1) ∧ w.cell? ⟨b, off + i * 2 + 1, none⟩ = some (.int .i64 (L i).2)
theorem RowR.below {w w' : World} {B C n : Nat} {o : Option Addr} {L : Nat → Fr} (h : RowR w B o n L) (hb : Below C w w') (hB : B ≤ C) : RowR w' B o n L := fun i hi => by
  obtain ⟨b, off, ho, hl, h1, h2⟩ := h i hi
  exact ⟨b, off, ho, hl, (hb.cell (p := ⟨b, off + i * 2, none⟩) (show b < C by omega)).trans h1, (hb.cell (p := ⟨b, off + i * 2 + 1, none⟩) (show b < C by omega)).trans h2⟩
theorem RowR.more {w : World} {B C n : Nat} {o : Option Addr} {L : Nat → Fr} (h : RowR w B o n L) (hB : B ≤ C) : RowR w C o n L := fun i hi => by
  obtain ⟨b, off, ho, hl, h1⟩ := h i hi
  exact ⟨b, off, ho, by omega, h1⟩
theorem ret_ib {a a' : Int} {b b' : Bool} (h : a = a') (k : b = b') : Ending.returned (.tuple #[.int .i64 a, .bool b]) = .returned (.tuple #[.int .i64 a', .bool b']) := by rw [h, k]
theorem den_pos' {a b : Int} (h : Frac.valid a b = true) : 0 < b := by have := ((valid_iff a b).1 h).1; omega
theorem val_lo {x : Int} (h0 : 0 ≤ x) (h1 : x ≤ 1152921504606846976) : Rep.lo x = x := by unfold Rep.lo; omega
set_option maxRecDepth 100000 in
set_option maxHeartbeats 4000000 in
theorem least_any (o : Option Addr) (n c : Nat) (L : Nat → Fr) (w : World) (hr : RowR w w.heap.size o n L) (hn : n ≤ 100) (hv : ∀ i, i < n → Frac.valid (L i).1 (L i).2 = true) :
    Calls Try.prog 55 #[.slice o n c] w fun e w' => e = .returned (.tuple #[.int .i64 (if lcmF L n ≤ 1152921504606846976 then (lcmF L n : Int) else 0), .bool (decide (lcmF L n ≤ 1152921504606846976))]) ∧ Below w.heap.size w w' := by
  have HR := Lib.hid hr
  have HV := Lib.hid hv
  have HP := Lib.hid (fun i (hi : i < n) => den_pos' (hv i hi))
  clear hr hv
  go_enter Try.func55, Try.ntmps55
  go_wp2
  go_loopw [4, 11] (fun v i wr => ∃ (k x : Nat), i = .int .i64 k ∧ k ≤ n ∧ v = .int .u64 (x : Int) ∧ Hid (x = lcmF L k) ∧ x ≤ 1152921504606846976 ∧ Hid (Below w.heap.size w wr)) (fun _ i _ => n - (intOf i).toNat)
  case atStart => exact ⟨0, 1, rfl, Nat.zero_le _, rfl, rfl, by omega, Below.refl _ _⟩
  case round =>
    obtain ⟨k, x, rfl, hk, rfl, HX0, hx, HB⟩ := hrel
    by_cases hkn : k < n
    · have hkn' : (k : Int) < (n : Int) := by omega
      obtain ⟨b, off, rfl, hbB, g0, g1⟩ := HR.out k hkn
      have c0 := (HB.out.cell (p := ⟨b, off + k * 2, none⟩) hbB).trans g0
      have c1 := (HB.out.cell (p := ⟨b, off + k * 2 + 1, none⟩) hbB).trans g1
      obtain ⟨d1, d2, e1, e2, -⟩ := (valid_iff _ _).1 (HV.out k hkn)
      have hx0 : 0 < x := by have := lcmF_pos L k (fun i hi => HP.out i (by omega)); rw [← HX0.out] at this; exact this
      have HN := Lib.hid (show x / Nat.gcd x (L k).2.natAbs * (L k).2.natAbs = lcmF L (k + 1) by rw [lcm_step, HX0.out]; rfl)
      have HLE := Lib.hid (lcmF_le L (show k + 1 ≤ n by omega) HP.out)
      clear g0 g1
      generalize (L k).1 = p at c0 e1 e2
      generalize (L k).2 = d at c1 d1 d2 HN
      obtain ⟨dn, rfl⟩ := Int.eq_ofNat_of_zero_le (show 0 ≤ d by omega)
      rw [Int.natAbs_natCast] at HN
      have hg0 : 0 < Nat.gcd x dn := Nat.gcd_pos_of_pos_left _ hx0
      obtain ⟨g, hg⟩ : ∃ g, Nat.gcd x dn = g := ⟨_, rfl⟩
      have HG := Lib.hid hg
      rw [hg] at hg0 HN
      clear hg
      obtain ⟨q, hq⟩ : ∃ q : Nat, (x : Int) / (g : Int) = (q : Int) := ⟨x / g, (Int.natCast_ediv _ _).symm⟩
      have hqn : q = x / g := by have := Int.natCast_ediv x g; omega
      have hqx : q ≤ x := by rw [hqn]; exact Nat.div_le_self _ _
      rw [← hqn] at HN
      have HQ := Lib.hid hq
      clear hq hqn
      have hgn : ¬ ((g : Int) = 0) := by omega
      obtain ⟨m, hm⟩ : ∃ m : Nat, q * dn = m := ⟨_, rfl⟩
      have hmb : m ≤ 1329227995784915872903807060280344576 := by rw [← hm]; exact Nat.mul_le_mul (show q ≤ 1152921504606846976 by omega) (show dn ≤ 1152921504606846976 by omega)
      have HM := Lib.hid (show (q : Int) * (dn : Int) = (m : Int) by rw [← Int.natCast_mul, hm])
      rw [hm] at HN
      clear hm
      go_wp2_with fail
      refine (magnitude_any _ (by omega) (by omega) _).mono ?_
      rintro e w1 ⟨rfl, rfl⟩
      rw [Int.natAbs_natCast]
      go_wp2_with fail
      refine (gcd_any x dn (by omega) (by omega) _).mono ?_
      rintro e w2 ⟨rfl, n2, rfl⟩
      rw [HG.out]
      have t1 := HQ.out
      go_wp2_with fail
      clear t1
      refine (times_any _ _ (by omega) (by omega) (by omega) (by omega) _).mono ?_
      rintro e w3 ⟨rfl, hb3⟩
      rw [HM.out]
      have HB3 := Lib.hid (bTr (bDr (bAl HB.out _) _) hb3)
      clear hb3 HB c0 c1
      have hh := Rep.hi_bd (m : Int)
      have hl := Rep.lo_bd (m : Int)
      go_wp2_with fail
      refine (fits_any _ _ _ hh.1 hl.1).mono ?_
      rintro e w4 ⟨rfl, hb4⟩
      rw [Rep.val_hi_lo (m : Int) (by omega) (by omega)]
      obtain ⟨⟨u0, u1⟩, -, u2⟩ := ((Blk.newAt (w := w3) (t := 78) (cs := #[.int .u64 (Rep.hi (m : Int)), .int .u64 (Rep.lo (m : Int))]) rfl).later hb4).two
      have HB4 := Lib.hid (bTr (bAl HB3.out _) hb4)
      clear hb4 HB3
      by_cases hfit : m ≤ 1152921504606846976
      · have tf : decide ((m : Int) ≤ 1152921504606846976) = true := decide_eq_true (by omega)
        have hlm : Rep.lo (m : Int) = (m : Int) := val_lo (by omega) (by omega)
        go_wp2
        go_roundw
        case rel => exact ⟨k + 1, m, by go_num, by omega, by first | rfl | rw [hlm], HN.out, hfit, HB4.out⟩
        case measure => simp [intOf]; omega
      · have tf : decide ((m : Int) ≤ 1152921504606846976) = false := decide_eq_false (by omega)
        have HF := Lib.hid (show ¬ lcmF L n ≤ 1152921504606846976 by have := HLE.out; rw [← HN.out] at this; omega)
        go_wp2
        go_ret2
        exact ⟨ret_ib (by first | rfl | rw [if_neg HF.out]) (by first | rfl | exact (decide_eq_false HF.out).symm), HB4.out⟩
    · obtain rfl : n = k := by omega
      have HF := Lib.hid (show lcmF L n ≤ 1152921504606846976 by rw [← HX0.out]; exact hx)
      go_wp2
      go_ret2
      exact ⟨ret_ib (by first | rw [HX0.out] | (rw [if_pos HF.out, HX0.out])) (by first | rfl | exact (decide_eq_true HF.out).symm), HB.out⟩
def ratN (L : Nat → Fr) (n : Nat) : Int := qn (sumF L (lcmF L n) n) (lcmF L n)
def ratD (L : Nat → Fr) (n : Nat) : Int := qd (sumF L (lcmF L n) n) (lcmF L n)
def ratE (L : Nat → Fr) (n : Nat) : Int := qe (sumF L (lcmF L n) n) (lcmF L n)
def sRN (L : Nat → Fr) (n : Nat) : Int := if lcmF L n ≤ 1152921504606846976 then ratN L n else 0
def sRD (L : Nat → Fr) (n : Nat) : Int := if lcmF L n ≤ 1152921504606846976 then ratD L n else 0
def sRE (L : Nat → Fr) (n : Nat) : Int := if lcmF L n ≤ 1152921504606846976 then ratE L n else 6
theorem sR_yes {L : Nat → Fr} {n : Nat} (h : lcmF L n ≤ 1152921504606846976) : sRN L n = ratN L n ∧ sRD L n = ratD L n ∧ sRE L n = ratE L n := by unfold sRN sRD sRE; rw [if_pos h, if_pos h, if_pos h]; exact ⟨rfl, rfl, rfl⟩
theorem sR_no {L : Nat → Fr} {n : Nat} (h : ¬ lcmF L n ≤ 1152921504606846976) : 0 = sRN L n ∧ 0 = sRD L n ∧ 6 = sRE L n := by unfold sRN sRD sRE; rw [if_neg h, if_neg h, if_neg h]; exact ⟨rfl, rfl, rfl⟩
theorem sum_limit (o : Option Addr) (n c : Nat) (w : World) (hn : 100 < n) (hn1 : n ≤ 1000000) :
    Calls Try.prog 34 #[.slice o n c] w fun e w' => e = .returned (.tuple #[.agg #[.int .i64 0, .int .i64 0], .int .i64 3]) ∧ Below w.heap.size w w' := by
  have hn' : (100 : Int) < (n : Int) := by omega
  go_enter Try.func34, Try.ntmps34
  go_wp2
  refine bodyPost_ret (v := .tuple #[.agg #[.int .i64 0, .int .i64 0], .int .i64 3]) (by simp [results, Try.results34, go_sem]) rfl ⟨rfl, ?_⟩
  exact bAl (Below.refl _ _) _
set_option maxRecDepth 100000 in
set_option maxHeartbeats 8000000 in
theorem sum_yes (o : Option Addr) (n c : Nat) (L : Nat → Fr) (w : World) (hr : RowR w w.heap.size o n L) (hn : n ≤ 100) (hv : ∀ i, i < n → Frac.valid (L i).1 (L i).2 = true) :
    Calls Try.prog 34 #[.slice o n c] w fun e w' => e = .returned (.tuple #[.agg #[.int .i64 (sRN L n), .int .i64 (sRD L n)], .int .i64 (sRE L n)]) ∧ Below w.heap.size w w' := by
  have HR := Lib.hid hr
  have HV := Lib.hid hv
  have HP := Lib.hid (fun i (hi : i < n) => den_pos' (hv i hi))
  have hn' : ¬ (100 : Int) < (n : Int) := by omega
  clear hr hv
  go_enter Try.func34, Try.ntmps34
  go_wp2
  have B0 : Blk (w.alloc (.cells #[.int .i64 0, .int .i64 0] 50)) w.heap.size 50 #[.int .i64 0, .int .i64 0] := Blk.newAt rfl
  have hb0 := bAl (Below.refl w.heap.size w) (.cells #[.int .i64 0, .int .i64 0] 50)
  go_loopw [17] (fun i wr => ∃ k : Nat, i = .int .i64 k ∧ k ≤ n ∧ Hid (Blk wr w.heap.size 50 #[.int .i64 0, .int .i64 0] ∧ Below w.heap.size w wr)) (fun i _ => n - (intOf i).toNat)
  case atStart => exact ⟨0, rfl, Nat.zero_le _, B0, hb0⟩
  case round =>
    clear B0 hb0
    obtain ⟨k, rfl, hk, HB⟩ := hrel
    by_cases hkn : k < n
    · have hkn' : (k : Int) < (n : Int) := by omega
      obtain ⟨b, off, rfl, hbB, g0, g1⟩ := HR.out k hkn
      have c0 := (HB.out.2.cell (p := ⟨b, off + k * 2, none⟩) hbB).trans g0
      have c1 := (HB.out.2.cell (p := ⟨b, off + k * 2 + 1, none⟩) hbB).trans g1
      have hvk := HV.out k hkn
      obtain ⟨d1, d2, e1, e2, -⟩ := (valid_iff _ _).1 hvk
      have HVK := Lib.hid hvk
      clear g0 g1 hvk
      generalize (L k).1 = p at c0 e1 e2 HVK
      generalize (L k).2 = d at c1 d1 d2 HVK
      go_wp2_with fail
      refine (valid_any _ _ (by omega) (by omega) (by omega) (by omega) _).mono ?_
      rintro e w1 ⟨rfl, hb1⟩
      rw [HVK.out]
      have HB1 := Lib.hid (And.intro ((HB.out.1.alloc _).later hb1) (bTr (bAl HB.out.2 _) hb1))
      clear hb1 HB c0 c1
      go_wp2
      go_roundw
      case rel => exact ⟨k + 1, by go_num, by omega, HB1.out⟩
      case measure => simp [intOf]; omega
    · obtain rfl : n = k := by omega
      go_wp2_with fail
      refine (least_any o n c L _ ((HR.out.below HB.out.2 (Nat.le_refl _)).more HB.out.2.size) hn HV.out).mono ?_
      rintro e w1 ⟨rfl, hb1⟩
      have HB1 := Lib.hid (And.intro (HB.out.1.later hb1) (bTr HB.out.2 hb1))
      clear hb1 HB
      by_cases hfit : lcmF L n ≤ 1152921504606846976
      · simp only [if_pos hfit, decide_eq_true hfit]
        have hD0 := lcmF_pos L n HP.out
        have SR := Lib.hid (sR_yes hfit)
        have HS := Lib.hid (show ratN L n = qn (sumF L (lcmF L n) n) (lcmF L n) ∧ ratD L n = qd (sumF L (lcmF L n) n) (lcmF L n) ∧ ratE L n = qe (sumF L (lcmF L n) n) (lcmF L n) from ⟨rfl, rfl, rfl⟩)
        have HSB := Lib.hid (fun k (hk : k ≤ n) => sumF_bd L (lcmF L n) k (by omega) (by omega) (fun i hi => ⟨by obtain ⟨-, -, x, y, -⟩ := (valid_iff _ _).1 (HV.out i (by omega)); omega, HP.out i (by omega)⟩))
        obtain ⟨D, hD⟩ : ∃ D, lcmF L n = D := ⟨_, rfl⟩
        rw [hD] at hfit hD0 HS HSB ⊢
        clear hD
        have HSB2 := HSB
        clear HSB
        go_wp2_with fail
        have L0 : Hid (Blk (w1.alloc (.cells #[.int .u64 0, .int .u64 0] 78)) w.heap.size 50 #[.int .i64 0, .int .i64 0] ∧ Blk (w1.alloc (.cells #[.int .u64 0, .int .u64 0] 78)) w1.heap.size 78 #[.int .u64 (Rep.hi (sumF L D 0)), .int .u64 (Rep.lo (sumF L D 0))] ∧ Below w.heap.size w (w1.alloc (.cells #[.int .u64 0, .int .u64 0] 78))) := ⟨HB1.out.1.alloc _, Blk.newAt rfl, bAl HB1.out.2 _⟩
        have hw1 := HB1.out.1.lt
        go_loopw [37] (fun i wr => ∃ k : Nat, i = .int .i64 k ∧ k ≤ n ∧ Hid (Blk wr w.heap.size 50 #[.int .i64 0, .int .i64 0] ∧ Blk wr w1.heap.size 78 #[.int .u64 (Rep.hi (sumF L D k)), .int .u64 (Rep.lo (sumF L D k))] ∧ Below w.heap.size w wr)) (fun i _ => n - (intOf i).toNat)
        case atStart => exact ⟨0, rfl, Nat.zero_le _, L0⟩
        case round =>
          clear L0 HB1
          obtain ⟨k, rfl, hk, HB⟩ := hrel
          obtain ⟨zb0, zb1⟩ := HSB2.out k hk
          by_cases hkn : k < n
          · have hkn' : (k : Int) < (n : Int) := by omega
            obtain ⟨b, off, rfl, hbB, g0, g1⟩ := HR.out k hkn
            have c0 := (HB.out.2.2.cell (p := ⟨b, off + k * 2, none⟩) hbB).trans g0
            have c1 := (HB.out.2.2.cell (p := ⟨b, off + k * 2 + 1, none⟩) hbB).trans g1
            obtain ⟨d1, d2, e1, e2, -⟩ := (valid_iff _ _).1 (HV.out k hkn)
            have HN := Lib.hid (show sumF L D (k + 1) = sumF L D k + (L k).1 * ((D : Int) / (L k).2) from rfl)
            clear g0 g1
            generalize (L k).1 = p at c0 e1 e2 HN
            generalize (L k).2 = d at c1 d1 d2 HN
            obtain ⟨q1, q2⟩ := quo_bd2 (D := (D : Int)) (d := d) (by omega) (by omega) (by omega)
            have hgn : ¬ d = 0 := by omega
            have HQQ := Lib.hid (IntWalk.i64_quo (D : Int) d ⟨by omega, by omega, by omega⟩)
            have hzl := HB.out.2.1.lt
            go_wp2_with fail
            have B8 := Lib.hid (HB.out.2.1.alloc (.cells #[.int .i64 p, .int .i64 d] 50))
            have BR := Lib.hid (HB.out.1.alloc (.cells #[.int .i64 p, .int .i64 d] 50))
            have BA := Lib.hid (Blk.newAt (w := wr) (n := wr.heap.size) (t := 50) (cs := #[.int .i64 p, .int .i64 d]) rfl)
            have BB := Lib.hid (bAl HB.out.2.2 (.cells #[.int .i64 p, .int .i64 d] 50))
            have hwr := hzl
            clear HB c0 c1
            obtain ⟨wB, hwB⟩ : ∃ wB, wr.alloc (.cells #[.int .i64 p, .int .i64 d] 50) = wB := ⟨_, rfl⟩
            rw [hwB] at B8 BR BA BB ⊢
            clear hwB
            generalize sumF L (↑D) k = z at B8 HN zb0 zb1
            have KEEP := Lib.hid (show ∀ W, Below wB.heap.size wB W → _ from fun W hW => show (W.cell? ⟨wr.heap.size, 0, none⟩ = some (.int .i64 p) ∧ W.cell? ⟨wr.heap.size, 1, none⟩ = some (.int .i64 d)) from (BA.out.later hW).two.1)
            obtain ⟨a0, a1⟩ := KEEP.out _ (Below.refl _ _)
            obtain ⟨⟨m0, m1⟩, ⟨m2, m3⟩, m4⟩ := B8.out.two
            have HX := Lib.hid (Below.refl wB.heap.size wB)
            have hh := Rep.hi_bd z
            have hl := Rep.lo_bd z
            have ph := Rep.hi_bd (p * ((D : Int) / d))
            have pl := Rep.lo_bd (p * ((D : Int) / d))
            have HH := Lib.hid (Rep.hi_congr_add z (p * ((D : Int) / d)))
            have HL := Lib.hid (Rep.lo_congr_add z (p * ((D : Int) / d)))
            have pb : -9223372036854775808 ≤ (D : Int) / d ∧ (D : Int) / d < 9223372036854775808 ∧ -9223372036854775808 ≤ p ∧ p < 9223372036854775808 := by omega
            obtain ⟨pb1, pb2, pb3, pb4⟩ := pb
            have t1 := HQQ.out
            have t2 : IntKind.i64.wrap ((D : Int) / d) = (D : Int) / d := IntWalk.i64_in _ (by omega)
            go_region_with (first | (go_at_call 57; refine (product_any _ _ _ ?_ ?_ ?_ ?_).mono ?_; (assumption); (assumption); (assumption); (assumption); rintro e w' ⟨rfl, hb⟩; have HX := Lib.hid (bTr (by first | exact HX.out | exact bD1 HX.out) hb); obtain ⟨⟨m0, m1⟩, ⟨m2, m3⟩, m4⟩ := (B8.out.later HX.out).two) | (go_at_call 56; refine (plus_any _ _ _ _ _ hh.1 hl.1 ph.1 pl.1 hh.2 hl.2 ph.2 pl.2).mono ?_; rintro e w' ⟨rfl, hb⟩; rw [HH.out, HL.out]; have HX := Lib.hid (bTr (by first | exact HX.out | exact bD1 HX.out) hb); obtain ⟨⟨m0, m1⟩, ⟨m2, m3⟩, m4⟩ := (B8.out.later HX.out).two))
            all_goals go_wp2
            all_goals go_roundw
            all_goals (first | (case rel => exact ⟨k + 1, by go_num, by omega, (BR.out.later HX.out).off (by omega) _ |>.off (by omega) _, (by rw [HN.out]; exact ((B8.out.later HX.out).set0 _).set1 _), bSt (bSt (bTr BB.out HX.out) (by simp; omega) _) (by simp; omega) _⟩) | (case measure => simp [intOf]; omega))
          · obtain rfl : n = k := by omega
            have hzz : -170141183460469231731687303715884105728 < sumF L (D : Int) n ∧ sumF L (D : Int) n < 170141183460469231731687303715884105728 := by omega
            have HQ : Hid (rnum (decide (sumF L (D : Int) n < 0)) (sumF L (D : Int) n).natAbs (D * 1) = ratN L n ∧ rden (sumF L (D : Int) n).natAbs (D * 1) = ratD L n ∧ rerr (sumF L (D : Int) n).natAbs (D * 1) = ratE L n) := by
              rw [HS.out.1, HS.out.2.1, HS.out.2.2, Nat.mul_one]
              unfold qn qd qe
              rw [Int.natAbs_natCast]
              exact ⟨rfl, rfl, rfl⟩
            have hDb : -9223372036854775808 ≤ (D : Int) ∧ (D : Int) < 9223372036854775808 := by omega
            obtain ⟨hDb1, hDb2⟩ := hDb
            have QU := Lib.hid (fun w => quotient_any (sumF L (D : Int) n) D 1 w hzz.1 hzz.2 hD0 (by omega) (by omega) (by omega) (Nat.gcd_one_right _))
            clear hzz zb0 zb1 HSB2
            generalize sumF L (D : Int) n = z at HB HQ QU
            have KEEP := Lib.hid (show ∀ W, Below wr.heap.size wr W → _ from fun W hW => show (W.cell? ⟨w1.heap.size, 0, none⟩ = some (.int .u64 (Rep.hi z)) ∧ W.cell? ⟨w1.heap.size, 1, none⟩ = some (.int .u64 (Rep.lo z))) from (HB.out.2.1.later hW).two.1)
            obtain ⟨a0, a1⟩ := KEEP.out _ (Below.refl _ _)
            obtain ⟨⟨r0, r1⟩, ⟨q0, q1⟩, hzr⟩ := HB.out.1.two
            have HX := Lib.hid (Below.refl wr.heap.size wr)
            go_wp2_with fail
            go_region_held3 (fun w' => w'.cell? ⟨w1.heap.size, 0, none⟩ = some (.int .u64 (Rep.hi z)) ∧ w'.cell? ⟨w1.heap.size, 1, none⟩ = some (.int .u64 (Rep.lo z))) (first | exact KEEP.out _ HX.out | exact KEEP.out _ (bD1 HX.out) | (go_split_ands; refine ⟨?_, ?_⟩ <;> (rw [World.cell?_setCell_other _ _ _ _ (by first | (simp; done) | (simp; omega)), World.cell?_setCell_other _ _ _ _ (by first | (simp; done) | (simp; omega))]; assumption)) | go_keep)
              (first | (go_at_call 59; refine (magnitude_any _ hDb1 hDb2 _).mono ?_; rintro e w' ⟨rfl, rfl⟩; rw [Int.natAbs_natCast]) | (go_at_call 58; refine (QU.out _).mono ?_; rintro e w' ⟨rfl, hb⟩; have HX := Lib.hid (bTr (by first | exact HX.out | exact bD1 HX.out) hb); obtain ⟨⟨r0, r1⟩, ⟨q0, q1⟩, hzr⟩ := (HB.out.1.later HX.out).two))
            have HFIT := Lib.hid hfit
            clear hDb1 hDb2 hfit hD0 hk hkn hn' hb a0 a1
            go_wp2
            refine bodyPost_ret (v := .tuple #[.agg #[.int .i64 (rnum (decide (z < 0)) z.natAbs (D * 1)), .int .i64 (rden z.natAbs (D * 1))], .int .i64 (rerr z.natAbs (D * 1))]) (by simp [results, Try.results34, go_sem, r0, r1, hzr]) rfl ⟨?_, ?_⟩
            · rw [HQ.out.1, HQ.out.2.1, HQ.out.2.2, SR.out.1, SR.out.2.1, SR.out.2.2]
            · exact bSt (bSt (bTr HB.out.2.2 HX.out) (by simp) _) (by simp) _
      · simp only [if_neg hfit, decide_eq_false hfit]
        have SR := Lib.hid (sR_no hfit)
        obtain ⟨⟨r0, r1⟩, ⟨q0, q1⟩, hzr⟩ := HB1.out.1.two
        go_wp2
        refine bodyPost_ret (v := .tuple #[.agg #[.int .i64 0, .int .i64 0], .int .i64 6]) (by simp [results, Try.results34, go_sem, r0, r1, hzr]) rfl ⟨ret3 SR.out, ?_⟩
        exact bSt (bSt HB1.out.2 (by simp) _) (by simp) _
end Go.Proofs.Ytglikjdgjmijfaa
