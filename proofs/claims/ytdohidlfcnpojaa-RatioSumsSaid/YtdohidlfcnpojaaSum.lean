/-
  Sum of package ratio: the least common multiple, the sum, the answer.
-/
import Derived.Test.YtdohidlfcnpojaaTotal
import Derived.Deep.RegionWith
namespace Go.Proofs.Ytdohidlfcnpojaa
open Go.RowKit
set_option linter.unusedSimpArgs false
set_option linter.unusedVariables false

/-- a fraction in a list -/
abbrev Fr := Int × Int
/-- the least common multiple of the first k denominators -/
def lcmF (L : Nat → Fr) : Nat → Nat
  | 0 => 1
  | k + 1 => Nat.lcm (lcmF L k) (L k).2.natAbs
/-- the sum of the first k numerators over the denominator D -/
def sumF (L : Nat → Fr) (D : Int) : Nat → Int
  | 0 => 0
  | k + 1 => sumF L D k + (L k).1 * (D / (L k).2)
theorem lcmF_pos (L : Nat → Fr) (k : Nat) (h : ∀ i, i < k → 0 < (L i).2) : 0 < lcmF L k := by
  induction k with
  | zero => exact Nat.one_pos
  | succ k ih => exact Nat.lcm_pos (ih fun i hi => h i (by omega)) (by have := h k (by omega); omega)
theorem lcmF_dvd_next (L : Nat → Fr) (k : Nat) : lcmF L k ∣ lcmF L (k + 1) := Nat.dvd_lcm_left _ _
theorem lcmF_mono (L : Nat → Fr) {k n : Nat} (h : k ≤ n) : lcmF L k ∣ lcmF L n := by
  induction n with
  | zero => obtain rfl : k = 0 := by omega
            exact Nat.dvd_refl _
  | succ n ih =>
    rcases Nat.lt_or_ge k (n + 1) with g | g
    · exact Nat.dvd_trans (ih (by omega)) (lcmF_dvd_next L n)
    · obtain rfl : k = n + 1 := by omega
      exact Nat.dvd_refl _
theorem lcmF_le (L : Nat → Fr) {k n : Nat} (h : k ≤ n) (hp : ∀ i, i < n → 0 < (L i).2) : lcmF L k ≤ lcmF L n := Nat.le_of_dvd (lcmF_pos L n hp) (lcmF_mono L h)
theorem den_dvd (L : Nat → Fr) {i n : Nat} (h : i < n) : (L i).2.natAbs ∣ lcmF L n := Nat.dvd_trans (Nat.dvd_lcm_right (lcmF L i) _) (lcmF_mono L (show i + 1 ≤ n by omega))
/-- the step of the loop: all / gcd * den -/
theorem lcm_step (a d : Nat) : a / Nat.gcd a d * d = Nat.lcm a d := by
  unfold Nat.lcm
  rw [Nat.div_mul_right_comm (Nat.gcd_dvd_left a d)]
theorem quo_bd2 {D d : Int} (hD : 0 ≤ D) (hD1 : D ≤ 1152921504606846976) (hd : 0 < d) : 0 ≤ D / d ∧ D / d ≤ 1152921504606846976 := by
  refine ⟨Int.ediv_nonneg hD (by omega), ?_⟩
  exact Int.le_trans (Int.ediv_le_self d hD) hD1
theorem prod_bd {x y : Int} (hx : x.natAbs ≤ 1152921504606846976) (hy : y.natAbs ≤ 1152921504606846976) : -1329227995784915872903807060280344576 ≤ x * y ∧ x * y ≤ 1329227995784915872903807060280344576 := by
  have h := Nat.mul_le_mul hx hy
  rw [← Int.natAbs_mul] at h
  omega
theorem sumF_bd (L : Nat → Fr) (D : Int) (k : Nat) (hD : 0 ≤ D) (hD1 : D ≤ 1152921504606846976) (h : ∀ i, i < k → (L i).1.natAbs ≤ 1152921504606846976 ∧ 0 < (L i).2) : -((k : Int) * 1329227995784915872903807060280344576) ≤ sumF L D k ∧ sumF L D k ≤ (k : Int) * 1329227995784915872903807060280344576 := by
  induction k with
  | zero => show _ ≤ (0 : Int) ∧ (0 : Int) ≤ _; omega
  | succ k ih =>
    obtain ⟨h1, h2⟩ := h k (by omega)
    obtain ⟨i1, i2⟩ := ih fun i hi => h i (by omega)
    obtain ⟨q1, q2⟩ := quo_bd2 hD hD1 h2
    obtain ⟨p1, p2⟩ := prod_bd (x := (L k).1) (y := D / (L k).2) h1 (by omega)
    show _ ≤ sumF L D k + (L k).1 * (D / (L k).2) ∧ sumF L D k + (L k).1 * (D / (L k).2) ≤ _
    omega
theorem sumF_const (L : Nat → Fr) (a b D : Int) (k : Nat) (h : ∀ i, i < k → L i = (a, b)) : sumF L D k = (k : Int) * (a * (D / b)) := by
  induction k with
  | zero => show (0 : Int) = _; simp
  | succ k ih =>
    show sumF L D k + (L k).1 * (D / (L k).2) = _
    rw [ih fun i hi => h i (by omega), h k (by omega), Int.natCast_add, Int.add_mul]
    simp
theorem lcmF_const (L : Nat → Fr) (a b : Int) (k : Nat) (h : ∀ i, i < k + 1 → L i = (a, b)) : lcmF L (k + 1) = b.natAbs := by
  induction k with
  | zero => show Nat.lcm 1 (L 0).2.natAbs = _; rw [h 0 (by omega), Nat.lcm_one_left]
  | succ k ih =>
    show Nat.lcm (lcmF L (k + 1)) (L (k + 1)).2.natAbs = _
    rw [ih fun i hi => h i (by omega), h (k + 1) (by omega), Nat.lcm_self]

/-- the fractions of a slice: each lies below block B -/
def RowR (w : World) (B : Nat) (o : Option Addr) (n : Nat) (L : Nat → Fr) : Prop :=
  ∀ i, i < n → ∃ b off, o = some ⟨b, off, none⟩ ∧ b < B ∧ w.cell? ⟨b, off + i * 2, none⟩ = some (.int .i64 (L i).1) ∧ w.cell? ⟨b, off + i * 2 + 1, none⟩ = some (.int .i64 (L i).2)
theorem RowR.below {w w' : World} {B C n : Nat} {o : Option Addr} {L : Nat → Fr} (h : RowR w B o n L) (hb : Below C w w') (hB : B ≤ C) : RowR w' B o n L := fun i hi => by
  obtain ⟨b, off, ho, hl, h1, h2⟩ := h i hi
  exact ⟨b, off, ho, hl, (hb.cell (p := ⟨b, off + i * 2, none⟩) (show b < C by omega)).trans h1, (hb.cell (p := ⟨b, off + i * 2 + 1, none⟩) (show b < C by omega)).trans h2⟩
theorem RowR.more {w : World} {B C n : Nat} {o : Option Addr} {L : Nat → Fr} (h : RowR w B o n L) (hB : B ≤ C) : RowR w C o n L := fun i hi => by
  obtain ⟨b, off, ho, hl, h1⟩ := h i hi
  exact ⟨b, off, ho, by omega, h1⟩
theorem ret_ib {a a' : Int} {b b' : Bool} (h : a = a') (k : b = b') : Ending.returned (.tuple #[.int .i64 a, .bool b]) = .returned (.tuple #[.int .i64 a', .bool b']) := by rw [h, k]
theorem den_pos' {a b : Int} (h : Frac.valid a b = true) : 0 < b := by have := ((valid_iff a b).1 h).1; omega
theorem val_lo {x : Int} (h0 : 0 ≤ x) (h1 : x ≤ 1152921504606846976) : Rep.lo x = x := by unfold Rep.lo; omega
set_option maxRecDepth 100000 in
set_option maxHeartbeats 4000000 in
theorem least_any (o : Option Addr) (n c : Nat) (L : Nat → Fr) (w : World) (hr : RowR w w.heap.size o n L) (hn : n ≤ 100) (hv : ∀ i, i < n → Frac.valid (L i).1 (L i).2 = true) :
    Calls Try.prog 56 #[.slice o n c] w fun e w' => e = .returned (.tuple #[.int .i64 (if lcmF L n ≤ 1152921504606846976 then (lcmF L n : Int) else 0), .bool (decide (lcmF L n ≤ 1152921504606846976))]) ∧ Below w.heap.size w w' := by
  have HR := Lib.hid hr
  have HV := Lib.hid hv
  have HP := Lib.hid (fun i (hi : i < n) => den_pos' (hv i hi))
  clear hr hv
  go_enter Try.func56, Try.ntmps56
  go_wp2
  go_loopw [4, 11] (fun v i wr => ∃ (k x : Nat), i = .int .i64 k ∧ k ≤ n ∧ v = .int .u64 (x : Int) ∧ Hid (x = lcmF L k) ∧ x ≤ 1152921504606846976 ∧ Hid (Below w.heap.size w wr)) (fun _ i _ => n - (intOf i).toNat)
  case atStart => exact ⟨0, 1, rfl, Nat.zero_le _, rfl, rfl, by omega, Below.refl _ _⟩
  case round =>
    obtain ⟨k, x, rfl, hk, rfl, HX0, hx, HB⟩ := hrel
    by_cases hkn : k < n
    · have hkn' : (k : Int) < (n : Int) := by omega
      obtain ⟨b, off, rfl, hbB, g0, g1⟩ := HR.out k hkn
      have c0 := (HB.out.cell (p := ⟨b, off + k * 2, none⟩) hbB).trans g0
      have c1 := (HB.out.cell (p := ⟨b, off + k * 2 + 1, none⟩) hbB).trans g1
      obtain ⟨d1, d2, e1, e2, -⟩ := (valid_iff _ _).1 (HV.out k hkn)
      have hx0 : 0 < x := by have := lcmF_pos L k (fun i hi => HP.out i (by omega)); rw [← HX0.out] at this; exact this
      have HN := Lib.hid (show x / Nat.gcd x (L k).2.natAbs * (L k).2.natAbs = lcmF L (k + 1) by rw [lcm_step, HX0.out]; rfl)
      have HLE := Lib.hid (lcmF_le L (show k + 1 ≤ n by omega) HP.out)
      clear g0 g1
      generalize (L k).1 = p at c0 e1 e2
      generalize (L k).2 = d at c1 d1 d2 HN
      obtain ⟨dn, rfl⟩ := Int.eq_ofNat_of_zero_le (show 0 ≤ d by omega)
      rw [Int.natAbs_natCast] at HN
      have hg0 : 0 < Nat.gcd x dn := Nat.gcd_pos_of_pos_left _ hx0
      obtain ⟨g, hg⟩ : ∃ g, Nat.gcd x dn = g := ⟨_, rfl⟩
      have HG := Lib.hid hg
      rw [hg] at hg0 HN
      clear hg
      obtain ⟨q, hq⟩ : ∃ q : Nat, (x : Int) / (g : Int) = (q : Int) := ⟨x / g, (Int.natCast_ediv _ _).symm⟩
      have hqn : q = x / g := by have := Int.natCast_ediv x g; omega
      have hqx : q ≤ x := by rw [hqn]; exact Nat.div_le_self _ _
      rw [← hqn] at HN
      have HQ := Lib.hid hq
      clear hq hqn
      have hgn : ¬ ((g : Int) = 0) := by omega
      obtain ⟨m, hm⟩ : ∃ m : Nat, q * dn = m := ⟨_, rfl⟩
      have hmb : m ≤ 1329227995784915872903807060280344576 := by rw [← hm]; exact Nat.mul_le_mul (show q ≤ 1152921504606846976 by omega) (show dn ≤ 1152921504606846976 by omega)
      have HM := Lib.hid (show (q : Int) * (dn : Int) = (m : Int) by rw [← Int.natCast_mul, hm])
      rw [hm] at HN
      clear hm
      go_wp2_with fail
      refine (magnitude_any _ (by omega) (by omega) _).mono ?_
      rintro e w1 ⟨rfl, rfl⟩
      rw [Int.natAbs_natCast]
      go_wp2_with fail
      refine (gcd_any x dn (by omega) (by omega) _).mono ?_
      rintro e w2 ⟨rfl, n2, rfl⟩
      rw [HG.out]
      have t1 := HQ.out
      go_wp2_with fail
      clear t1
      refine (times_any _ _ (by omega) (by omega) (by omega) (by omega) _).mono ?_
      rintro e w3 ⟨rfl, hb3⟩
      rw [HM.out]
      have HB3 := Lib.hid (bTr (bDr (bAl HB.out _) _) hb3)
      clear hb3 HB c0 c1
      have hh := Rep.hi_bd (m : Int)
      have hl := Rep.lo_bd (m : Int)
      go_wp2_with fail
      refine (fits_any _ _ _ hh.1 hl.1).mono ?_
      rintro e w4 ⟨rfl, hb4⟩
      rw [Rep.val_hi_lo (m : Int) (by omega) (by omega)]
      obtain ⟨⟨u0, u1⟩, -, u2⟩ := ((Blk.newAt (w := w3) (t := 60) (cs := #[.int .u64 (Rep.hi (m : Int)), .int .u64 (Rep.lo (m : Int))]) rfl).later hb4).two
      have HB4 := Lib.hid (bTr (bAl HB3.out _) hb4)
      clear hb4 HB3
      by_cases hfit : m ≤ 1152921504606846976
      · have tf : decide ((m : Int) ≤ 1152921504606846976) = true := decide_eq_true (by omega)
        have hlm : Rep.lo (m : Int) = (m : Int) := val_lo (by omega) (by omega)
        go_wp2
        go_roundw
        case rel => exact ⟨k + 1, m, by go_num, by omega, by first | rfl | rw [hlm], HN.out, hfit, HB4.out⟩
        case measure => simp [intOf]; omega
      · have tf : decide ((m : Int) ≤ 1152921504606846976) = false := decide_eq_false (by omega)
        have HF := Lib.hid (show ¬ lcmF L n ≤ 1152921504606846976 by have := HLE.out; rw [← HN.out] at this; omega)
        go_wp2
        go_ret2
        exact ⟨ret_ib (by first | rfl | rw [if_neg HF.out]) (by first | rfl | exact (decide_eq_false HF.out).symm), HB4.out⟩
    · obtain rfl : n = k := by omega
      have HF := Lib.hid (show lcmF L n ≤ 1152921504606846976 by rw [← HX0.out]; exact hx)
      go_wp2
      go_ret2
      exact ⟨ret_ib (by first | rw [HX0.out] | (rw [if_pos HF.out, HX0.out])) (by first | rfl | exact (decide_eq_true HF.out).symm), HB.out⟩

def sumN (L : Nat → Fr) (n : Nat) : Int := qn (sumF L (lcmF L n) n) (lcmF L n)
def sumD (L : Nat → Fr) (n : Nat) : Int := qd (sumF L (lcmF L n) n) (lcmF L n)
def sumE (L : Nat → Fr) (n : Nat) : Int := qe (sumF L (lcmF L n) n) (lcmF L n)
def sRN (L : Nat → Fr) (n : Nat) : Int := if lcmF L n ≤ 1152921504606846976 then sumN L n else 0
def sRD (L : Nat → Fr) (n : Nat) : Int := if lcmF L n ≤ 1152921504606846976 then sumD L n else 0
def sRE (L : Nat → Fr) (n : Nat) : Int := if lcmF L n ≤ 1152921504606846976 then sumE L n else 6
theorem sR_yes {L : Nat → Fr} {n : Nat} (h : lcmF L n ≤ 1152921504606846976) : sRN L n = sumN L n ∧ sRD L n = sumD L n ∧ sRE L n = sumE L n := by unfold sRN sRD sRE; rw [if_pos h, if_pos h, if_pos h]; exact ⟨rfl, rfl, rfl⟩
theorem sR_no {L : Nat → Fr} {n : Nat} (h : ¬ lcmF L n ≤ 1152921504606846976) : 0 = sRN L n ∧ 0 = sRD L n ∧ 6 = sRE L n := by unfold sRN sRD sRE; rw [if_neg h, if_neg h, if_neg h]; exact ⟨rfl, rfl, rfl⟩
theorem sum_limit (o : Option Addr) (n c : Nat) (w : World) (hn : 100 < n) (hn1 : n ≤ 1000000) :
    Calls Try.prog 23 #[.slice o n c] w fun e w' => e = .returned (.tuple #[.agg #[.int .i64 0, .int .i64 0], .int .i64 3]) ∧ Below w.heap.size w w' := by
  have hn' : (100 : Int) < (n : Int) := by omega
  go_enter Try.func23, Try.ntmps23
  go_wp2
  refine bodyPost_ret (v := .tuple #[.agg #[.int .i64 0, .int .i64 0], .int .i64 3]) (by simp [results, Try.results23, go_sem]) rfl ⟨rfl, ?_⟩
  exact bAl (Below.refl _ _) _
/-- the memory of Sum: its result, the total so far -/
structure SP (w : World) (z : Int) (wr : World) : Prop where
  b0 : Blk wr w.heap.size 26 #[.int .i64 0, .int .i64 0]
  hb : Below w.heap.size w wr
set_option maxRecDepth 100000 in
set_option maxHeartbeats 8000000 in
theorem sum_yes (o : Option Addr) (n c : Nat) (L : Nat → Fr) (w : World) (hr : RowR w w.heap.size o n L) (hn : n ≤ 100) (hv : ∀ i, i < n → Frac.valid (L i).1 (L i).2 = true) :
    Calls Try.prog 23 #[.slice o n c] w fun e w' => e = .returned (.tuple #[.agg #[.int .i64 (sRN L n), .int .i64 (sRD L n)], .int .i64 (sRE L n)]) ∧ Below w.heap.size w w' := by
  have HR := Lib.hid hr
  have HV := Lib.hid hv
  have HP := Lib.hid (fun i (hi : i < n) => den_pos' (hv i hi))
  have hn' : ¬ (100 : Int) < (n : Int) := by omega
  clear hr hv
  go_enter Try.func23, Try.ntmps23
  go_wp2
  have B0 : Blk (w.alloc (.cells #[.int .i64 0, .int .i64 0] 26)) w.heap.size 26 #[.int .i64 0, .int .i64 0] := Blk.newAt rfl
  have hb0 := bAl (Below.refl w.heap.size w) (.cells #[.int .i64 0, .int .i64 0] 26)
  go_loopw [17] (fun i wr => ∃ k : Nat, i = .int .i64 k ∧ k ≤ n ∧ Hid (Blk wr w.heap.size 26 #[.int .i64 0, .int .i64 0] ∧ Below w.heap.size w wr)) (fun i _ => n - (intOf i).toNat)
  case atStart => exact ⟨0, rfl, Nat.zero_le _, B0, hb0⟩
  case round =>
    clear B0 hb0
    obtain ⟨k, rfl, hk, HB⟩ := hrel
    by_cases hkn : k < n
    · have hkn' : (k : Int) < (n : Int) := by omega
      obtain ⟨b, off, rfl, hbB, g0, g1⟩ := HR.out k hkn
      have c0 := (HB.out.2.cell (p := ⟨b, off + k * 2, none⟩) hbB).trans g0
      have c1 := (HB.out.2.cell (p := ⟨b, off + k * 2 + 1, none⟩) hbB).trans g1
      have hvk := HV.out k hkn
      obtain ⟨d1, d2, e1, e2, -⟩ := (valid_iff _ _).1 hvk
      have HVK := Lib.hid hvk
      clear g0 g1 hvk
      generalize (L k).1 = p at c0 e1 e2 HVK
      generalize (L k).2 = d at c1 d1 d2 HVK
      go_wp2_with fail
      refine (valid_any _ _ (by omega) (by omega) (by omega) (by omega) _).mono ?_
      rintro e w1 ⟨rfl, hb1⟩
      rw [HVK.out]
      have HB1 := Lib.hid (And.intro ((HB.out.1.alloc _).later hb1) (bTr (bAl HB.out.2 _) hb1))
      clear hb1 HB c0 c1
      go_wp2
      go_roundw
      case rel => exact ⟨k + 1, by go_num, by omega, HB1.out⟩
      case measure => simp [intOf]; omega
    · obtain rfl : n = k := by omega
      go_wp2_with fail
      refine (least_any o n c L _ ((HR.out.below HB.out.2 (Nat.le_refl _)).more HB.out.2.size) hn HV.out).mono ?_
      rintro e w1 ⟨rfl, hb1⟩
      have HB1 := Lib.hid (And.intro (HB.out.1.later hb1) (bTr HB.out.2 hb1))
      clear hb1 HB
      by_cases hfit : lcmF L n ≤ 1152921504606846976
      · simp only [if_pos hfit, decide_eq_true hfit]
        have hD0 := lcmF_pos L n HP.out
        have SR := Lib.hid (sR_yes hfit)
        have HS := Lib.hid (show sumN L n = qn (sumF L (lcmF L n) n) (lcmF L n) ∧ sumD L n = qd (sumF L (lcmF L n) n) (lcmF L n) ∧ sumE L n = qe (sumF L (lcmF L n) n) (lcmF L n) from ⟨rfl, rfl, rfl⟩)
        have HSB := Lib.hid (fun k (hk : k ≤ n) => sumF_bd L (lcmF L n) k (by omega) (by omega) (fun i hi => ⟨by obtain ⟨-, -, x, y, -⟩ := (valid_iff _ _).1 (HV.out i (by omega)); omega, HP.out i (by omega)⟩))
        obtain ⟨D, hD⟩ : ∃ D, lcmF L n = D := ⟨_, rfl⟩
        rw [hD] at hfit hD0 HS HSB ⊢
        clear hD
        have HSB2 := HSB
        clear HSB
        go_wp2_with fail
        have L0 : Hid (Blk (w1.alloc (.cells #[.int .u64 0, .int .u64 0] 60)) w.heap.size 26 #[.int .i64 0, .int .i64 0] ∧ Blk (w1.alloc (.cells #[.int .u64 0, .int .u64 0] 60)) w1.heap.size 60 #[.int .u64 (Rep.hi (sumF L D 0)), .int .u64 (Rep.lo (sumF L D 0))] ∧ Below w.heap.size w (w1.alloc (.cells #[.int .u64 0, .int .u64 0] 60))) := ⟨HB1.out.1.alloc _, Blk.newAt rfl, bAl HB1.out.2 _⟩
        have hw1 := HB1.out.1.lt
        go_loopw [37] (fun i wr => ∃ k : Nat, i = .int .i64 k ∧ k ≤ n ∧ Hid (Blk wr w.heap.size 26 #[.int .i64 0, .int .i64 0] ∧ Blk wr w1.heap.size 60 #[.int .u64 (Rep.hi (sumF L D k)), .int .u64 (Rep.lo (sumF L D k))] ∧ Below w.heap.size w wr)) (fun i _ => n - (intOf i).toNat)
        case atStart => exact ⟨0, rfl, Nat.zero_le _, L0⟩
        case round =>
          clear L0 HB1
          obtain ⟨k, rfl, hk, HB⟩ := hrel
          obtain ⟨zb0, zb1⟩ := HSB2.out k hk
          by_cases hkn : k < n
          · have hkn' : (k : Int) < (n : Int) := by omega
            obtain ⟨b, off, rfl, hbB, g0, g1⟩ := HR.out k hkn
            have c0 := (HB.out.2.2.cell (p := ⟨b, off + k * 2, none⟩) hbB).trans g0
            have c1 := (HB.out.2.2.cell (p := ⟨b, off + k * 2 + 1, none⟩) hbB).trans g1
            obtain ⟨d1, d2, e1, e2, -⟩ := (valid_iff _ _).1 (HV.out k hkn)
            have HN := Lib.hid (show sumF L D (k + 1) = sumF L D k + (L k).1 * ((D : Int) / (L k).2) from rfl)
            clear g0 g1
            generalize (L k).1 = p at c0 e1 e2 HN
            generalize (L k).2 = d at c1 d1 d2 HN
            obtain ⟨q1, q2⟩ := quo_bd2 (D := (D : Int)) (d := d) (by omega) (by omega) (by omega)
            have hgn : ¬ d = 0 := by omega
            have HQQ := Lib.hid (IntWalk.i64_quo (D : Int) d ⟨by omega, by omega, by omega⟩)
            have hzl := HB.out.2.1.lt
            go_wp2_with fail
            have B8 := Lib.hid (HB.out.2.1.alloc (.cells #[.int .i64 p, .int .i64 d] 26))
            have BR := Lib.hid (HB.out.1.alloc (.cells #[.int .i64 p, .int .i64 d] 26))
            have BA := Lib.hid (Blk.newAt (w := wr) (n := wr.heap.size) (t := 26) (cs := #[.int .i64 p, .int .i64 d]) rfl)
            have BB := Lib.hid (bAl HB.out.2.2 (.cells #[.int .i64 p, .int .i64 d] 26))
            have hwr := hzl
            clear HB c0 c1
            obtain ⟨wB, hwB⟩ : ∃ wB, wr.alloc (.cells #[.int .i64 p, .int .i64 d] 26) = wB := ⟨_, rfl⟩
            rw [hwB] at B8 BR BA BB ⊢
            clear hwB
            generalize sumF L (↑D) k = z at B8 HN zb0 zb1
            have KEEP := Lib.hid (show ∀ W, Below wB.heap.size wB W → _ from fun W hW => show (W.cell? ⟨wr.heap.size, 0, none⟩ = some (.int .i64 p) ∧ W.cell? ⟨wr.heap.size, 1, none⟩ = some (.int .i64 d)) from (BA.out.later hW).two.1)
            obtain ⟨a0, a1⟩ := KEEP.out _ (Below.refl _ _)
            obtain ⟨⟨m0, m1⟩, ⟨m2, m3⟩, m4⟩ := B8.out.two
            have HX := Lib.hid (Below.refl wB.heap.size wB)
            have hh := Rep.hi_bd z
            have hl := Rep.lo_bd z
            have ph := Rep.hi_bd (p * ((D : Int) / d))
            have pl := Rep.lo_bd (p * ((D : Int) / d))
            have HH := Lib.hid (Rep.hi_congr_add z (p * ((D : Int) / d)))
            have HL := Lib.hid (Rep.lo_congr_add z (p * ((D : Int) / d)))
            have pb : -9223372036854775808 ≤ (D : Int) / d ∧ (D : Int) / d < 9223372036854775808 ∧ -9223372036854775808 ≤ p ∧ p < 9223372036854775808 := by omega
            obtain ⟨pb1, pb2, pb3, pb4⟩ := pb
            have t1 := HQQ.out
            have t2 : IntKind.i64.wrap ((D : Int) / d) = (D : Int) / d := IntWalk.i64_in _ (by omega)
            go_region_with (first | (go_at_call 46; refine (product_any _ _ _ ?_ ?_ ?_ ?_).mono ?_; (assumption); (assumption); (assumption); (assumption); rintro e w' ⟨rfl, hb⟩; have HX := Lib.hid (bTr (by first | exact HX.out | exact bD1 HX.out) hb); obtain ⟨⟨m0, m1⟩, ⟨m2, m3⟩, m4⟩ := (B8.out.later HX.out).two) | (go_at_call 47; refine (plus_any _ _ _ _ _ hh.1 hl.1 ph.1 pl.1 hh.2 hl.2 ph.2 pl.2).mono ?_; rintro e w' ⟨rfl, hb⟩; rw [HH.out, HL.out]; have HX := Lib.hid (bTr (by first | exact HX.out | exact bD1 HX.out) hb); obtain ⟨⟨m0, m1⟩, ⟨m2, m3⟩, m4⟩ := (B8.out.later HX.out).two))
            all_goals go_wp2
            all_goals go_roundw
            all_goals (first | (case rel => exact ⟨k + 1, by go_num, by omega, (BR.out.later HX.out).off (by omega) _ |>.off (by omega) _, (by rw [HN.out]; exact ((B8.out.later HX.out).set0 _).set1 _), bSt (bSt (bTr BB.out HX.out) (by simp; omega) _) (by simp; omega) _⟩) | (case measure => simp [intOf]; omega))
          · obtain rfl : n = k := by omega
            have hzz : -170141183460469231731687303715884105728 < sumF L (D : Int) n ∧ sumF L (D : Int) n < 170141183460469231731687303715884105728 := by omega
            have HQ : Hid (rnum (decide (sumF L (D : Int) n < 0)) (sumF L (D : Int) n).natAbs (D * 1) = sumN L n ∧ rden (sumF L (D : Int) n).natAbs (D * 1) = sumD L n ∧ rerr (sumF L (D : Int) n).natAbs (D * 1) = sumE L n) := by
              rw [HS.out.1, HS.out.2.1, HS.out.2.2, Nat.mul_one]
              unfold qn qd qe
              rw [Int.natAbs_natCast]
              exact ⟨rfl, rfl, rfl⟩
            have hDb : -9223372036854775808 ≤ (D : Int) ∧ (D : Int) < 9223372036854775808 := by omega
            obtain ⟨hDb1, hDb2⟩ := hDb
            have QU := Lib.hid (fun w => quotient_any (sumF L (D : Int) n) D 1 w hzz.1 hzz.2 hD0 (by omega) (by omega) (by omega) (Nat.gcd_one_right _))
            clear hzz zb0 zb1 HSB2
            generalize sumF L (D : Int) n = z at HB HQ QU
            have KEEP := Lib.hid (show ∀ W, Below wr.heap.size wr W → _ from fun W hW => show (W.cell? ⟨w1.heap.size, 0, none⟩ = some (.int .u64 (Rep.hi z)) ∧ W.cell? ⟨w1.heap.size, 1, none⟩ = some (.int .u64 (Rep.lo z))) from (HB.out.2.1.later hW).two.1)
            obtain ⟨a0, a1⟩ := KEEP.out _ (Below.refl _ _)
            obtain ⟨⟨r0, r1⟩, ⟨q0, q1⟩, hzr⟩ := HB.out.1.two
            have HX := Lib.hid (Below.refl wr.heap.size wr)
            go_wp2_with fail
            go_region_held3 (fun w' => w'.cell? ⟨w1.heap.size, 0, none⟩ = some (.int .u64 (Rep.hi z)) ∧ w'.cell? ⟨w1.heap.size, 1, none⟩ = some (.int .u64 (Rep.lo z))) (first | exact KEEP.out _ HX.out | exact KEEP.out _ (bD1 HX.out) | (go_split_ands; refine ⟨?_, ?_⟩ <;> (rw [World.cell?_setCell_other _ _ _ _ (by first | (simp; done) | (simp; omega)), World.cell?_setCell_other _ _ _ _ (by first | (simp; done) | (simp; omega))]; assumption)) | go_keep)
              (first | (go_at_call 45; refine (magnitude_any _ hDb1 hDb2 _).mono ?_; rintro e w' ⟨rfl, rfl⟩; rw [Int.natAbs_natCast]) | (go_at_call 48; refine (QU.out _).mono ?_; rintro e w' ⟨rfl, hb⟩; have HX := Lib.hid (bTr (by first | exact HX.out | exact bD1 HX.out) hb); obtain ⟨⟨r0, r1⟩, ⟨q0, q1⟩, hzr⟩ := (HB.out.1.later HX.out).two))
            have HFIT := Lib.hid hfit
            clear hDb1 hDb2 hfit hD0 hk hkn hn' hb a0 a1
            go_wp2
            refine bodyPost_ret (v := .tuple #[.agg #[.int .i64 (rnum (decide (z < 0)) z.natAbs (D * 1)), .int .i64 (rden z.natAbs (D * 1))], .int .i64 (rerr z.natAbs (D * 1))]) (by simp [results, Try.results23, go_sem, r0, r1, hzr]) rfl ⟨?_, ?_⟩
            · rw [HQ.out.1, HQ.out.2.1, HQ.out.2.2, SR.out.1, SR.out.2.1, SR.out.2.2]
            · exact bSt (bSt (bTr HB.out.2.2 HX.out) (by simp) _) (by simp) _
      · simp only [if_neg hfit, decide_eq_false hfit]
        have SR := Lib.hid (sR_no hfit)
        obtain ⟨⟨r0, r1⟩, ⟨q0, q1⟩, hzr⟩ := HB1.out.1.two
        go_wp2
        refine bodyPost_ret (v := .tuple #[.agg #[.int .i64 0, .int .i64 0], .int .i64 6]) (by simp [results, Try.results23, go_sem, r0, r1, hzr]) rfl ⟨ret3 SR.out, ?_⟩
        exact bSt (bSt HB1.out.2 (by simp) _) (by simp) _
end Go.Proofs.Ytdohidlfcnpojaa
