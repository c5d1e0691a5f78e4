/-
  Contracts of the division of two words by one (math/bits.Div64).
-/
import Derived.Test.YtphlkeoailapcaaWide
import Derived.Laws.BitsAllLaws
import Derived.RegionTactic
import Derived.Deep.DeepCutAuto
import Derived.Deep.CutBlock
import Derived.Lib.ItoaNum
namespace Go.Proofs.Ytphlkeoailapcaa
open Go.RowKit
set_option linter.unusedSimpArgs false
set_option linter.unusedVariables false

set_option maxRecDepth 100000 in
set_option maxHeartbeats 1000000 in
theorem div64_zero (l y : Int) (w : World) (l0 : 0 ≤ l) (l1 : l < 18446744073709551616) (y0 : 0 < y) (y1 : y < 18446744073709551616) :
    Calls Try.prog 93 #[.int .u64 0, .int .u64 l, .int .u64 y] w fun e w' => e = .returned (.tuple #[.int .u64 (l / y), .int .u64 (l % y)]) ∧ ∃ n, w' = w.drewN n := by
  have e1 : (y == 0) = false := by rw [beq_eq_false_iff_ne]; omega
  have e2 : ¬ y ≤ 0 := by omega
  go_enter Try.func93, Try.ntmps93
  go_wp2_with fail
  go_quiet (fail)
  go_wp2
  go_ret2
  exact ⟨rfl, _, rfl⟩

/-- what a run of the correcting loop leaves -/
def IsQuo (T v : Int) (s15 : Value) : Prop := s15 = .int .u64 (T / v)

set_option maxRecDepth 100000 in
set_option maxHeartbeats 4000000 in
theorem div64_core (h l y v yn1 yn0 U L un1 un0 q0 r0 : Int) (s : Nat) (w : World) (hh0 : 0 < h) (hh1 : h < y) (y1 : y < 18446744073709551616) (l0 : 0 ≤ l) (l1 : l < 18446744073709551616)
    (hs : Hid (64 - (Lib.bitLen y.toNat : Int) = (s : Int))) (s1 : (s : Int) < 64)
    (rv : IntKind.u64.wrap (y * 2 ^ s) = v) (rv1 : v / 4294967296 = yn1) (rv0 : bits .and .u64 v 4294967295 = yn0)
    (rU : bits .or .u64 (IntKind.u64.wrap (h * 2 ^ s)) (l / 2 ^ (64 - s)) = U) (rL : IntKind.u64.wrap (l * 2 ^ s) = L)
    (rL1 : L / 4294967296 = un1) (rL0 : bits .and .u64 L 4294967295 = un0) (rq : U / yn1 = q0) (rr : U - q0 * yn1 = r0)
    (EV : Hid (v = yn1 * 4294967296 + yn0)) (v0 : 0 < v) (v1 : v < 18446744073709551616) (yn1b : 2147483648 ≤ yn1) (yn1c : yn1 < 4294967296) (yn0a : 0 ≤ yn0) (yn0b : yn0 < 4294967296)
    (U0 : 0 ≤ U) (U1 : U < v) (L0 : 0 ≤ L) (L1 : L < 18446744073709551616) (un1a : 0 ≤ un1) (un1b : un1 < 4294967296) (un0a : 0 ≤ un0) (un0b : un0 < 4294967296)
    (q0a : 0 ≤ q0) (q0b : q0 ≤ 4294967297) (m0 : 0 ≤ q0 * yn1) (m1 : q0 * yn1 ≤ U) (r0a : 0 ≤ r0) (r0b : r0 < yn1) (ER : Hid (q0 * yn1 + r0 = U)) (EQ : Hid ((U * 4294967296 + un1) / v ≤ q0)) :
    Calls Try.prog 93 #[.int .u64 h, .int .u64 l, .int .u64 y] w fun e w' => e = .returned (.tuple #[.int .u64 ((U * 4294967296 + un1) / v * 4294967296 + ((U * 4294967296 + un1) % v * 4294967296 + un0) / v), .int .u64 (((U * 4294967296 + un1) % v * 4294967296 + un0) % v / 2 ^ s)]) ∧ w = w' := by
  have e1 : (y == 0) = false := by rw [beq_eq_false_iff_ne]; omega
  have e2 : ¬ y ≤ h := by omega
  have e3 : (h == 0) = false := by rw [beq_eq_false_iff_ne]; omega
  have yz : 0 < yn1 := by omega
  go_enter Try.func93, Try.ntmps93
  go_wp2_with fail
  refine (Try.bits_LeadingZeros64 _ _ (by omega) (by omega)).mono ?_
  rintro e w' ⟨rfl, hw⟩
  rw [hs.out, hw]
  clear hw
  go_upto_block 0 with (fail)
  go_cut [15, 16] (fun a b wc => IsQuo (U * 4294967296 + un1) v a ∧ w = wc)
  case first =>
    go_wp2_with fail
    go_loop [15, 16] (fun a b => ∃ q r : Int, a = .int .u64 q ∧ b = .int .u64 r ∧ 0 ≤ q ∧ q ≤ 4294967297 ∧ 0 ≤ r ∧ r < 4294967296 ∧ Hid (q * yn1 + r = U) ∧ Hid ((U * 4294967296 + un1) / v ≤ q)) (fun a _ => (intOf a).toNat)
    case atStart => exact ⟨q0, r0, by rw [rq], rfl, q0a, q0b, r0a, by omega, ER, EQ⟩
    case round =>
      obtain ⟨q, r, rfl, rfl, qa, qb, ra, rb, HR, HQ⟩ := hrel
      clear rv rv1 rv0 rU rL rL1 rL0 rq rr
      have more : Hid (1 ≤ q → (U * 4294967296 + un1) / v < q → (q - 1) * yn1 + (r + yn1) = U ∧ (U * 4294967296 + un1) / v ≤ q - 1) := fun _ h2 => ⟨by rw [Int.sub_mul]; have := HR.out; omega, by omega⟩
      have last : Hid ((U * 4294967296 + un1) / v < q → 4294967296 ≤ r + yn1 → (U * 4294967296 + un1) / v = q - 1) := fun h2 h3 => by
        have d0 : 0 ≤ (U * 4294967296 + un1) / v := Int.ediv_nonneg (by omega) (by omega)
        refine DivI.stop _ _ _ v0 (by omega) ?_
        rw [EV.out]
        exact DivI.stop_big 4294967296 yn1 yn0 U un1 (q - 1) (r + yn1) (by rw [Int.sub_mul]; have := HR.out; omega) yn0a yn0b (by omega) (by omega) un1a h3
      by_cases hb : 4294967296 ≤ q
      · have t1 : decide (4294967296 ≤ q) = true := decide_eq_true hb
        have h2 : Hid ((U * 4294967296 + un1) / v < q) := by
          have := DivI.quo_lt 4294967296 v U un1 v0 (by omega) un1b U1
          show _ < _
          omega
        by_cases hr : 4294967296 ≤ r + yn1
        · go_wp2_with fail
          go_meet
          exact ⟨by show _ = _; rw [last.out h2.out hr], rfl⟩
        · go_wp2_with fail
          go_round
          case rel => exact ⟨q - 1, r + yn1, rfl, rfl, by omega, by omega, by omega, by omega, (more.out (by omega) h2.out).1, (more.out (by omega) h2.out).2⟩
          case measure => simp [intOf]; omega
      · have t1 : decide (4294967296 ≤ q) = false := decide_eq_false hb
        have m2 : 0 ≤ q * yn0 := Int.mul_nonneg qa yn0a
        have m3 : q * yn0 ≤ 4294967295 * 4294967295 := by
          have a1 : q * yn0 ≤ 4294967295 * yn0 := Int.mul_le_mul_of_nonneg_right (by omega) yn0a
          omega
        have HK := Lib.hid (DivI.key 4294967296 yn1 yn0 U un1 q r HR.out)
        by_cases ht : 4294967296 * r + un1 < q * yn0
        · have q1 : 1 ≤ q := by
            by_cases h : q = 0
            · rw [h, Int.zero_mul] at ht
              omega
            · omega
          have h2 : Hid ((U * 4294967296 + un1) / v < q) := DivI.go_on _ _ _ v0 (by have := HK.out; rw [EV.out]; omega)
          clear HK
          by_cases hr : 4294967296 ≤ r + yn1
          · go_wp2_with fail
            go_meet
            exact ⟨by show _ = _; rw [last.out h2.out hr], rfl⟩
          · go_wp2_with fail
            go_round
            case rel => exact ⟨q - 1, r + yn1, rfl, rfl, by omega, by omega, by omega, by omega, (more.out (by omega) h2.out).1, (more.out (by omega) h2.out).2⟩
            case measure => simp [intOf]; omega
        · have h2 : Hid ((U * 4294967296 + un1) / v = q) := DivI.stop _ _ _ v0 HQ.out (by have := HK.out; rw [EV.out]; omega)
          clear HK
          go_wp2_with fail
          go_meet
          exact ⟨by show _ = _; rw [h2.out], rfl⟩
  case rest =>
    obtain ⟨HQ1, rfl⟩ := hcut
    unfold IsQuo at HQ1
    subst HQ1
    have Q1b := DivI.quo_lt 4294967296 v U un1 v0 (by omega) un1b U1
    have Q1a : 0 ≤ (U * 4294967296 + un1) / v := Int.ediv_nonneg (by omega) (by omega)
    have R1a := Int.emod_nonneg (U * 4294967296 + un1) (by omega : v ≠ 0)
    have R1b := Int.emod_lt_of_pos (U * 4294967296 + un1) v0
    have HW := Lib.hid (DivI.rest_wrap 18446744073709551616 (U * 4294967296 + un1) _ v U (by omega) v0 (by omega) rfl)
    generalize hQ1 : (U * 4294967296 + un1) / v = Q1 at *
    generalize hR1 : (U * 4294967296 + un1) % v = R1 at *
    have HQ1 := Lib.hid hQ1
    have HR1 := Lib.hid hR1
    clear hQ1 hR1 rq rr m0 m1
    have r93 : IntKind.u64.wrap (IntKind.u64.wrap (IntKind.u64.wrap (U * 4294967296) + un1) - IntKind.u64.wrap (Q1 * v)) = R1 := by
      have := HW.out
      simp only [IntKind.wrap_u64]
      omega
    obtain ⟨q2, rq⟩ : ∃ q2, R1 / yn1 = q2 := ⟨_, rfl⟩
    obtain ⟨r2, rr⟩ : ∃ r2, R1 - q2 * yn1 = r2 := ⟨_, rfl⟩
    have d1 := Int.mul_ediv_add_emod R1 yn1
    have r2a := Int.emod_nonneg R1 (by omega : yn1 ≠ 0)
    have r2b := Int.emod_lt_of_pos R1 yz
    rw [rq, Int.mul_comm yn1 q2] at d1
    have r2e : R1 % yn1 = r2 := by omega
    rw [r2e] at r2a r2b
    have q2a : 0 ≤ q2 := by rw [← rq]; exact Int.ediv_nonneg R1a (by omega)
    have q2y : 0 ≤ q2 * yn1 := Int.mul_nonneg q2a (by omega)
    have ER2 : Hid (q2 * yn1 + r2 = R1) := by show _ = _; omega
    have q2b : q2 ≤ 4294967297 := DivI.qhat_le 4294967296 yn1 yn0 R1 q2 r2 ER2.out r2a (by omega) yz yn0b (by have := EV.out; omega)
    have EQ2 : Hid ((R1 * 4294967296 + un0) / v ≤ q2) := by
      show _ ≤ _
      rw [EV.out]
      exact DivI.quo_le 4294967296 yn1 yn0 R1 un0 q2 r2 ER2.out r2b (by omega) un0b yz yn0a q2a
    have m1 : q2 * yn1 ≤ R1 := by omega
    clear d1 r2e
    go_upto_block 2 with (fail)
    go_cut [18, 16] (fun a b wc => IsQuo (R1 * 4294967296 + un0) v a ∧ w = wc)
    case first =>
      go_wp2_with fail
      go_loop [18, 16] (fun a b => ∃ q r : Int, a = .int .u64 q ∧ b = .int .u64 r ∧ 0 ≤ q ∧ q ≤ 4294967297 ∧ 0 ≤ r ∧ r < 4294967296 ∧ Hid (q * yn1 + r = R1) ∧ Hid ((R1 * 4294967296 + un0) / v ≤ q)) (fun a _ => (intOf a).toNat)
      case atStart => exact ⟨q2, r2, by rw [rq], rfl, q2a, q2b, r2a, by omega, ER2, EQ2⟩
      case round =>
        obtain ⟨q, r, rfl, rfl, qa, qb, ra, rb, HR, HQ⟩ := hrel
        clear rv rv1 rv0 rU rL rL1 rL0 rq rr r93
        have more : Hid (1 ≤ q → (R1 * 4294967296 + un0) / v < q → (q - 1) * yn1 + (r + yn1) = R1 ∧ (R1 * 4294967296 + un0) / v ≤ q - 1) := fun _ h2 => ⟨by rw [Int.sub_mul]; have := HR.out; omega, by omega⟩
        have last : Hid ((R1 * 4294967296 + un0) / v < q → 4294967296 ≤ r + yn1 → (R1 * 4294967296 + un0) / v = q - 1) := fun h2 h3 => by
          have d0 : 0 ≤ (R1 * 4294967296 + un0) / v := Int.ediv_nonneg (by omega) (by omega)
          refine DivI.stop _ _ _ v0 (by omega) ?_
          rw [EV.out]
          exact DivI.stop_big 4294967296 yn1 yn0 R1 un0 (q - 1) (r + yn1) (by rw [Int.sub_mul]; have := HR.out; omega) yn0a yn0b (by omega) (by omega) un0a h3
        by_cases hb : 4294967296 ≤ q
        · have t1 : decide (4294967296 ≤ q) = true := decide_eq_true hb
          have h2 : Hid ((R1 * 4294967296 + un0) / v < q) := by
            have := DivI.quo_lt 4294967296 v R1 un0 v0 (by omega) un0b R1b
            show _ < _
            omega
          by_cases hr : 4294967296 ≤ r + yn1
          · go_wp2_with fail
            go_meet
            exact ⟨by show _ = _; rw [last.out h2.out hr], rfl⟩
          · go_wp2_with fail
            go_round
            case rel => exact ⟨q - 1, r + yn1, rfl, rfl, by omega, by omega, by omega, by omega, (more.out (by omega) h2.out).1, (more.out (by omega) h2.out).2⟩
            case measure => simp [intOf]; omega
        · have t1 : decide (4294967296 ≤ q) = false := decide_eq_false hb
          have m2 : 0 ≤ q * yn0 := Int.mul_nonneg qa yn0a
          have m3 : q * yn0 ≤ 4294967295 * 4294967295 := by
            have a1 : q * yn0 ≤ 4294967295 * yn0 := Int.mul_le_mul_of_nonneg_right (by omega) yn0a
            omega
          have HK := Lib.hid (DivI.key 4294967296 yn1 yn0 R1 un0 q r HR.out)
          by_cases ht : 4294967296 * r + un0 < q * yn0
          · have q1 : 1 ≤ q := by
              by_cases h : q = 0
              · rw [h, Int.zero_mul] at ht
                omega
              · omega
            have h2 : Hid ((R1 * 4294967296 + un0) / v < q) := DivI.go_on _ _ _ v0 (by have := HK.out; rw [EV.out]; omega)
            clear HK
            by_cases hr : 4294967296 ≤ r + yn1
            · go_wp2_with fail
              go_meet
              exact ⟨by show _ = _; rw [last.out h2.out hr], rfl⟩
            · go_wp2_with fail
              go_round
              case rel => exact ⟨q - 1, r + yn1, rfl, rfl, by omega, by omega, by omega, by omega, (more.out (by omega) h2.out).1, (more.out (by omega) h2.out).2⟩
              case measure => simp [intOf]; omega
          · have h2 : Hid ((R1 * 4294967296 + un0) / v = q) := DivI.stop _ _ _ v0 HQ.out (by have := HK.out; rw [EV.out]; omega)
            clear HK
            go_wp2_with fail
            go_meet
            exact ⟨by show _ = _; rw [h2.out], rfl⟩
    case rest =>
      obtain ⟨HQ2, rfl⟩ := hcut
      unfold IsQuo at HQ2
      subst HQ2
      have Q2b := DivI.quo_lt 4294967296 v R1 un0 v0 (by omega) un0b R1b
      have Q2a : 0 ≤ (R1 * 4294967296 + un0) / v := Int.ediv_nonneg (by omega) (by omega)
      have R2a := Int.emod_nonneg (R1 * 4294967296 + un0) (by omega : v ≠ 0)
      have R2b := Int.emod_lt_of_pos (R1 * 4294967296 + un0) v0
      have HW2 := Lib.hid (DivI.rest_wrap 18446744073709551616 (R1 * 4294967296 + un0) _ v R1 (by omega) v0 (by omega) rfl)
      generalize hQ2 : (R1 * 4294967296 + un0) / v = Q2 at *
      generalize hR2 : (R1 * 4294967296 + un0) % v = R2 at *
      have HQ2 := Lib.hid hQ2
      have HR2 := Lib.hid hR2
      clear hQ2 hR2 rq rr m1 r93
      have r132 : IntKind.u64.wrap (IntKind.u64.wrap (IntKind.u64.wrap (R1 * 4294967296) + un0) - IntKind.u64.wrap (Q2 * v)) = R2 := by
        have := HW2.out
        simp only [IntKind.wrap_u64]
        omega
      go_wp2
      go_ret2
      exact ⟨by rw [HQ1.out, HR1.out, HQ2.out, HR2.out]; rfl, rfl⟩

theorem shl_join (h l : Int) (s : Nat) (h0 : 0 ≤ h) (l0 : 0 ≤ l) (l1 : l < 18446744073709551616) (hs : s < 64) (hb : h * 2 ^ s < 18446744073709551616) :
    bits .or .u64 (IntKind.u64.wrap (h * 2 ^ s)) (l / 2 ^ (64 - s)) = h * 2 ^ s + l / 2 ^ (64 - s) := by
  have p0 := DivW.pos_pow s
  have q0 := DivW.pos_pow (64 - s)
  have hl := DivW.lt_q l _ _ p0 q0 (DivW.pow_split s (by omega)) l1
  have hp0 : 0 ≤ h * 2 ^ s := Int.mul_nonneg h0 (by omega)
  have hl0 : 0 ≤ l / 2 ^ (64 - s) := Int.ediv_nonneg l0 (by omega)
  have pb : (2 : Int) ^ s ≤ 2 ^ 63 := by
    have : (2 : Nat) ^ s ≤ 2 ^ 63 := Nat.pow_le_pow_right (by omega) (by omega)
    exact_mod_cast this
  rw [IntKind.wrap_u64, Int.emod_eq_of_lt hp0 hb, u64_or _ _ hp0 hb hl0 (by omega), nat_join s _ _ ?_ ?_]
  · omega
  · obtain ⟨h, rfl⟩ := Int.eq_ofNat_of_zero_le h0
    have e : ((h : Int) * 2 ^ s).toNat = h * 2 ^ s := by
      have : ((h : Int) * 2 ^ s) = ((h * 2 ^ s : Nat) : Int) := by simp
      rw [this]; omega
    rw [e, Nat.mul_mod_left]
  · have : ((2 ^ s : Nat) : Int) = (2 : Int) ^ s := by simp
    omega
theorem mask32 (x : Int) (h0 : 0 ≤ x) (h1 : x < 18446744073709551616) : bits .and .u64 x 4294967295 = x % 4294967296 := by
  obtain ⟨x, rfl⟩ := Int.eq_ofNat_of_zero_le h0
  rw [Mul64.maskN x (by omega), Int.natCast_emod]
  rfl

theorem div64_pos (h l y : Int) (w : World) (h0 : 0 < h) (h1 : h < y) (l0 : 0 ≤ l) (l1 : l < 18446744073709551616) (y1 : y < 18446744073709551616) :
    Calls Try.prog 93 #[.int .u64 h, .int .u64 l, .int .u64 y] w fun e w' => e = .returned (.tuple #[.int .u64 (Rep.val h l / y), .int .u64 (Rep.val h l % y)]) ∧ w = w' := by
  obtain ⟨k1, k2, k3⟩ := Lib.bitLenAux_bounds 64 y.toNat (by omega) (by omega)
  have hk : Lib.bitLenAux 64 y.toNat = Lib.bitLen y.toNat := rfl
  rw [hk] at k1 k2 k3
  have kl := Any.bitLen_le64 y (by omega) (by omega)
  obtain ⟨s, hs⟩ : ∃ s, 64 - Lib.bitLen y.toNat = s := ⟨_, rfl⟩
  have s1 : s < 64 := by omega
  have p0 := DivW.pos_pow s
  have q0 := DivW.pos_pow (64 - s)
  have hpq := DivW.pow_split s (by omega)
  have yn : ((y.toNat : Nat) : Int) = y := by omega
  have vlo : 9223372036854775808 ≤ y * 2 ^ s := by
    have a : 2 ^ (Lib.bitLen y.toNat - 1) * 2 ^ s ≤ y.toNat * 2 ^ s := Nat.mul_le_mul_right _ k2
    rw [← Nat.pow_add, show Lib.bitLen y.toNat - 1 + s = 63 by omega] at a
    have b : ((y.toNat * 2 ^ s : Nat) : Int) = y * 2 ^ s := by rw [Int.natCast_mul, yn]; simp
    omega
  have vhi : y * 2 ^ s < 18446744073709551616 := by
    have a : y.toNat * 2 ^ s < 2 ^ Lib.bitLen y.toNat * 2 ^ s := Nat.mul_lt_mul_of_pos_right k3 (Nat.pow_pos (by omega))
    rw [← Nat.pow_add, show Lib.bitLen y.toNat + s = 64 by omega] at a
    have b : ((y.toNat * 2 ^ s : Nat) : Int) = y * 2 ^ s := by rw [Int.natCast_mul, yn]; simp
    omega
  have hhi : h * 2 ^ s < 18446744073709551616 := Int.lt_trans (Int.mul_lt_mul_of_pos_right h1 p0) vhi
  have hj := shl_join h l s (by omega) l0 l1 s1 hhi
  have hsh := DivW.shifted h l _ _ p0 q0 hpq l0
  have hlq := DivW.lt_q l _ _ p0 q0 hpq l1
  have hl0 : 0 ≤ l / 2 ^ (64 - s) := Int.ediv_nonneg l0 (by omega)
  have hp0 : 0 ≤ h * 2 ^ s := Int.mul_nonneg (by omega) (by omega)
  obtain ⟨U, hU⟩ : ∃ U, h * 2 ^ s + l / 2 ^ (64 - s) = U := ⟨_, rfl⟩
  obtain ⟨L, hL⟩ : ∃ L, (l * 2 ^ s) % 18446744073709551616 = L := ⟨_, rfl⟩
  obtain ⟨v, hv⟩ : ∃ v, y * 2 ^ s = v := ⟨_, rfl⟩
  have L0 : 0 ≤ L := by omega
  have L1 : L < 18446744073709551616 := by omega
  rw [hU, hL] at hsh
  have U1 := DivW.u_lt h l y _ U L p0 h1 l1 L0 hsh
  rw [hv] at vlo vhi U1
  have U0 : 0 ≤ U := by omega
  obtain ⟨yn1, hy1⟩ : ∃ x, v / 4294967296 = x := ⟨_, rfl⟩
  obtain ⟨yn0, hy0⟩ : ∃ x, v % 4294967296 = x := ⟨_, rfl⟩
  obtain ⟨un1, hu1⟩ : ∃ x, L / 4294967296 = x := ⟨_, rfl⟩
  obtain ⟨un0, hu0⟩ : ∃ x, L % 4294967296 = x := ⟨_, rfl⟩
  have yz : 0 < yn1 := by omega
  obtain ⟨q, hq⟩ : ∃ q, U / yn1 = q := ⟨_, rfl⟩
  have d1 := Int.mul_ediv_add_emod U yn1
  have ra := Int.emod_nonneg U (by omega : yn1 ≠ 0)
  have rb := Int.emod_lt_of_pos U yz
  rw [hq, Int.mul_comm yn1 q] at d1
  have qa : 0 ≤ q := by rw [← hq]; exact Int.ediv_nonneg U0 (by omega)
  have qy : 0 ≤ q * yn1 := Int.mul_nonneg qa (by omega)
  obtain ⟨r, hr⟩ : ∃ r, U - q * yn1 = r := ⟨_, rfl⟩
  have r2e : U % yn1 = r := by omega
  rw [r2e] at ra rb
  have EV : v = yn1 * 4294967296 + yn0 := by omega
  have ER : q * yn1 + r = U := by omega
  have EQ : (U * 4294967296 + un1) / v ≤ q := by rw [EV]; exact DivI.quo_le 4294967296 yn1 yn0 U un1 q r ER rb (by omega) (by omega) yz (by omega) qa
  have qb : q ≤ 4294967297 := DivI.qhat_le 4294967296 yn1 yn0 U q r ER ra (by omega) yz (by omega) (by omega)
  refine (div64_core h l y v yn1 yn0 U L un1 un0 q r s w h0 h1 y1 l0 l1 (by show _ = _; omega) (by omega) (by rw [hv, IntKind.wrap_u64]; omega) hy1 (by rw [mask32 v (by omega) vhi]; exact hy0)
    (by rw [hj]; exact hU) (by rw [IntKind.wrap_u64]; exact hL) hu1 (by rw [mask32 L L0 L1]; exact hu0) hq hr EV (by omega) vhi (by omega) (by omega) (by omega) (by omega) U0 U1 L0 L1 (by omega) (by omega) (by omega) (by omega)
    qa qb qy (by omega) ra rb ER EQ).mono ?_
  rintro e w' ⟨rfl, hw⟩
  have t := DivI.two_steps 4294967296 v U un1 un0 (by omega)
  have hN : (U * 4294967296 + un1) * 4294967296 + un0 = Rep.val h l * 2 ^ s := by
    unfold Rep.val
    rw [← hsh]; omega
  rw [hN, ← hv, DivI.unshift_quo _ _ _ p0] at t
  have t2 : (((U * 4294967296 + un1) % (y * 2 ^ s) * 4294967296 + un0) % (y * 2 ^ s)) / 2 ^ s = Rep.val h l % y := by
    rw [← t.2, DivI.unshift_rem _ _ _ p0]
  rw [← hv, ← t.1, t2]
  exact ⟨rfl, hw⟩

/-- math/bits.Div64 -/
theorem div64_any (h l y : Int) (w : World) (h0 : 0 ≤ h) (h1 : h < y) (l0 : 0 ≤ l) (l1 : l < 18446744073709551616) (y1 : y < 18446744073709551616) :
    Calls Try.prog 93 #[.int .u64 h, .int .u64 l, .int .u64 y] w fun e w' => e = .returned (.tuple #[.int .u64 (Rep.val h l / y), .int .u64 (Rep.val h l % y)]) ∧ ∃ n, w' = w.drewN n := by
  by_cases hz : h = 0
  · subst hz
    have e : Rep.val 0 l = l := by unfold Rep.val; omega
    rw [e]
    exact div64_zero l y w l0 l1 h1 y1
  · refine (div64_pos h l y w (by omega) h1 l0 l1 y1).mono ?_
    rintro e w' ⟨rfl, rfl⟩
    exact ⟨rfl, 0, rfl⟩
end Go.Proofs.Ytphlkeoailapcaa
