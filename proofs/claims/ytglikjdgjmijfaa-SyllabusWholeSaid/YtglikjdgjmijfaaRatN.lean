/-
  What the statements of this seat need of the fractions: ratio_new, r_new.
-/
import Derived.Test.YtglikjdgjmijfaaMath
import Derived.Test.YtglikjdgjmijfaaMem
import Derived.Test.YtglikjdgjmijfaaNums
import Derived.Test.YtglikjdgjmijfaaTape
import Derived.Test.YtglikjdgjmijfaaQuietB
import Derived.Test.YtglikjdgjmijfaaQuietTail
import Derived.Test.YtglikjdgjmijfaaShelf
import Derived.WalkKit
import Derived.Below
import Derived.Laws.OwnMore
import Derived.Deep.Draws
import Derived.Laws.Rows
import Derived.Lib.Hide
import Derived.WalkLawsBesides
import Derived.WalkSpells
import Derived.BigQuiet
import Derived.Deep.QuietTactic
import Derived.Laws.Bits64
import Derived.Deep.LoopGhost
import Derived.Outline
import Derived.Shelf.Spec.BitsCarry
import Derived.Deep.RegionHeld3
import Derived.Laws.BitsAllLaws
import Derived.RegionTactic
import Derived.Deep.DeepCutAuto
import Derived.Deep.CutBlock
import Derived.Lib.ItoaNum
import Derived.BigRegion
import Derived.LoopN
namespace Go.Proofs.Ytglikjdgjmijfaa
set_option linter.unusedSimpArgs false
set_option linter.unusedVariables false
open Go.RowKit
theorem addLays : Lays7.n25 Try.prog ⟨fun | 25 => 73 | n => n, fun | 22 => 76 | n => n, fun | n => n⟩ := {
  mixed := by kernel_rfl
  f25 := Try.func73.trans (congrArg some (by kernel_rfl))
  t22 := Try.underlying76
  a22 := Try.isAgg76
  z22 := Try.sizeOf76
  v22 := Try.zeroValue76
  i22 := by kernel_rfl }
theorem add64 (x y c : Int) (x0 : 0 ≤ x) (y0 : 0 ≤ y) (c0 : 0 ≤ c) (c1 : c ≤ 1) (w : World) :
    (callFunc 73 #[.int .u64 x, .int .u64 y, .int .u64 c]).run Try.prog w = .ok (.value (.tuple #[.int .u64 (Rep.addLo x y c), .int .u64 (Rep.addHi x y c)])) w := by
  obtain ⟨x, rfl⟩ := Int.eq_ofNat_of_zero_le x0
  obtain ⟨y, rfl⟩ := Int.eq_ofNat_of_zero_le y0
  obtain ⟨c, rfl⟩ := Int.eq_ofNat_of_zero_le c0
  have h := Any7.bits_Add64 addLays x y c (by omega) w
  unfold Rep.addLo Rep.addHi
  simpa using h
theorem mul64 (x y : Int) (x0 : 0 ≤ x) (y0 : 0 ≤ y) (x1 : x < 18446744073709551616) (y1 : y < 18446744073709551616) (w : World) :
    Calls Try.prog 80 #[.int .u64 x, .int .u64 y] w fun e w' => e = .returned (.tuple #[.int .u64 (Rep.hi (x * y)), .int .u64 (Rep.lo (x * y))]) ∧ w = w' := by
  obtain ⟨x, rfl⟩ := Int.eq_ofNat_of_zero_le x0
  obtain ⟨y, rfl⟩ := Int.eq_ofNat_of_zero_le y0
  refine (Try.bits_Mul64 x y (by omega) (by omega) w).mono ?_
  rintro e w' ⟨rfl, rfl⟩
  rw [Rep.hi_nat x y (Rep.mul_lt_sq x y (by omega) (by omega)), Rep.lo_nat x y, Int.natCast_mul]
  exact ⟨rfl, rfl⟩
set_option maxHeartbeats 400000 in
theorem times_any (x y : Int) (x0 : 0 ≤ x) (y0 : 0 ≤ y) (x1 : x < 18446744073709551616) (y1 : y < 18446744073709551616) (w : World) :
    Calls Try.prog 71 #[.int .u64 x, .int .u64 y] w fun e w' => e = .returned (.agg #[.int .u64 (Rep.hi (x * y)), .int .u64 (Rep.lo (x * y))]) ∧ Below w.heap.size w w' := by
  go_enter Try.func71, Try.ntmps71
  go_wp2_with (go_at_call 80; refine (mul64 _ _ x0 y0 x1 y1 _).mono ?_; rintro e w' ⟨rfl, rfl⟩)
  refine bodyPost_ret (v := .agg #[.int .u64 (Rep.hi (x * y)), .int .u64 (Rep.lo (x * y))]) (by simp [results, Try.results71, go_sem]) rfl ⟨rfl, ?_⟩
  exact (Below.refl _ _).alloc (Nat.le_refl _) _
set_option maxHeartbeats 400000 in
theorem plus_any (a b c d : Int) (w : World) (a0 : 0 ≤ a) (b0 : 0 ≤ b) (c0 : 0 ≤ c) (d0 : 0 ≤ d) (a1 : a < 18446744073709551616) (b1 : b < 18446744073709551616) (c1 : c < 18446744073709551616) (d1 : d < 18446744073709551616) :
    Calls Try.prog 56 #[.agg #[.int .u64 a, .int .u64 b], .agg #[.int .u64 c, .int .u64 d]] w fun e w' => e = .returned (.agg #[.int .u64 (Rep.hi (Rep.val a b + Rep.val c d)), .int .u64 (Rep.lo (Rep.val a b + Rep.val c d))]) ∧ Below w.heap.size w w' := by
  have hc := Rep.addHi_bd b d 0 b0 d0 (by omega) b1 d1 (by omega)
  have k1 := fun w => add64 b d 0 b0 d0 (by omega) (by omega) w
  have k2 := fun w => add64 a c (Rep.addHi b d 0) a0 c0 hc.1 hc.2 w
  have HL := Lib.hid (Rep.sum_lo a b c d)
  have HH := Lib.hid (Rep.sum_hi a b c d b0 d0)
  clear hc a0 b0 c0 d0 a1 b1 c1 d1
  go_enter Try.func56, Try.ntmps56
  go_wp2
  refine bodyPost_ret (v := .agg #[.int .u64 (Rep.addLo a c (Rep.addHi b d 0)), .int .u64 (Rep.addLo b d 0)]) (by simp [results, Try.results56, go_sem]) rfl ⟨?_, ?_⟩
  · rw [HL.out, HH.out]
  · exact bAl (bAl (bAl (Below.refl _ _) _) _) _
theorem xor_ones (x : Nat) (h : x < 18446744073709551616) : 18446744073709551615 ^^^ x = 18446744073709551615 - x := by
  have e : (BitVec.allOnes 64 ^^^ BitVec.ofNat 64 x).toNat = (~~~(BitVec.ofNat 64 x)).toNat := by rw [BitVec.allOnes_xor]
  rw [BitVec.toNat_xor, BitVec.toNat_not, BitVec.toNat_allOnes, BitVec.toNat_ofNat, Nat.mod_eq_of_lt (by omega)] at e
  exact e
theorem flip_word (x : Int) (h0 : 0 ≤ x) (h1 : x < 18446744073709551616) : bits .xor .u64 IntKind.u64.max x = Rep.flip x := by
  obtain ⟨x, rfl⟩ := Int.eq_ofNat_of_zero_le h0
  have hm : IntKind.u64.max = ((18446744073709551615 : Nat) : Int) := by decide +kernel
  rw [hm, bits_xor_u64_nat _ x (by omega) (by omega), xor_ones x (by omega)]
  unfold Rep.flip
  omega
set_option maxHeartbeats 400000 in
theorem signed_no (a b : Int) (w : World) :
    Calls Try.prog 67 #[.agg #[.int .u64 a, .int .u64 b], .bool false] w fun e w' => e = .returned (.agg #[.int .u64 a, .int .u64 b]) ∧ Below w.heap.size w w' := by
  go_enter Try.func67, Try.ntmps67
  go_wp2
  refine bodyPost_ret (v := .agg #[.int .u64 a, .int .u64 b]) (by simp [results, Try.results67, go_sem]) rfl ⟨rfl, ?_⟩
  exact bAl (bAl (Below.refl _ _) _) _
set_option maxHeartbeats 400000 in
theorem signed_yes (a b : Int) (w : World) (a0 : 0 ≤ a) (b0 : 0 ≤ b) (a1 : a < 18446744073709551616) (b1 : b < 18446744073709551616) :
    Calls Try.prog 67 #[.agg #[.int .u64 a, .int .u64 b], .bool true] w fun e w' => e = .returned (.agg #[.int .u64 (Rep.hi (-(Rep.val a b))), .int .u64 (Rep.lo (-(Rep.val a b)))]) ∧ Below w.heap.size w w' := by
  have ka := flip_word a a0 a1
  have kb := flip_word b b0 b1
  have fa := Rep.flip_bd a a0 a1
  have fb := Rep.flip_bd b b0 b1
  have HH := Lib.hid (Rep.neg_hi' a b)
  have HL := Lib.hid (Rep.neg_lo' a b)
  clear a0 b0 a1 b1
  go_enter Try.func67, Try.ntmps67
  go_wp2_with fail
  refine (plus_any _ _ 0 1 _ fa.1 fb.1 (by omega) (by omega) fa.2 fb.2 (by omega) (by omega)).mono ?_
  rintro e w1 ⟨rfl, hb⟩
  obtain ⟨hc, hf⟩ := bcell hb
  have hz : w.heap.size + 1 < w1.heap.size := by have := hb.size; simp at this; omega
  go_wp2
  refine bodyPost_ret (v := .agg #[.int .u64 (Rep.hi (Rep.val (Rep.flip a) (Rep.flip b) + Rep.val 0 1)), .int .u64 (Rep.lo (Rep.val (Rep.flip a) (Rep.flip b) + Rep.val 0 1))]) (by simp [results, Try.results67, go_sem, hc, hz]) rfl ⟨?_, ?_⟩
  · rw [HH.out, HL.out]
  · exact bSt (bSt (bTr (bAl (bAl (Below.refl _ _) _) _) hb) (by simp) _) (by simp) _
theorem signed_any (s : Bool) (a b : Int) (w : World) (a0 : 0 ≤ a) (b0 : 0 ≤ b) (a1 : a < 18446744073709551616) (b1 : b < 18446744073709551616) :
    Calls Try.prog 67 #[.agg #[.int .u64 a, .int .u64 b], .bool s] w fun e w' => e = .returned (.agg #[.int .u64 (Rep.hi (Rep.sgn s (Rep.val a b))), .int .u64 (Rep.lo (Rep.sgn s (Rep.val a b)))]) ∧ Below w.heap.size w w' := by
  cases s
  · refine (signed_no a b w).mono ?_
    rintro e w' ⟨rfl, hb⟩
    refine ⟨?_, hb⟩
    show _ = Ending.returned (.agg #[.int .u64 (Rep.hi (Rep.val a b)), .int .u64 (Rep.lo (Rep.val a b))])
    rw [Rep.hi_val a b a0 a1 b0 b1, Rep.lo_val a b b0 b1]
  · exact signed_yes a b w a0 b0 a1 b1
set_option maxHeartbeats 400000 in
theorem negative_any (z : Int) (w : World) (z0 : -170141183460469231731687303715884105728 ≤ z) (z1 : z < 170141183460469231731687303715884105728) :
    Calls Try.prog 74 #[.agg #[.int .u64 (Rep.hi z), .int .u64 (Rep.lo z)]] w fun e w' => e = .returned (.bool (decide (z < 0))) ∧ Below w.heap.size w w' := by
  obtain ⟨h, hh⟩ : ∃ h, h = Rep.hi z := ⟨_, rfl⟩
  have hz' : decide (wrap64 h < 0) = decide (z < 0) := decide_eq_decide.2 (by have := Rep.negative z z0 z1; have := Rep.hi_bd z; rw [hh]; unfold wrap64; omega)
  have HZ := Lib.hid hz'
  rw [← hh]
  clear hh hz'
  go_enter Try.func74, Try.ntmps74
  go_wp2
  go_ret
  exact ⟨ret_bool HZ.out, bAl (Below.refl _ _) _⟩
set_option maxHeartbeats 400000 in
theorem fits_any (a b : Int) (w : World) (a0 : 0 ≤ a) (b0 : 0 ≤ b) :
    Calls Try.prog 72 #[.agg #[.int .u64 a, .int .u64 b]] w fun e w' => e = .returned (.bool (decide (Rep.val a b ≤ 1152921504606846976))) ∧ Below w.heap.size w w' := by
  by_cases ha : a = 0
  · subst ha
    have hz' : decide (b ≤ 1152921504606846976) = decide (Rep.val 0 b ≤ 1152921504606846976) := decide_eq_decide.2 (by unfold Rep.val; omega)
    have HZ := Lib.hid hz'
    clear hz'
    go_enter Try.func72, Try.ntmps72
    go_wp2
    go_ret
    exact ⟨ret_bool HZ.out, bAl (Below.refl _ _) _⟩
  · have hz' : false = decide (Rep.val a b ≤ 1152921504606846976) := (decide_eq_false (by unfold Rep.val; omega)).symm
    have HZ := Lib.hid hz'
    clear hz'
    have hn : (a == 0) = false := by rw [beq_eq_false_iff_ne]; exact ha
    go_enter Try.func72, Try.ntmps72
    go_wp2
    go_ret
    exact ⟨ret_bool HZ.out, bAl (Below.refl _ _) _⟩
set_option maxRecDepth 100000 in
set_option maxHeartbeats 1000000 in
theorem div64_zero (l y : Int) (w : World) (l0 : 0 ≤ l) (l1 : l < 18446744073709551616) (y0 : 0 < y) (y1 : y < 18446744073709551616) :
    Calls Try.prog 81 #[.int .u64 0, .int .u64 l, .int .u64 y] w fun e w' => e = .returned (.tuple #[.int .u64 (l / y), .int .u64 (l % y)]) ∧ ∃ n, w' = w.drewN n := by
  have e1 : (y == 0) = false := by rw [beq_eq_false_iff_ne]; omega
  have e2 : ¬ y ≤ 0 := by omega
  go_enter Try.func81, Try.ntmps81
  go_wp2_with fail
  go_quiet (fail)
  go_wp2
  go_ret2
  exact ⟨rfl, _, rfl⟩
/-- what a run of the correcting loop leaves -/
def IsQuo (T v : Int) (s15 : Value) : Prop := s15 = .int .u64 (T / v)
set_option maxRecDepth 100000 in
set_option maxHeartbeats 4000000 in
theorem div64_core (h l y v yn1 yn0 U L un1 un0 q0 r0 : Int) (s : Nat) (w : World) (hh0 : 0 < h) (hh1 : h < y) (y1 : y < 18446744073709551616) (l0 : 0 ≤ l) (l1 : l < 18446744073709551616)
    (hs : Hid (64 - (Lib.bitLen y.toNat : Int) = (s : Int))) (s1 : (s : Int) < 64)
    (rv : IntKind.u64.wrap (y * 2 ^ s) = v) (rv1 : v / 4294967296 = yn1) (rv0 : bits .and .u64 v 4294967295 = yn0)
    (rU : bits .or .u64 (IntKind.u64.wrap (h * 2 ^ s)) (l / 2 ^ (64 - s)) = U) (rL : IntKind.u64.wrap (l * 2 ^ s) = L)
    (rL1 : L / 4294967296 = un1) (rL0 : bits .and .u64 L 4294967295 = un0) (rq : U / yn1 = q0) (rr : U - q0 * yn1 = r0)
    (EV : Hid (v = yn1 * 4294967296 + yn0)) (v0 : 0 < v) (v1 : v < 18446744073709551616) (yn1b : 2147483648 ≤ yn1) (yn1c : yn1 < 4294967296) (yn0a : 0 ≤ yn0) (yn0b : yn0 < 4294967296)
    (U0 : 0 ≤ U) (U1 : U < v) (L0 : 0 ≤ L) (L1 : L < 18446744073709551616) (un1a : 0 ≤ un1) (un1b : un1 < 4294967296) (un0a : 0 ≤ un0) (un0b : un0 < 4294967296)
    (q0a : 0 ≤ q0) (q0b : q0 ≤ 4294967297) (m0 : 0 ≤ q0 * yn1) (m1 : q0 * yn1 ≤ U) (r0a : 0 ≤ r0) (r0b : r0 < yn1) (ER : Hid (q0 * yn1 + r0 = U)) (EQ : Hid ((U * 4294967296 + un1) / v ≤ q0)) :
    Calls Try.prog 81 #[.int .u64 h, .int .u64 l, .int .u64 y] w fun e w' => e = .returned (.tuple #[.int .u64 ((U * 4294967296 + un1) / v * 4294967296 + ((U * 4294967296 + un1) % v * 4294967296 + un0) / v), .int .u64 (((U * 4294967296 + un1) % v * 4294967296 + un0) % v / 2 ^ s)]) ∧ w = w' := by
  have e1 : (y == 0) = false := by rw [beq_eq_false_iff_ne]; omega
  have e2 : ¬ y ≤ h := by omega
  have e3 : (h == 0) = false := by rw [beq_eq_false_iff_ne]; omega
  have yz : 0 < yn1 := by omega
  go_enter Try.func81, Try.ntmps81
  go_wp2_with fail
  refine (Try.bits_LeadingZeros64 _ _ (by omega) (by omega)).mono ?_
  rintro e w' ⟨rfl, hw⟩
  rw [hs.out, hw]
  clear hw
  go_upto_block 0 with (fail)
  go_cut [15, 16] (fun a b wc => IsQuo (U * 4294967296 + un1) v a ∧ w = wc)
  case first =>
    go_wp2_with fail
    go_loop [15, 16] (fun a b => ∃ q r : Int, a = .int .u64 q ∧ b = .int .u64 r ∧ 0 ≤ q ∧ q ≤ 4294967297 ∧ 0 ≤ r ∧ r < 4294967296 ∧ Hid (q * yn1 + r = U) ∧ Hid ((U * 4294967296 + un1) / v ≤ q)) (fun a _ => (intOf a).toNat)
    case atStart => exact ⟨q0, r0, by rw [rq], rfl, q0a, q0b, r0a, by omega, ER, EQ⟩
    case round =>
      obtain ⟨q, r, rfl, rfl, qa, qb, ra, rb, HR, HQ⟩ := hrel
      clear rv rv1 rv0 rU rL rL1 rL0 rq rr
      have more : Hid (1 ≤ q → (U * 4294967296 + un1) / v < q → (q - 1) * yn1 + (r + yn1) = U ∧ (U * 4294967296 + un1) / v ≤ q - 1) := fun _ h2 => ⟨by rw [Int.sub_mul]; have := HR.out; omega, by omega⟩
      have last : Hid ((U * 4294967296 + un1) / v < q → 4294967296 ≤ r + yn1 → (U * 4294967296 + un1) / v = q - 1) := fun h2 h3 => by
        have d0 : 0 ≤ (U * 4294967296 + un1) / v := Int.ediv_nonneg (by omega) (by omega)
        refine DivI.stop _ _ _ v0 (by omega) ?_
        rw [EV.out]
        exact DivI.stop_big 4294967296 yn1 yn0 U un1 (q - 1) (r + yn1) (by rw [Int.sub_mul]; have := HR.out; omega) yn0a yn0b (by omega) (by omega) un1a h3
      by_cases hb : 4294967296 ≤ q
      · have t1 : decide (4294967296 ≤ q) = true := decide_eq_true hb
        have h2 : Hid ((U * 4294967296 + un1) / v < q) := by
          have := DivI.quo_lt 4294967296 v U un1 v0 (by omega) un1b U1
          show _ < _
          omega
        by_cases hr : 4294967296 ≤ r + yn1
        · go_wp2_with fail
          go_meet
          exact ⟨by show _ = _; rw [last.out h2.out hr], rfl⟩
        · go_wp2_with fail
          go_round
          case rel => exact ⟨q - 1, r + yn1, rfl, rfl, by omega, by omega, by omega, by omega, (more.out (by omega) h2.out).1, (more.out (by omega) h2.out).2⟩
          case measure => simp [intOf]; omega
      · have t1 : decide (4294967296 ≤ q) = false := decide_eq_false hb
        have m2 : 0 ≤ q * yn0 := Int.mul_nonneg qa yn0a
        have m3 : q * yn0 ≤ 4294967295 * 4294967295 := by
          have a1 : q * yn0 ≤ 4294967295 * yn0 := Int.mul_le_mul_of_nonneg_right (by omega) yn0a
          omega
        have HK := Lib.hid (DivI.key 4294967296 yn1 yn0 U un1 q r HR.out)
        by_cases ht : 4294967296 * r + un1 < q * yn0
        · have q1 : 1 ≤ q := by
            by_cases h : q = 0
            · rw [h, Int.zero_mul] at ht
              omega
            · omega
          have h2 : Hid ((U * 4294967296 + un1) / v < q) := DivI.go_on _ _ _ v0 (by have := HK.out; rw [EV.out]; omega)
          clear HK
          by_cases hr : 4294967296 ≤ r + yn1
          · go_wp2_with fail
            go_meet
            exact ⟨by show _ = _; rw [last.out h2.out hr], rfl⟩
          · go_wp2_with fail
            go_round
            case rel => exact ⟨q - 1, r + yn1, rfl, rfl, by omega, by omega, by omega, by omega, (more.out (by omega) h2.out).1, (more.out (by omega) h2.out).2⟩
            case measure => simp [intOf]; omega
        · have h2 : Hid ((U * 4294967296 + un1) / v = q) := DivI.stop _ _ _ v0 HQ.out (by have := HK.out; rw [EV.out]; omega)
          clear HK
          go_wp2_with fail
          go_meet
          exact ⟨by show _ = _; rw [h2.out], rfl⟩
  case rest =>
    obtain ⟨HQ1, rfl⟩ := hcut
    unfold IsQuo at HQ1
    subst HQ1
    have Q1b := DivI.quo_lt 4294967296 v U un1 v0 (by omega) un1b U1
    have Q1a : 0 ≤ (U * 4294967296 + un1) / v := Int.ediv_nonneg (by omega) (by omega)
    have R1a := Int.emod_nonneg (U * 4294967296 + un1) (by omega : v ≠ 0)
    have R1b := Int.emod_lt_of_pos (U * 4294967296 + un1) v0
    have HW := Lib.hid (DivI.rest_wrap 18446744073709551616 (U * 4294967296 + un1) _ v U (by omega) v0 (by omega) rfl)
    generalize hQ1 : (U * 4294967296 + un1) / v = Q1 at *
    generalize hR1 : (U * 4294967296 + un1) % v = R1 at *
    have HQ1 := Lib.hid hQ1
    have HR1 := Lib.hid hR1
    clear hQ1 hR1 rq rr m0 m1
    have r93 : IntKind.u64.wrap (IntKind.u64.wrap (IntKind.u64.wrap (U * 4294967296) + un1) - IntKind.u64.wrap (Q1 * v)) = R1 := by
      have := HW.out
      simp only [IntKind.wrap_u64]
      omega
    obtain ⟨q2, rq⟩ : ∃ q2, R1 / yn1 = q2 := ⟨_, rfl⟩
    obtain ⟨r2, rr⟩ : ∃ r2, R1 - q2 * yn1 = r2 := ⟨_, rfl⟩
    have d1 := Int.mul_ediv_add_emod R1 yn1
    have r2a := Int.emod_nonneg R1 (by omega : yn1 ≠ 0)
    have r2b := Int.emod_lt_of_pos R1 yz
    rw [rq, Int.mul_comm yn1 q2] at d1
    have r2e : R1 % yn1 = r2 := by omega
    rw [r2e] at r2a r2b
    have q2a : 0 ≤ q2 := by rw [← rq]; exact Int.ediv_nonneg R1a (by omega)
    have q2y : 0 ≤ q2 * yn1 := Int.mul_nonneg q2a (by omega)
    have ER2 : Hid (q2 * yn1 + r2 = R1) := by show _ = _; omega
    have q2b : q2 ≤ 4294967297 := DivI.qhat_le 4294967296 yn1 yn0 R1 q2 r2 ER2.out r2a (by omega) yz yn0b (by have := EV.out; omega)
    have EQ2 : Hid ((R1 * 4294967296 + un0) / v ≤ q2) := by
      show _ ≤ _
      rw [EV.out]
      exact DivI.quo_le 4294967296 yn1 yn0 R1 un0 q2 r2 ER2.out r2b (by omega) un0b yz yn0a q2a
    have m1 : q2 * yn1 ≤ R1 := by omega
    clear d1 r2e
    go_upto_block 2 with (fail)
    go_cut [18, 16] (fun a b wc => IsQuo (R1 * 4294967296 + un0) v a ∧ w = wc)
    case first =>
      go_wp2_with fail
      go_loop [18, 16] (fun a b => ∃ q r : Int, a = .int .u64 q ∧ b = .int .u64 r ∧ 0 ≤ q ∧ q ≤ 4294967297 ∧ 0 ≤ r ∧ r < 4294967296 ∧ Hid (q * yn1 + r = R1) ∧ Hid ((R1 * 4294967296 + un0) / v ≤ q)) (fun a _ => (intOf a).toNat)
      case atStart => exact ⟨q2, r2, by rw [rq], rfl, q2a, q2b, r2a, by omega, ER2, EQ2⟩
      case round =>
        obtain ⟨q, r, rfl, rfl, qa, qb, ra, rb, HR, HQ⟩ := hrel
        clear rv rv1 rv0 rU rL rL1 rL0 rq rr r93
        have more : Hid (1 ≤ q → (R1 * 4294967296 + un0) / v < q → (q - 1) * yn1 + (r + yn1) = R1 ∧ (R1 * 4294967296 + un0) / v ≤ q - 1) := fun _ h2 => ⟨by rw [Int.sub_mul]; have := HR.out; omega, by omega⟩
        have last : Hid ((R1 * 4294967296 + un0) / v < q → 4294967296 ≤ r + yn1 → (R1 * 4294967296 + un0) / v = q - 1) := fun h2 h3 => by
          have d0 : 0 ≤ (R1 * 4294967296 + un0) / v := Int.ediv_nonneg (by omega) (by omega)
          refine DivI.stop _ _ _ v0 (by omega) ?_
          rw [EV.out]
          exact DivI.stop_big 4294967296 yn1 yn0 R1 un0 (q - 1) (r + yn1) (by rw [Int.sub_mul]; have := HR.out; omega) yn0a yn0b (by omega) (by omega) un0a h3
        by_cases hb : 4294967296 ≤ q
        · have t1 : decide (4294967296 ≤ q) = true := decide_eq_true hb
          have h2 : Hid ((R1 * 4294967296 + un0) / v < q) := by
            have := DivI.quo_lt 4294967296 v R1 un0 v0 (by omega) un0b R1b
            show _ < _
            omega
          by_cases hr : 4294967296 ≤ r + yn1
          · go_wp2_with fail
            go_meet
            exact ⟨by show _ = _; rw [last.out h2.out hr], rfl⟩
          · go_wp2_with fail
            go_round
            case rel => exact ⟨q - 1, r + yn1, rfl, rfl, by omega, by omega, by omega, by omega, (more.out (by omega) h2.out).1, (more.out (by omega) h2.out).2⟩
            case measure => simp [intOf]; omega
        · have t1 : decide (4294967296 ≤ q) = false := decide_eq_false hb
          have m2 : 0 ≤ q * yn0 := Int.mul_nonneg qa yn0a
          have m3 : q * yn0 ≤ 4294967295 * 4294967295 := by
            have a1 : q * yn0 ≤ 4294967295 * yn0 := Int.mul_le_mul_of_nonneg_right (by omega) yn0a
            omega
          have HK := Lib.hid (DivI.key 4294967296 yn1 yn0 R1 un0 q r HR.out)
          by_cases ht : 4294967296 * r + un0 < q * yn0
          · have q1 : 1 ≤ q := by
              by_cases h : q = 0
              · rw [h, Int.zero_mul] at ht
                omega
              · omega
            have h2 : Hid ((R1 * 4294967296 + un0) / v < q) := DivI.go_on _ _ _ v0 (by have := HK.out; rw [EV.out]; omega)
            clear HK
            by_cases hr : 4294967296 ≤ r + yn1
            · go_wp2_with fail
              go_meet
              exact ⟨by show _ = _; rw [last.out h2.out hr], rfl⟩
            · go_wp2_with fail
              go_round
              case rel => exact ⟨q - 1, r + yn1, rfl, rfl, by omega, by omega, by omega, by omega, (more.out (by omega) h2.out).1, (more.out (by omega) h2.out).2⟩
              case measure => simp [intOf]; omega
          · have h2 : Hid ((R1 * 4294967296 + un0) / v = q) := DivI.stop _ _ _ v0 HQ.out (by have := HK.out; rw [EV.out]; omega)
            clear HK
            go_wp2_with fail
            go_meet
            exact ⟨by show _ = _; rw [h2.out], rfl⟩
    case rest =>
      obtain ⟨HQ2, rfl⟩ := hcut
      unfold IsQuo at HQ2
      subst HQ2
      have Q2b := DivI.quo_lt 4294967296 v R1 un0 v0 (by omega) un0b R1b
      have Q2a : 0 ≤ (R1 * 4294967296 + un0) / v := Int.ediv_nonneg (by omega) (by omega)
      have R2a := Int.emod_nonneg (R1 * 4294967296 + un0) (by omega : v ≠ 0)
      have R2b := Int.emod_lt_of_pos (R1 * 4294967296 + un0) v0
      have HW2 := Lib.hid (DivI.rest_wrap 18446744073709551616 (R1 * 4294967296 + un0) _ v R1 (by omega) v0 (by omega) rfl)
      generalize hQ2 : (R1 * 4294967296 + un0) / v = Q2 at *
      generalize hR2 : (R1 * 4294967296 + un0) % v = R2 at *
      have HQ2 := Lib.hid hQ2
      have HR2 := Lib.hid hR2
      clear hQ2 hR2 rq rr m1 r93
      have r132 : IntKind.u64.wrap (IntKind.u64.wrap (IntKind.u64.wrap (R1 * 4294967296) + un0) - IntKind.u64.wrap (Q2 * v)) = R2 := by
        have := HW2.out
        simp only [IntKind.wrap_u64]
        omega
      go_wp2
      go_ret2
      exact ⟨by rw [HQ1.out, HR1.out, HQ2.out, HR2.out]; rfl, rfl⟩
theorem shl_join (h l : Int) (s : Nat) (h0 : 0 ≤ h) (l0 : 0 ≤ l) (l1 : l < 18446744073709551616) (hs : s < 64) (hb : h * 2 ^ s < 18446744073709551616) :
    bits .or .u64 (IntKind.u64.wrap (h * 2 ^ s)) (l / 2 ^ (64 - s)) = h * 2 ^ s + l / 2 ^ (64 - s) := by
  have p0 := DivW.pos_pow s
  have q0 := DivW.pos_pow (64 - s)
  have hl := DivW.lt_q l _ _ p0 q0 (DivW.pow_split s (by omega)) l1
  have hp0 : 0 ≤ h * 2 ^ s := Int.mul_nonneg h0 (by omega)
  have hl0 : 0 ≤ l / 2 ^ (64 - s) := Int.ediv_nonneg l0 (by omega)
  have pb : (2 : Int) ^ s ≤ 2 ^ 63 := by
    have : (2 : Nat) ^ s ≤ 2 ^ 63 := Nat.pow_le_pow_right (by omega) (by omega)
    exact_mod_cast this
  rw [IntKind.wrap_u64, Int.emod_eq_of_lt hp0 hb, u64_or _ _ hp0 hb hl0 (by omega), nat_join s _ _ ?_ ?_]
  · omega
  · obtain ⟨h, rfl⟩ := Int.eq_ofNat_of_zero_le h0
    have e : ((h : Int) * 2 ^ s).toNat = h * 2 ^ s := by
      have : ((h : Int) * 2 ^ s) = ((h * 2 ^ s : Nat) : Int) := by simp
      rw [this]; omega
    rw [e, Nat.mul_mod_left]
  · have : ((2 ^ s : Nat) : Int) = (2 : Int) ^ s := by simp
    omega
theorem mask32 (x : Int) (h0 : 0 ≤ x) (h1 : x < 18446744073709551616) : bits .and .u64 x 4294967295 = x % 4294967296 := by
  obtain ⟨x, rfl⟩ := Int.eq_ofNat_of_zero_le h0
  rw [Mul64.maskN x (by omega), Int.natCast_emod]
  rfl
theorem div64_pos (h l y : Int) (w : World) (h0 : 0 < h) (h1 : h < y) (l0 : 0 ≤ l) (l1 : l < 18446744073709551616) (y1 : y < 18446744073709551616) :
    Calls Try.prog 81 #[.int .u64 h, .int .u64 l, .int .u64 y] w fun e w' => e = .returned (.tuple #[.int .u64 (Rep.val h l / y), .int .u64 (Rep.val h l % y)]) ∧ w = w' := by
  obtain ⟨k1, k2, k3⟩ := Lib.bitLenAux_bounds 64 y.toNat (by omega) (by omega)
  have hk : Lib.bitLenAux 64 y.toNat = Lib.bitLen y.toNat := rfl
  rw [hk] at k1 k2 k3
  have kl := Any.bitLen_le64 y (by omega) (by omega)
  obtain ⟨s, hs⟩ : ∃ s, 64 - Lib.bitLen y.toNat = s := ⟨_, rfl⟩
  have s1 : s < 64 := by omega
  have p0 := DivW.pos_pow s
  have q0 := DivW.pos_pow (64 - s)
  have hpq := DivW.pow_split s (by omega)
  have yn : ((y.toNat : Nat) : Int) = y := by omega
  have vlo : 9223372036854775808 ≤ y * 2 ^ s := by
    have a : 2 ^ (Lib.bitLen y.toNat - 1) * 2 ^ s ≤ y.toNat * 2 ^ s := Nat.mul_le_mul_right _ k2
    rw [← Nat.pow_add, show Lib.bitLen y.toNat - 1 + s = 63 by omega] at a
    have b : ((y.toNat * 2 ^ s : Nat) : Int) = y * 2 ^ s := by rw [Int.natCast_mul, yn]; simp
    omega
  have vhi : y * 2 ^ s < 18446744073709551616 := by
    have a : y.toNat * 2 ^ s < 2 ^ Lib.bitLen y.toNat * 2 ^ s := Nat.mul_lt_mul_of_pos_right k3 (Nat.pow_pos (by omega))
    rw [← Nat.pow_add, show Lib.bitLen y.toNat + s = 64 by omega] at a
    have b : ((y.toNat * 2 ^ s : Nat) : Int) = y * 2 ^ s := by rw [Int.natCast_mul, yn]; simp
    omega
  have hhi : h * 2 ^ s < 18446744073709551616 := Int.lt_trans (Int.mul_lt_mul_of_pos_right h1 p0) vhi
  have hj := shl_join h l s (by omega) l0 l1 s1 hhi
  have hsh := DivW.shifted h l _ _ p0 q0 hpq l0
  have hlq := DivW.lt_q l _ _ p0 q0 hpq l1
  have hl0 : 0 ≤ l / 2 ^ (64 - s) := Int.ediv_nonneg l0 (by omega)
  have hp0 : 0 ≤ h * 2 ^ s := Int.mul_nonneg (by omega) (by omega)
  obtain ⟨U, hU⟩ : ∃ U, h * 2 ^ s + l / 2 ^ (64 - s) = U := ⟨_, rfl⟩
  obtain ⟨L, hL⟩ : ∃ L, (l * 2 ^ s) % 18446744073709551616 = L := ⟨_, rfl⟩
  obtain ⟨v, hv⟩ : ∃ v, y * 2 ^ s = v := ⟨_, rfl⟩
  have L0 : 0 ≤ L := by omega
  have L1 : L < 18446744073709551616 := by omega
  rw [hU, hL] at hsh
  have U1 := DivW.u_lt h l y _ U L p0 h1 l1 L0 hsh
  rw [hv] at vlo vhi U1
  have U0 : 0 ≤ U := by omega
  obtain ⟨yn1, hy1⟩ : ∃ x, v / 4294967296 = x := ⟨_, rfl⟩
  obtain ⟨yn0, hy0⟩ : ∃ x, v % 4294967296 = x := ⟨_, rfl⟩
  obtain ⟨un1, hu1⟩ : ∃ x, L / 4294967296 = x := ⟨_, rfl⟩
  obtain ⟨un0, hu0⟩ : ∃ x, L % 4294967296 = x := ⟨_, rfl⟩
  have yz : 0 < yn1 := by omega
  obtain ⟨q, hq⟩ : ∃ q, U / yn1 = q := ⟨_, rfl⟩
  have d1 := Int.mul_ediv_add_emod U yn1
  have ra := Int.emod_nonneg U (by omega : yn1 ≠ 0)
  have rb := Int.emod_lt_of_pos U yz
  rw [hq, Int.mul_comm yn1 q] at d1
  have qa : 0 ≤ q := by rw [← hq]; exact Int.ediv_nonneg U0 (by omega)
  have qy : 0 ≤ q * yn1 := Int.mul_nonneg qa (by omega)
  obtain ⟨r, hr⟩ : ∃ r, U - q * yn1 = r := ⟨_, rfl⟩
  have r2e : U % yn1 = r := by omega
  rw [r2e] at ra rb
  have EV : v = yn1 * 4294967296 + yn0 := by omega
  have ER : q * yn1 + r = U := by omega
  have EQ : (U * 4294967296 + un1) / v ≤ q := by rw [EV]; exact DivI.quo_le 4294967296 yn1 yn0 U un1 q r ER rb (by omega) (by omega) yz (by omega) qa
  have qb : q ≤ 4294967297 := DivI.qhat_le 4294967296 yn1 yn0 U q r ER ra (by omega) yz (by omega) (by omega)
  refine (div64_core h l y v yn1 yn0 U L un1 un0 q r s w h0 h1 y1 l0 l1 (by show _ = _; omega) (by omega) (by rw [hv, IntKind.wrap_u64]; omega) hy1 (by rw [mask32 v (by omega) vhi]; exact hy0)
    (by rw [hj]; exact hU) (by rw [IntKind.wrap_u64]; exact hL) hu1 (by rw [mask32 L L0 L1]; exact hu0) hq hr EV (by omega) vhi (by omega) (by omega) (by omega) (by omega) U0 U1 L0 L1 (by omega) (by omega) (by omega) (by omega)
    qa qb qy (by omega) ra rb ER EQ).mono ?_
  rintro e w' ⟨rfl, hw⟩
  have t := DivI.two_steps 4294967296 v U un1 un0 (by omega)
  have hN : (U * 4294967296 + un1) * 4294967296 + un0 = Rep.val h l * 2 ^ s := by
    unfold Rep.val
    rw [← hsh]; omega
  rw [hN, ← hv, DivI.unshift_quo _ _ _ p0] at t
  have t2 : (((U * 4294967296 + un1) % (y * 2 ^ s) * 4294967296 + un0) % (y * 2 ^ s)) / 2 ^ s = Rep.val h l % y := by
    rw [← t.2, DivI.unshift_rem _ _ _ p0]
  rw [← hv, ← t.1, t2]
  exact ⟨rfl, hw⟩
/-- math/bits.Div64 -/
theorem div64_any (h l y : Int) (w : World) (h0 : 0 ≤ h) (h1 : h < y) (l0 : 0 ≤ l) (l1 : l < 18446744073709551616) (y1 : y < 18446744073709551616) :
    Calls Try.prog 81 #[.int .u64 h, .int .u64 l, .int .u64 y] w fun e w' => e = .returned (.tuple #[.int .u64 (Rep.val h l / y), .int .u64 (Rep.val h l % y)]) ∧ ∃ n, w' = w.drewN n := by
  by_cases hz : h = 0
  · subst hz
    have e : Rep.val 0 l = l := by unfold Rep.val; omega
    rw [e]
    exact div64_zero l y w l0 l1 h1 y1
  · refine (div64_pos h l y w (by omega) h1 l0 l1 y1).mono ?_
    rintro e w' ⟨rfl, rfl⟩
    exact ⟨rfl, 0, rfl⟩
theorem divided_hi (a b y : Int) (y0 : 0 < y) (b0 : 0 ≤ b) (b1 : b < 18446744073709551616) (a0 : 0 ≤ a) (a1 : a < 18446744073709551616) :
    a / y = Rep.hi (Rep.val a b / y) ∧ Rep.val (a % y) b / y = Rep.lo (Rep.val a b / y) ∧ Rep.val (a % y) b % y = Rep.val a b % y := by
  obtain ⟨h1, h2, h3, h4⟩ := DivV.split_ 18446744073709551616 a b y (by omega) y0 b0 b1 a0
  have q0 : 0 ≤ a / y := Int.ediv_nonneg a0 (by omega)
  have q1 : a / y < 18446744073709551616 := Int.lt_of_le_of_lt (Int.ediv_le_self y a0) a1
  obtain ⟨k1, k2⟩ := DivV.hi_lo (a / y) _ q0 q1 h4 h3
  unfold Rep.val Rep.hi Rep.lo
  rw [h1, k1, k2, h2]
  exact ⟨rfl, rfl, rfl⟩
set_option maxHeartbeats 1000000 in
theorem divided_any (a b y : Int) (w : World) (a0 : 0 ≤ a) (b0 : 0 ≤ b) (y0 : 0 < y) (a1 : a < 18446744073709551616) (b1 : b < 18446744073709551616) (y1 : y < 18446744073709551616) :
    Calls Try.prog 75 #[.agg #[.int .u64 a, .int .u64 b], .int .u64 y] w fun e w' => e = .returned (.tuple #[.agg #[.int .u64 (Rep.hi (Rep.val a b / y)), .int .u64 (Rep.lo (Rep.val a b / y))], .int .u64 (Rep.val a b % y)]) ∧ Below w.heap.size w w' := by
  obtain ⟨g1, g2, g3⟩ := divided_hi a b y y0 b0 b1 a0 a1
  have H1 := Lib.hid g1
  have H2 := Lib.hid g2
  have H3 := Lib.hid g3
  clear g1 g2 g3
  have m0 := Int.emod_nonneg a (by omega : y ≠ 0)
  have m1 := Int.emod_lt_of_pos a y0
  go_enter Try.func75, Try.ntmps75
  go_wp2_with fail
  go_quiet ((go_at_call 81; exact Calls.quiet_of (div64_any _ _ _ _ m0 m1 b0 b1 y1)))
  go_wp2
  refine bodyPost_ret (v := .tuple #[.agg #[.int .u64 (a / y), .int .u64 (Rep.val (a % y) b / y)], .int .u64 (Rep.val (a % y) b % y)]) (by simp [results, Try.results75, go_sem]) rfl ⟨?_, ?_⟩
  · rw [H1.out, H2.out, H3.out]
  · exact bSt (bSt (bDr (bAl (bAl (Below.refl _ _) _) _) _) (by simp) _) (by simp) _
/-- what a fraction in lowest terms answers: numerator, denominator, code -/
def rnum (neg : Bool) (n d : Nat) : Int := if Frac.fit n d then Frac.num neg n d else 0
def rden (n d : Nat) : Int := if Frac.fit n d then Frac.den n d else 0
def rerr (n d : Nat) : Int := if Frac.fit n d then 0 else 6
theorem quot_fin (n d f c rs A dc : Nat) (hg : Nat.gcd n f = 1) (hc : d.gcd rs = c) (hrs : (n : Int) % (d : Int) = (rs : Int)) (hA : A = n / c) (hd : dc = d / c) :
    n / Nat.gcd n (d * f) = A ∧ d * f / Nat.gcd n (d * f) = dc * f := by
  have e : rs = n % d := by have := Int.natCast_emod n d; omega
  have e2 : c = Nat.gcd n (d * f) := by rw [← hc, e]; exact Frac.gcd_step n d f hg
  rw [hA, hd, e2]
  exact ⟨rfl, (Frac.below n d f hg).symm⟩
theorem r_no (ng : Bool) (n dd : Nat) (h : ¬ (n / Nat.gcd n dd ≤ Frac.M ∧ dd / Nat.gcd n dd ≤ Frac.M)) : 0 = rnum ng n dd ∧ 0 = rden n dd ∧ 6 = rerr n dd := by
  have e : Frac.fit n dd = false := by
    unfold Frac.fit
    cases h1 : decide (n / Nat.gcd n dd ≤ Frac.M)
    · rfl
    · cases h2 : decide (dd / Nat.gcd n dd ≤ Frac.M)
      · rfl
      · exact absurd ⟨of_decide_eq_true h1, of_decide_eq_true h2⟩ h
  unfold rnum rden rerr
  rw [e]
  exact ⟨rfl, rfl, rfl⟩
theorem r_yes (ng : Bool) (n dd : Nat) (h1 : n / Nat.gcd n dd ≤ Frac.M) (h2 : dd / Nat.gcd n dd ≤ Frac.M) : Frac.num ng n dd = rnum ng n dd ∧ Frac.den n dd = rden n dd ∧ 0 = rerr n dd := by
  have e : Frac.fit n dd = true := by unfold Frac.fit; rw [decide_eq_true h1, decide_eq_true h2]; rfl
  unfold rnum rden rerr
  rw [e]
  exact ⟨rfl, rfl, rfl⟩
theorem ret_quot {a b c a' b' c' : Int} (h : a = a' ∧ b = b' ∧ c = c') : Ending.returned (.tuple #[.agg #[.int .i64 a, .int .i64 b], .int .i64 c]) = .returned (.tuple #[.agg #[.int .i64 a', .int .i64 b'], .int .i64 c']) := by
  rw [h.1, h.2.1, h.2.2]
set_option maxRecDepth 100000 in
set_option maxHeartbeats 4000000 in
theorem quotient_any (z : Int) (d f : Nat) (w : World) (z0 : -170141183460469231731687303715884105728 < z) (z1 : z < 170141183460469231731687303715884105728) (d0 : 0 < d) (d1 : d < 18446744073709551616) (f0 : 0 < f) (f1 : f < 18446744073709551616)
    (hg : Nat.gcd z.natAbs f = 1) :
    Calls Try.prog 58 #[.agg #[.int .u64 (Rep.hi z), .int .u64 (Rep.lo z)], .int .u64 d, .int .u64 f] w fun e w' => e = .returned (.tuple #[.agg #[.int .i64 (rnum (decide (z < 0)) z.natAbs (d * f)), .int .i64 (rden z.natAbs (d * f))], .int .i64 (rerr z.natAbs (d * f))]) ∧ Below w.heap.size w w' := by
  have hn : Rep.sgn (decide (z < 0)) z = (z.natAbs : Int) := by
    by_cases h : z < 0
    · rw [decide_eq_true h]; show -z = _; omega
    · rw [decide_eq_false h]; show z = _; omega
  have HH := Lib.hid ((Rep.hi_congr_sgn (decide (z < 0)) z).trans (by rw [hn]))
  have HL := Lib.hid ((Rep.lo_congr_sgn (decide (z < 0)) z).trans (by rw [hn]))
  clear hn
  have zh := Rep.hi_bd z
  have zl := Rep.lo_bd z
  obtain ⟨n, hn⟩ : ∃ n : Nat, n = z.natAbs := ⟨_, rfl⟩
  rw [← hn] at HH HL hg ⊢
  have n1 : n < 170141183460469231731687303715884105728 := by omega
  have HN := Lib.hid hn
  have HG := Lib.hid hg
  clear hn hg
  obtain ⟨ng, hng⟩ : ∃ b : Bool, b = decide (z < 0) := ⟨_, rfl⟩
  rw [← hng] at HH HL ⊢
  have HNG := Lib.hid hng
  clear hng
  obtain ⟨nh, hnh⟩ : ∃ x, x = Rep.hi (n : Int) := ⟨_, rfl⟩
  obtain ⟨nl, hnl⟩ : ∃ x, x = Rep.lo (n : Int) := ⟨_, rfl⟩
  have nhb := Rep.hi_bd (n : Int)
  have nlb := Rep.lo_bd (n : Int)
  have VN := Lib.hid (Rep.val_hi_lo (n : Int) (by omega) (by omega))
  rw [← hnh] at nhb HH VN
  rw [← hnl] at nlb HL VN
  clear hnh hnl
  go_enter Try.func58, Try.ntmps58
  go_wp2_with fail
  refine (negative_any z _ (by omega) z1).mono ?_
  rintro e w1 ⟨rfl, hb1⟩
  rw [← HNG.out]
  have P1 : Aside (Blk w1 w.heap.size 78 #[.int .u64 (Rep.hi z), .int .u64 (Rep.lo z)] ∧ Blk w1 (w.heap.size + 1) 50 #[.int .i64 0, .int .i64 0] ∧ Below w.heap.size w w1) :=
    ⟨((Blk.newAt rfl).alloc _).later hb1, (Blk.newAt (by simp)).later hb1, bTr (bAl (bAl (Below.refl _ _) _) _) hb1⟩
  clear hb1
  obtain ⟨⟨c00, c01⟩, ⟨f00, f01⟩, k0⟩ := P1.out.1.two
  go_wp2_with fail
  refine (signed_any _ _ _ _ zh.1 zl.1 zh.2 zl.2).mono ?_
  rintro e w2 ⟨rfl, hb2⟩
  rw [HH.out, HL.out]
  have P2 : Aside (Blk w2 w.heap.size 78 #[.int .u64 (Rep.hi z), .int .u64 (Rep.lo z)] ∧ Blk w2 (w.heap.size + 1) 50 #[.int .i64 0, .int .i64 0] ∧ Below w.heap.size w w2) :=
    ⟨P1.out.1.later hb2, P1.out.2.1.later hb2, P1.out.2.2.trans (hb2.mono P1.out.2.2.size)⟩
  clear hb2 P1 c00 c01 f00 f01 k0
  obtain ⟨⟨c00, c01⟩, ⟨f00, f01⟩, k0⟩ := P2.out.1.two
  go_wp2_with fail
  refine (divided_any _ _ _ _ nhb.1 nlb.1 (by omega) nhb.2 nlb.2 (by omega)).mono ?_
  rintro e w3 ⟨rfl, hb3⟩
  rw [VN.out]
  have P3 : Aside (Blk w3 w.heap.size 78 #[.int .u64 nh, .int .u64 nl] ∧ Blk w3 (w.heap.size + 1) 50 #[.int .i64 0, .int .i64 0] ∧ Below w.heap.size w w3) :=
    ⟨((P2.out.1.set0 _).set1 _).later hb3, ((P2.out.2.1.off (by omega) _).off (by omega) _).later hb3, (((P2.out.2.2.setCell (by simp) _).setCell (by simp) _)).trans (hb3.mono (by simpa using P2.out.2.2.size))⟩
  clear hb3 P2 c00 c01 f00 f01 k0 zh zl HH HL
  have hq1 := Rep.hi_bd ((n : Int) / (d : Int))
  have hq2 := Rep.lo_bd ((n : Int) / (d : Int))
  generalize Rep.hi ((n : Int) / (d : Int)) = qh at hq1 ⊢
  generalize Rep.lo ((n : Int) / (d : Int)) = ql at hq2 ⊢
  obtain ⟨rs, hrs⟩ : ∃ rs : Nat, (n : Int) % (d : Int) = (rs : Int) := ⟨n % d, (Int.natCast_emod _ _).symm⟩
  have hrsd : rs < d := by have := Int.emod_lt_of_pos (n : Int) (show (0 : Int) < (d : Int) by omega); omega
  have HRS := Lib.hid hrs
  rw [hrs]
  clear hrs
  obtain ⟨⟨c00, c01⟩, ⟨f00, f01⟩, k0⟩ := P3.out.1.two
  go_wp2_with fail
  refine (gcd_any _ _ (by omega) (by omega) _).mono ?_
  rintro e w4 ⟨rfl, n4, rfl⟩
  obtain ⟨c, hc⟩ : ∃ c, d.gcd rs = c := ⟨_, rfl⟩
  have c0 : 0 < c := by rw [← hc]; exact Nat.gcd_pos_of_pos_left _ d0
  have c1 : c ≤ d := by rw [← hc]; exact Nat.gcd_le_left _ d0
  have HC := Lib.hid hc
  rw [hc]
  clear hc
  go_wp2_with fail
  refine (divided_any _ _ _ _ nhb.1 nlb.1 (by omega) nhb.2 nlb.2 (by omega)).mono ?_
  rintro e w5 ⟨rfl, hb5⟩
  rw [VN.out]
  have P5 : Aside (Blk w5 (w.heap.size + 1) 50 #[.int .i64 0, .int .i64 0] ∧ Below w.heap.size w w5) :=
    ⟨(((P3.out.2.1.alloc _).drewN _).later hb5), (bDr (bAl P3.out.2.2 _) _).trans (hb5.mono (by have := P3.out.2.2.size; simp; omega))⟩
  clear hb5 P3 c00 c01 f00 f01 k0
  obtain ⟨A, hA⟩ : ∃ A : Nat, (n : Int) / (c : Int) = (A : Int) := ⟨n / c, (Int.natCast_ediv _ _).symm⟩
  have hAn : A = n / c := by have := Int.natCast_ediv n c; omega
  have hAle : A ≤ n := by rw [hAn]; exact Nat.div_le_self _ _
  have HA := Lib.hid hAn
  rw [hA]
  clear hA hAn
  have VA := Lib.hid (Rep.val_hi_lo (A : Int) (by omega) (by omega))
  have ahb := Rep.hi_bd (A : Int)
  have alb := Rep.lo_bd (A : Int)
  generalize Rep.hi (A : Int) = Ah at VA ahb ⊢
  generalize Rep.lo (A : Int) = Al at VA alb ⊢
  obtain ⟨tt, htt⟩ : ∃ tt, (n : Int) % (c : Int) = tt := ⟨_, rfl⟩
  rw [htt]
  clear htt
  obtain ⟨dc, hdc⟩ : ∃ dc : Nat, (d : Int) / (c : Int) = (dc : Int) := ⟨d / c, (Int.natCast_ediv _ _).symm⟩
  have hdcn : dc = d / c := by have := Int.natCast_ediv d c; omega
  have hdcle : dc ≤ d := by rw [hdcn]; exact Nat.div_le_self _ _
  have HD := Lib.hid hdcn
  clear hdcn
  go_wp2_with fail
  refine (times_any _ _ (by omega) (by omega) (by omega) (by omega) _).mono ?_
  rintro e w6 ⟨rfl, hb6⟩
  have P6 : Aside (Blk w6 w5.heap.size 78 #[.int .u64 Ah, .int .u64 Al] ∧ Blk w6 (w.heap.size + 1) 50 #[.int .i64 0, .int .i64 0] ∧ Below w.heap.size w w6) :=
    ⟨(Blk.newAt rfl).later hb6, (P5.out.1.alloc _).later hb6, (bAl P5.out.2 _).trans (hb6.mono (by have := P5.out.2.size; simp; omega))⟩
  have k56 : w5.heap.size < w6.heap.size := P6.out.1.lt
  clear hb6 P5
  have hBm := Rep.mul_lt_sq dc f (by omega) f1
  have VB := Lib.hid (Rep.val_hi_lo ((dc : Int) * (f : Int)) (by rw [← Int.natCast_mul]; omega) (by rw [← Int.natCast_mul]; omega))
  have bhb := Rep.hi_bd ((dc : Int) * (f : Int))
  have blb := Rep.lo_bd ((dc : Int) * (f : Int))
  generalize Rep.hi ((dc : Int) * (f : Int)) = Bh at VB bhb ⊢
  generalize Rep.lo ((dc : Int) * (f : Int)) = Bl at VB blb ⊢
  obtain ⟨⟨c00, c01⟩, ⟨f00, f01⟩, k0⟩ := P6.out.1.two
  go_wp2_with fail
  refine (fits_any _ _ _ ahb.1 alb.1).mono ?_
  rintro e w7 ⟨rfl, hb7⟩
  rw [VA.out]
  have P7 : Aside (Blk w7 w5.heap.size 78 #[.int .u64 Ah, .int .u64 Al] ∧ Blk w7 w6.heap.size 78 #[.int .u64 Bh, .int .u64 Bl] ∧ Blk w7 (w.heap.size + 1) 50 #[.int .i64 0, .int .i64 0] ∧ Below w.heap.size w w7) :=
    ⟨(P6.out.1.alloc _).later hb7, (Blk.newAt rfl).later hb7, (P6.out.2.1.alloc _).later hb7, (bAl P6.out.2.2 _).trans (hb7.mono (by have := P6.out.2.2.size; simp; omega))⟩
  clear hb7 P6 c00 c01 f00 f01 k0
  obtain ⟨⟨c00, c01⟩, ⟨f00, f01⟩, k0⟩ := P7.out.1.two
  obtain ⟨⟨c10, c11⟩, ⟨f10, f11⟩, k1⟩ := P7.out.2.1.two
  obtain ⟨⟨c20, c21⟩, ⟨f20, f21⟩, k2⟩ := P7.out.2.2.1.two
  have HF := Lib.hid (quot_fin n d f c rs A dc HG.out HC.out HRS.out HA.out HD.out)
  by_cases hA : A ≤ 1152921504606846976
  · have tA : decide ((A : Int) ≤ 1152921504606846976) = true := decide_eq_true (by omega)
    rw [tA]
    go_wp2_with fail
    refine (fits_any _ _ _ bhb.1 blb.1).mono ?_
    rintro e w8 ⟨rfl, hb8⟩
    rw [VB.out]
    have P8 : Aside (Blk w8 w5.heap.size 78 #[.int .u64 Ah, .int .u64 Al] ∧ Blk w8 w6.heap.size 78 #[.int .u64 Bh, .int .u64 Bl] ∧ Blk w8 (w.heap.size + 1) 50 #[.int .i64 0, .int .i64 0] ∧ Below w.heap.size w w8) :=
      ⟨P7.out.1.later hb8, P7.out.2.1.later hb8, P7.out.2.2.1.later hb8, P7.out.2.2.2.trans (hb8.mono P7.out.2.2.2.size)⟩
    clear hb8 P7 c00 c01 f00 f01 k0 c10 c11 f10 f11 k1 c20 c21 f20 f21 k2
    obtain ⟨⟨c00, c01⟩, ⟨f00, f01⟩, k0⟩ := P8.out.1.two
    obtain ⟨⟨c10, c11⟩, ⟨f10, f11⟩, k1⟩ := P8.out.2.1.two
    obtain ⟨⟨c20, c21⟩, ⟨f20, f21⟩, k2⟩ := P8.out.2.2.1.two
    by_cases hB : dc * f ≤ 1152921504606846976
    · have tB : decide ((dc : Int) * (f : Int) ≤ 1152921504606846976) = true := decide_eq_true (by rw [← Int.natCast_mul]; omega)
      rw [tB]
      have HY := Lib.hid (r_yes ng n (d * f) (by rw [HF.out.1]; exact hA) (by rw [HF.out.2]; exact hB))
      have ea : Al = (A : Int) := by have := VA.out; unfold Rep.val at this; omega
      have eb : Bl = ((dc * f : Nat) : Int) := by have := VB.out; unfold Rep.val at this; rw [← Int.natCast_mul] at this; omega
      subst ea
      obtain ⟨BN, hBN⟩ : ∃ BN : Nat, BN = dc * f := ⟨_, rfl⟩
      rw [← hBN] at eb hB
      subst eb
      have HBN := Lib.hid hBN
      clear hBN
      cases ng
      · have HZ : Hid ((A : Int) = Frac.num false n (d * f) ∧ (BN : Int) = Frac.den n (d * f)) := ⟨by unfold Frac.num; rw [HF.out.1]; rfl, by unfold Frac.den; rw [HF.out.2, HBN.out]⟩
        go_wp2
        refine bodyPost_ret (v := .tuple #[.agg #[.int .i64 (A : Int), .int .i64 (BN : Int)], .int .i64 0]) (by simp [results, Try.results58, go_sem, c20, c21, k2]) rfl ⟨?_, ?_⟩
        · exact ret_quot ⟨HZ.out.1.trans HY.out.1, HZ.out.2.trans HY.out.2.1, HY.out.2.2⟩
        · exact bAl (bSt (bSt P8.out.2.2.2 (by simp) _) (by simp) _) _
      · have HZ : Hid (-(A : Int) = Frac.num true n (d * f) ∧ (BN : Int) = Frac.den n (d * f)) := ⟨by unfold Frac.num; rw [HF.out.1]; rfl, by unfold Frac.den; rw [HF.out.2, HBN.out]⟩
        go_wp2
        refine bodyPost_ret (v := .tuple #[.agg #[.int .i64 (-(A : Int)), .int .i64 (BN : Int)], .int .i64 0]) (by simp [results, Try.results58, go_sem, c20, c21, k2]) rfl ⟨?_, ?_⟩
        · exact ret_quot ⟨HZ.out.1.trans HY.out.1, HZ.out.2.trans HY.out.2.1, HY.out.2.2⟩
        · exact bAl (bSt (bSt P8.out.2.2.2 (by simp) _) (by simp) _) _
    · have tB : decide ((dc : Int) * (f : Int) ≤ 1152921504606846976) = false := decide_eq_false (by rw [← Int.natCast_mul]; omega)
      rw [tB]
      have HY := Lib.hid (r_no ng n (d * f) (fun h => hB (by rw [← HF.out.2]; exact h.2)))
      go_wp2
      refine bodyPost_ret (v := .tuple #[.agg #[.int .i64 0, .int .i64 0], .int .i64 6]) (by simp [results, Try.results58, go_sem, c20, c21, k2]) rfl ⟨?_, ?_⟩
      · exact ret_quot HY.out
      · exact bSt (bSt P8.out.2.2.2 (by simp) _) (by simp) _
  · have tA : decide ((A : Int) ≤ 1152921504606846976) = false := decide_eq_false (by omega)
    rw [tA]
    have HY := Lib.hid (r_no ng n (d * f) (fun h => hA (by rw [← HF.out.1]; exact h.1)))
    go_wp2
    refine bodyPost_ret (v := .tuple #[.agg #[.int .i64 0, .int .i64 0], .int .i64 6]) (by simp [results, Try.results58, go_sem, c20, c21, k2]) rfl ⟨?_, ?_⟩
    · exact ret_quot HY.out
    · exact bSt (bSt P7.out.2.2.2 (by simp) _) (by simp) _
/-- the sign of a quotient -/
def sgnOf (n d : Int) : Bool := decide (n < 0) != decide (d < 0)
theorem sgn_spell (n d : Int) : (!decide (n < 0) == decide (d < 0)) = sgnOf n d := by unfold sgnOf; cases decide (n < 0) <;> cases decide (d < 0) <;> rfl
def newNum (n d : Int) : Int := if d = 0 then 0 else rnum (sgnOf n d) n.natAbs d.natAbs
def newDen (n d : Int) : Int := if d = 0 then 0 else rden n.natAbs d.natAbs
def newErr (n d : Int) : Int := if d = 0 then 2 else rerr n.natAbs d.natAbs
theorem rnum_zero (b c : Bool) (d : Nat) : rnum b 0 d = rnum c 0 d := by
  unfold rnum Frac.num
  rw [Nat.zero_div]
  cases b <;> cases c <;> rfl
theorem sgn_abs (s : Bool) (n : Nat) : (Rep.sgn s (n : Int)).natAbs = n := by
  cases s
  · show ((n : Int)).natAbs = n; omega
  · show (-(n : Int)).natAbs = n; omega
theorem sgn_rnum (s : Bool) (n d : Nat) : rnum (decide (Rep.sgn s (n : Int) < 0)) n d = rnum s n d := by
  by_cases h : n = 0
  · subst h; exact rnum_zero _ _ _
  · congr 1
    cases s
    · show decide ((n : Int) < 0) = false; exact decide_eq_false (by omega)
    · show decide (-(n : Int) < 0) = true; exact decide_eq_true (by omega)
set_option maxHeartbeats 2000000 in
theorem ratio_new (n d : Int) (n0 : -9223372036854775808 ≤ n) (n1 : n < 9223372036854775808) (d0 : -9223372036854775808 ≤ d) (d1 : d < 9223372036854775808) (w : World) :
    Calls Try.prog 52 #[.int .i64 n, .int .i64 d] w fun e w' => e = .returned (.tuple #[.agg #[.int .i64 (newNum n d), .int .i64 (newDen n d)], .int .i64 (newErr n d)]) ∧ Below w.heap.size w w' := by
  by_cases hd : d = 0
  · subst hd
    have HX : Hid ((0 : Int) = newNum n 0 ∧ (0 : Int) = newDen n 0 ∧ (2 : Int) = newErr n 0) := by
      unfold newNum newDen newErr
      exact ⟨rfl, rfl, rfl⟩
    go_enter Try.func52, Try.ntmps52
    go_wp2
    refine bodyPost_ret (v := .tuple #[.agg #[.int .i64 0, .int .i64 0], .int .i64 2]) (by simp [results, Try.results52, go_sem]) rfl ⟨ret_quot HX.out, ?_⟩
    exact bAl (Below.refl _ _) _
  have hn : (0 : Int) ≤ (n.natAbs : Int) ∧ (n.natAbs : Int) < 18446744073709551616 := by omega
  obtain ⟨m, hm⟩ : ∃ m : Nat, n.natAbs = m := ⟨_, rfl⟩
  obtain ⟨y, hy⟩ : ∃ y : Nat, d.natAbs = y := ⟨_, rfl⟩
  have y0 : 0 < y := by omega
  have y1 : y < 18446744073709551616 := by omega
  have HX : Hid (rnum (decide (Rep.sgn (sgnOf n d) (m : Int) < 0)) (Rep.sgn (sgnOf n d) (m : Int)).natAbs (y * 1) = newNum n d ∧ rden (Rep.sgn (sgnOf n d) (m : Int)).natAbs (y * 1) = newDen n d ∧ rerr (Rep.sgn (sgnOf n d) (m : Int)).natAbs (y * 1) = newErr n d) := by
    unfold newNum newDen newErr
    rw [if_neg hd, if_neg hd, if_neg hd, sgn_abs, sgn_rnum, Nat.mul_one, hm, hy]
    exact ⟨rfl, rfl, rfl⟩
  rw [hm] at hn
  have HM := Lib.hid hm
  have HY := Lib.hid hy
  clear hm hy
  have hdz : (d == 0) = false := by rw [beq_eq_false_iff_ne]; exact hd
  have hzl : -170141183460469231731687303715884105728 < Rep.sgn (sgnOf n d) (m : Int) ∧ Rep.sgn (sgnOf n d) (m : Int) < 170141183460469231731687303715884105728 := by
    cases sgnOf n d
    · show _ < (m : Int) ∧ (m : Int) < _; omega
    · show _ < -(m : Int) ∧ -(m : Int) < _; omega
  have HV : Hid (Rep.val 0 (m : Int) = (m : Int)) := by show _ = _; unfold Rep.val; omega
  have HS := Lib.hid (sgn_spell n d)
  go_enter Try.func52, Try.ntmps52
  go_wp2_with fail
  refine (magnitude_any _ n0 n1 _).mono ?_
  rintro e w1 ⟨rfl, rfl⟩
  rw [HM.out]
  go_wp2_with fail
  refine (signed_any _ 0 _ _ (by omega) hn.1 (by omega) hn.2).mono ?_
  rintro e w1 ⟨rfl, hb⟩
  rw [HV.out, HS.out]
  have P1 : Aside (Blk w1 w.heap.size 50 #[.int .i64 0, .int .i64 0] ∧ Below w.heap.size w w1) := ⟨(Blk.newAt rfl).later hb, bTr (bAl (Below.refl _ _) _) hb⟩
  clear hb
  generalize Rep.sgn (sgnOf n d) (m : Int) = z at HX hzl ⊢
  have kR : w.heap.size < w1.heap.size := P1.out.1.lt
  go_wp2_with fail
  go_region_held3 (fun w' => w'.cell? ⟨w1.heap.size, 0, none⟩ = some (.int .u64 (Rep.hi z)) ∧ w'.cell? ⟨w1.heap.size, 1, none⟩ = some (.int .u64 (Rep.lo z))) (first | go_keep | (go_split_ands; refine ⟨?_, ?_⟩ <;> (first | (rw [hb.cell (by simp)]; assumption) | (rw [World.cell?_setCell_other _ _ _ _ (by first | (simp; done) | (simp; omega)), World.cell?_setCell_other _ _ _ _ (by first | (simp; done) | (simp; omega))]; assumption))))
    (first | (go_at_call 59; refine (magnitude_any _ d0 d1 _).mono ?_; rintro e w' ⟨rfl, rfl⟩; rw [HY.out]) | (go_at_call 58; refine (quotient_any z y 1 _ hzl.1 hzl.2 y0 y1 (by omega) (by omega) (Nat.gcd_one_right _)).mono ?_; rintro e w' ⟨rfl, hb⟩; have PB := Blk.later (by first | exact Blk.drew (Blk.alloc P1.out.1 _) | exact Blk.alloc P1.out.1 _) hb; obtain ⟨⟨r0, r1⟩, ⟨g0, g1⟩, gk⟩ := PB.two; clear PB; have HB := Lib.hid (Below.trans (by first | exact bD1 (bAl P1.out.2 _) | exact bAl P1.out.2 _) (hb.mono (by have := P1.out.2.size; simp; omega)))))
  go_wp2
  refine bodyPost_ret (v := .tuple #[.agg #[.int .i64 (rnum (decide (z < 0)) z.natAbs (y * 1)), .int .i64 (rden z.natAbs (y * 1))], .int .i64 (rerr z.natAbs (y * 1))]) (by simp [results, Try.results52, go_sem, r0, r1, gk]) rfl ⟨ret_quot HX.out, ?_⟩
  exact bSt (bSt HB.out (by simp) _) (by simp) _
set_option maxHeartbeats 1000000 in
theorem r_divide_small (b d : Int) (w : World) (b0 : 0 ≤ b) (d0 : 0 < d) (b1 : b < 18446744073709551616) (d1 : d < 18446744073709551616) :
    Calls Try.prog 79 #[.agg #[.int .u64 0, .int .u64 b], .agg #[.int .u64 0, .int .u64 d]] w fun e w' => e = .returned (.tuple #[.agg #[.int .u64 0, .int .u64 (b / d)], .agg #[.int .u64 0, .int .u64 (b % d)]]) ∧ Below w.heap.size w w' := by
  go_enter Try.func79, Try.ntmps79
  go_wp2
  go_region
  go_wp2
  refine bodyPost_ret (v := .tuple #[.agg #[.int .u64 0, .int .u64 (b / d)], .agg #[.int .u64 0, .int .u64 (b % d)]]) (by simp [results, Try.results79, go_sem]) rfl ⟨rfl, ?_⟩
  exact bD1 (bAl (bAl (bAl (bAl (Below.refl _ _) _) _) _) _)
/-- the memory of the reference's divisor: its two numbers and its result -/
def DivS (w : World) (i j : Nat) (wr : World) : Prop :=
  Blk wr w.heap.size 93 #[.int .u64 0, .int .u64 i] ∧ Blk wr (w.heap.size + 1) 93 #[.int .u64 0, .int .u64 j] ∧
  Blk wr (w.heap.size + 1 + 1) 93 #[.int .u64 0, .int .u64 0] ∧ Below w.heap.size w wr
theorem divS_step {w w1 : World} {i j : Nat} (S : DivS w i j w1) (m : Nat) (x : Int) (hx : x = (m : Int)) (o1 o2 : Obj) :
    DivS w j m (((((((w1.setCell ⟨w.heap.size, 0, none⟩ (.int .u64 0)).setCell ⟨w.heap.size, 1, none⟩ (.int .u64 (j : Int))).setCell ⟨w.heap.size + 1, 0, none⟩ (.int .u64 0)).setCell ⟨w.heap.size + 1, 1, none⟩ (.int .u64 x)).alloc o1).alloc o2).drew) := by
  subst hx
  obtain ⟨h0, h1, h2, h3⟩ := S
  refine ⟨?_, ?_, ?_, ?_⟩
  · exact ((((((h0.set0 _).set1 _).off (by omega) _).off (by omega) _).alloc _).alloc _).drew
  · exact ((((((h1.off (by omega) _).off (by omega) _).set0 _).set1 _).alloc _).alloc _).drew
  · exact ((((((h2.off (by omega) _).off (by omega) _).off (by omega) _).off (by omega) _).alloc _).alloc _).drew
  · exact bD1 (bAl (bAl (bSt (bSt (bSt (bSt h3 (by simp) _) (by simp) _) (by simp) _) (by simp) _) _) _)
set_option maxHeartbeats 1000000 in
theorem r_divisor_small (a b : Nat) (w : World) (ha : a < 18446744073709551616) (hb : b < 18446744073709551616) :
    Calls Try.prog 78 #[.agg #[.int .u64 0, .int .u64 a], .agg #[.int .u64 0, .int .u64 b]] w fun e w' => e = .returned (.agg #[.int .u64 0, .int .u64 (Nat.gcd a b : Nat)]) ∧ Below w.heap.size w w' := by
  go_enter Try.func78, Try.ntmps78
  go_wp2
  have S0 : Aside (DivS w a b ((((w.alloc (Obj.cells #[Value.int IntKind.u64 0, Value.int IntKind.u64 ↑a] 93)).alloc (Obj.cells #[Value.int IntKind.u64 0, Value.int IntKind.u64 ↑b] 93)).alloc (Obj.cells #[Value.int IntKind.u64 0, Value.int IntKind.u64 0] 93)))) :=
    ⟨((Blk.newAt rfl).alloc _).alloc _, (Blk.newAt (by simp)).alloc _, Blk.newAt (by simp), bAl (bAl (bAl (Below.refl _ _) _) _) _⟩
  generalize (((w.alloc (Obj.cells #[Value.int IntKind.u64 0, Value.int IntKind.u64 ↑a] 93)).alloc (Obj.cells #[Value.int IntKind.u64 0, Value.int IntKind.u64 ↑b] 93)).alloc (Obj.cells #[Value.int IntKind.u64 0, Value.int IntKind.u64 0] 93)) = W at S0 ⊢
  go_loopg [7] b (fun g x wr => ∃ i j : Nat, i < 18446744073709551616 ∧ j < 18446744073709551616 ∧ j ≤ g ∧ Aside (Nat.gcd i j = Nat.gcd a b) ∧ Aside (DivS w i j wr))
  case atStart => exact ⟨a, b, ha, hb, Nat.le_refl _, rfl, S0⟩
  case round =>
    clear S0
    obtain ⟨i, j, hi, hj, hjg, HG, S1⟩ := hrel
    obtain ⟨⟨c00, c01⟩, ⟨f00, f01⟩, k0⟩ := S1.out.1.two
    obtain ⟨⟨c10, c11⟩, ⟨f10, f11⟩, k1⟩ := S1.out.2.1.two
    obtain ⟨⟨c20, c21⟩, ⟨f20, f21⟩, k2⟩ := S1.out.2.2.1.two
    by_cases hz : j = 0
    · subst hz
      have HE : Hid (Nat.gcd a b = i) := by
        show _ = _
        rw [← HG.out, Nat.gcd_zero_right]
      go_wp2
      refine bodyPost_ret (v := .agg #[.int .u64 0, .int .u64 (i : Int)]) (by simp [results, Try.results78, go_sem, c20, c21, k2]) rfl ⟨?_, ?_⟩
      · rw [HE.out]
      · exact bSt (bSt S1.out.2.2.2 (by simp; omega) _) (by simp; omega) _
    · have hjp : (0 : Int) < (j : Int) := by omega
      have hml : i % j < j := Nat.mod_lt i (by omega)
      go_wp2_with fail
      refine (r_divide_small _ _ _ (by omega) hjp (by omega) (by omega)).mono ?_
      rintro e w1 ⟨rfl, hb1⟩
      have S2 : Aside (DivS w i j w1) := ⟨S1.out.1.later hb1, S1.out.2.1.later hb1, S1.out.2.2.1.later hb1, S1.out.2.2.2.trans (hb1.mono (by omega))⟩
      clear hb1 S1 c00 c01 f00 f01 k0 c10 c11 f10 f11 k1 c20 c21 f20 f21 k2
      obtain ⟨⟨c00, c01⟩, ⟨f00, f01⟩, k0⟩ := S2.out.1.two
      obtain ⟨⟨c10, c11⟩, ⟨f10, f11⟩, k1⟩ := S2.out.2.1.two
      go_wp2
      go_region
      have S3 : Aside (DivS w j (i % j) (((((((w1.setCell ⟨w.heap.size, 0, none⟩ (.int .u64 0)).setCell ⟨w.heap.size, 1, none⟩ (.int .u64 (j : Int))).setCell ⟨w.heap.size + 1, 0, none⟩ (.int .u64 0)).setCell ⟨w.heap.size + 1, 1, none⟩ (.int .u64 ((i : Int) % (j : Int)))).alloc (.cells #[.int .u64 0, .int .u64 ((i : Int) / (j : Int))] 93)).alloc (.cells #[.int .u64 0, .int .u64 ((i : Int) % (j : Int))] 93)).drew)) := divS_step S2.out (i % j) _ (Int.natCast_emod _ _).symm _ _
      clear S2 c00 c01 f00 f01 k0 c10 c11 f10 f11 k1
      generalize ((((((w1.setCell ⟨w.heap.size, 0, none⟩ (.int .u64 0)).setCell ⟨w.heap.size, 1, none⟩ (.int .u64 (j : Int))).setCell ⟨w.heap.size + 1, 0, none⟩ (.int .u64 0)).setCell ⟨w.heap.size + 1, 1, none⟩ (.int .u64 ((i : Int) % (j : Int)))).alloc (.cells #[.int .u64 0, .int .u64 ((i : Int) / (j : Int))] 93)).alloc (.cells #[.int .u64 0, .int .u64 ((i : Int) % (j : Int))] 93)).drew = w3 at S3 ⊢
      go_wp2
      go_roundg (i % j)
      case measure => omega
      case rel => exact ⟨j, i % j, hj, by omega, Nat.le_refl _, (by show _ = _; rw [← HG.out, Nat.gcd_comm i j, Nat.gcd_rec j i, Nat.gcd_comm]), S3⟩
set_option maxRecDepth 100000 in
set_option maxHeartbeats 4000000 in
theorem r_reduce_small (ng : Bool) (n d : Nat) (w : World) (n1 : n < 18446744073709551616) (d0 : 0 < d) (d1 : d < 18446744073709551616) :
    Calls Try.prog 68 #[.bool ng, .agg #[.int .u64 0, .int .u64 n], .agg #[.int .u64 0, .int .u64 d]] w fun e w' => e = .returned (.tuple #[.agg #[.int .i64 (rnum ng n d), .int .i64 (rden n d)], .int .i64 (rerr n d)]) ∧ Below w.heap.size w w' := by
  obtain ⟨g, hg⟩ : ∃ g, Nat.gcd n d = g := ⟨_, rfl⟩
  have g0 : 0 < g := by rw [← hg]; exact Nat.gcd_pos_of_pos_right _ d0
  have g1 : g ≤ d := by rw [← hg]; exact Nat.gcd_le_right _ d0
  have HG := Lib.hid hg
  clear hg
  obtain ⟨A, hA⟩ : ∃ A : Nat, (n : Int) / (g : Int) = (A : Int) := ⟨n / g, (Int.natCast_ediv _ _).symm⟩
  have hAn : A = n / g := by have := Int.natCast_ediv n g; omega
  have hAle : A ≤ n := by rw [hAn]; exact Nat.div_le_self _ _
  obtain ⟨C, hC⟩ : ∃ C : Nat, (d : Int) / (g : Int) = (C : Int) := ⟨d / g, (Int.natCast_ediv _ _).symm⟩
  have hCn : C = d / g := by have := Int.natCast_ediv d g; omega
  have hCle : C ≤ d := by rw [hCn]; exact Nat.div_le_self _ _
  have HF : Hid (n / Nat.gcd n d = A ∧ d / Nat.gcd n d = C) := ⟨by rw [HG.out, hAn], by rw [HG.out, hCn]⟩
  have HA := Lib.hid hA
  have HC := Lib.hid hC
  clear hA hC hAn hCn
  go_enter Try.func68, Try.ntmps68
  go_wp2_with fail
  refine (r_divisor_small n d _ n1 d1).mono ?_
  rintro e w1 ⟨rfl, hb⟩
  rw [HG.out]
  have P1 : Aside (Blk w1 w.heap.size 93 #[.int .u64 0, .int .u64 n] ∧ Blk w1 (w.heap.size + 1) 93 #[.int .u64 0, .int .u64 d] ∧ Blk w1 (w.heap.size + 1 + 1) 50 #[.int .i64 0, .int .i64 0] ∧ Below w.heap.size w w1) :=
    ⟨(((Blk.newAt rfl).alloc _).alloc _).later hb, ((Blk.newAt (by simp)).alloc _).later hb, (Blk.newAt (by simp)).later hb, bTr (bAl (bAl (bAl (Below.refl _ _) _) _) _) hb⟩
  clear hb
  obtain ⟨⟨c00, c01⟩, ⟨f00, f01⟩, k0⟩ := P1.out.1.two
  go_wp2_with fail
  refine (r_divide_small (n : Int) (g : Int) _ (by omega) (by omega) (by omega) (by omega)).mono ?_
  rintro e w2 ⟨rfl, hb⟩
  rw [HA.out]
  have P2 : Aside (Blk w2 w1.heap.size 93 #[.int .u64 0, .int .u64 g] ∧ Blk w2 (w.heap.size + 1) 93 #[.int .u64 0, .int .u64 d] ∧ Blk w2 (w.heap.size + 1 + 1) 50 #[.int .i64 0, .int .i64 0] ∧ Below w.heap.size w w2) :=
    ⟨(Blk.newAt rfl).later hb, (P1.out.2.1.alloc _).later hb, (P1.out.2.2.1.alloc _).later hb, (bAl P1.out.2.2.2 _).trans (hb.mono (by have := P1.out.2.2.2.size; simp; omega))⟩
  clear hb P1 c00 c01 f00 f01 k0
  obtain ⟨t1, ht1⟩ : ∃ t, (n : Int) % (g : Int) = t := ⟨_, rfl⟩
  rw [ht1]
  clear ht1
  obtain ⟨⟨c00, c01⟩, ⟨f00, f01⟩, k0⟩ := P2.out.1.two
  obtain ⟨⟨c10, c11⟩, ⟨f10, f11⟩, k1⟩ := P2.out.2.1.two
  have k2 : w1.heap.size < w2.heap.size + 1 := by omega
  have k3 : w.heap.size + 1 < w2.heap.size + 1 := by omega
  go_wp2_with fail
  refine (r_divide_small (d : Int) (g : Int) _ (by omega) (by omega) (by omega) (by omega)).mono ?_
  rintro e w3 ⟨rfl, hb⟩
  rw [HC.out]
  have P3 : Aside (Blk w3 w2.heap.size 93 #[.int .u64 0, .int .u64 A] ∧ Blk w3 (w.heap.size + 1 + 1) 50 #[.int .i64 0, .int .i64 0] ∧ Below w.heap.size w w3) :=
    ⟨((Blk.newAt rfl).alloc _).later hb, ((P2.out.2.2.1.alloc _).alloc _).later hb, (bAl (bAl P2.out.2.2.2 _) _).trans (hb.mono (by have := P2.out.2.2.2.size; simp; omega))⟩
  clear hb P2 c00 c01 f00 f01 k0 c10 c11 f10 f11 k1 k2 k3
  obtain ⟨t2, ht2⟩ : ∃ t, (d : Int) % (g : Int) = t := ⟨_, rfl⟩
  rw [ht2]
  clear ht2
  obtain ⟨⟨c00, c01⟩, ⟨f00, f01⟩, k0⟩ := P3.out.1.two
  obtain ⟨⟨c10, c11⟩, ⟨f10, f11⟩, k1⟩ := P3.out.2.1.two
  have k4 : w2.heap.size < w3.heap.size + 1 := by omega
  have k5 : w.heap.size + 1 + 1 < w3.heap.size + 1 := by omega
  have k6 : w2.heap.size < w3.heap.size + 1 + 1 := by omega
  have k7 : w.heap.size + 1 + 1 < w3.heap.size + 1 + 1 := by omega
  by_cases hA : A ≤ 1152921504606846976
  · have tA : decide ((A : Int) > 1152921504606846976) = false := decide_eq_false (by omega)
    by_cases hB : C ≤ 1152921504606846976
    · have tB : decide ((C : Int) > 1152921504606846976) = false := decide_eq_false (by omega)
      have HY := Lib.hid (r_yes ng n d (by rw [HF.out.1]; exact hA) (by rw [HF.out.2]; exact hB))
      cases ng
      · have HZ : Hid ((A : Int) = Frac.num false n d ∧ (C : Int) = Frac.den n d) := ⟨by unfold Frac.num; rw [HF.out.1]; rfl, by unfold Frac.den; rw [HF.out.2]⟩
        go_wp2
        refine bodyPost_ret (v := .tuple #[.agg #[.int .i64 (A : Int), .int .i64 (C : Int)], .int .i64 0]) (by simp [results, Try.results68, go_sem, c10, c11, k1, k5, k7]) rfl ⟨?_, ?_⟩
        · exact ret_quot ⟨HZ.out.1.trans HY.out.1, HZ.out.2.trans HY.out.2.1, HY.out.2.2⟩
        · exact bAl (bAl (bAl (bSt (bSt P3.out.2.2 (by simp; omega) _) (by simp; omega) _) _) _) _
      · have HZ : Hid (-(A : Int) = Frac.num true n d ∧ (C : Int) = Frac.den n d) := ⟨by unfold Frac.num; rw [HF.out.1]; rfl, by unfold Frac.den; rw [HF.out.2]⟩
        go_wp2
        refine bodyPost_ret (v := .tuple #[.agg #[.int .i64 (-(A : Int)), .int .i64 (C : Int)], .int .i64 0]) (by simp [results, Try.results68, go_sem, c10, c11, k1, k5, k7]) rfl ⟨?_, ?_⟩
        · exact ret_quot ⟨HZ.out.1.trans HY.out.1, HZ.out.2.trans HY.out.2.1, HY.out.2.2⟩
        · exact bAl (bAl (bAl (bSt (bSt P3.out.2.2 (by simp; omega) _) (by simp; omega) _) _) _) _
    · have tB : decide ((C : Int) > 1152921504606846976) = true := decide_eq_true (by omega)
      have HY := Lib.hid (r_no ng n d (fun h => hB (by rw [← HF.out.2]; exact h.2)))
      go_wp2
      refine bodyPost_ret (v := .tuple #[.agg #[.int .i64 0, .int .i64 0], .int .i64 6]) (by simp [results, Try.results68, go_sem, c10, c11, k1, k5, k7]) rfl ⟨?_, ?_⟩
      · exact ret_quot HY.out
      · exact bAl (bAl (bSt (bSt P3.out.2.2 (by simp; omega) _) (by simp; omega) _) _) _
  · have tA : decide ((A : Int) > 1152921504606846976) = true := decide_eq_true (by omega)
    have HY := Lib.hid (r_no ng n d (fun h => hA (by rw [← HF.out.1]; exact h.1)))
    go_wp2
    refine bodyPost_ret (v := .tuple #[.agg #[.int .i64 0, .int .i64 0], .int .i64 6]) (by simp [results, Try.results68, go_sem, c10, c11, k1, k5, k7]) rfl ⟨?_, ?_⟩
    · exact ret_quot HY.out
    · exact bAl (bAl (bSt (bSt P3.out.2.2 (by simp; omega) _) (by simp; omega) _) _) _
set_option maxHeartbeats 2000000 in
theorem r_new (n d : Int) (n0 : -9223372036854775808 ≤ n) (n1 : n < 9223372036854775808) (d0 : -9223372036854775808 ≤ d) (d1 : d < 9223372036854775808) (w : World) :
    Calls Try.prog 53 #[.int .i64 n, .int .i64 d] w fun e w' => e = .returned (.tuple #[.agg #[.int .i64 (newNum n d), .int .i64 (newDen n d)], .int .i64 (newErr n d)]) ∧ Below w.heap.size w w' := by
  by_cases hd : d = 0
  · subst hd
    have HX : Hid ((0 : Int) = newNum n 0 ∧ (0 : Int) = newDen n 0 ∧ (2 : Int) = newErr n 0) := by
      unfold newNum newDen newErr
      exact ⟨rfl, rfl, rfl⟩
    go_enter Try.func53, Try.ntmps53
    go_wp2
    refine bodyPost_ret (v := .tuple #[.agg #[.int .i64 0, .int .i64 0], .int .i64 2]) (by simp [results, Try.results53, go_sem]) rfl ⟨ret_quot HX.out, ?_⟩
    exact bAl (Below.refl _ _) _
  have HX : Hid (rnum (sgnOf n d) n.natAbs d.natAbs = newNum n d ∧ rden n.natAbs d.natAbs = newDen n d ∧ rerr n.natAbs d.natAbs = newErr n d) := by
    unfold newNum newDen newErr
    rw [if_neg hd, if_neg hd, if_neg hd]
    exact ⟨rfl, rfl, rfl⟩
  have hdz : (d == 0) = false := by rw [beq_eq_false_iff_ne]; exact hd
  have HS := Lib.hid (sgn_spell n d)
  go_enter Try.func53, Try.ntmps53
  go_wp2_with fail
  refine (size_any _ n0 n1 _).mono ?_
  rintro e w1 ⟨rfl, rfl⟩
  go_wp2_with fail
  refine (size_any _ d0 d1 _).mono ?_
  rintro e w1 ⟨rfl, rfl⟩
  go_wp2_with fail
  rw [HS.out]
  refine (r_reduce_small (sgnOf n d) n.natAbs d.natAbs _ (by omega) (by omega) (by omega)).mono ?_
  rintro e w1 ⟨rfl, hb⟩
  rw [HX.out.1, HX.out.2.1, HX.out.2.2]
  have PB := (Blk.newAt (w := w) (t := 50) (cs := #[.int .i64 0, .int .i64 0]) rfl).later hb
  obtain ⟨⟨c0, c1⟩, ⟨f0, f1⟩, k⟩ := PB.two
  have HB := Lib.hid (bTr (bAl (Below.refl _ _) _) hb)
  clear PB hb
  go_wp2
  refine bodyPost_ret (v := .tuple #[.agg #[.int .i64 (newNum n d), .int .i64 (newDen n d)], .int .i64 (newErr n d)]) (by simp [results, Try.results53, go_sem, c0, c1, k]) rfl ⟨rfl, ?_⟩
  exact bSt (bSt HB.out (by simp) _) (by simp) _
end Go.Proofs.Ytglikjdgjmijfaa
