/-
  What the statements of this seat need of the fractions: awake_any, tape_new, tape_loose, row_of, IsRow, r_valid, valid_any.
-/
import Derived.Test.YtjdldkafghblmaaDoorShelf
import Derived.Test.YtjdldkafghblmaaDoorMath
import Derived.Test.YtjdldkafghblmaaDoorMem
import Derived.Test.YtjdldkafghblmaaDoorNums
import Derived.Test.YtjdldkafghblmaaDoorTape
import Derived.WalkKit
import Derived.Below
import Derived.Laws.OwnMore
import Derived.Deep.Draws
import Derived.Laws.Rows
import Derived.Lib.Hide
import Derived.WalkLawsBesides
import Derived.WalkSpells
import Derived.BigQuiet
import Derived.Deep.QuietTactic
import Derived.Laws.Bits64
import Derived.Deep.LoopGhost
import Derived.Outline
import Derived.Shelf.Spec.BitsCarry
import Derived.Deep.RegionHeld3
import Derived.Laws.BitsAllLaws
import Derived.RegionTactic
import Derived.Deep.DeepCutAuto
import Derived.Deep.CutBlock
import Derived.Lib.ItoaNum
import Derived.LoopN
import Derived.BigRegion
import Derived.OpenShut
namespace Go.Proofs.YtjdldkafghblmaaDoor
set_option linter.unusedSimpArgs false
set_option linter.unusedVariables false
open Go.RowKit
theorem addLays : Lays7.n25 Tryd.prog ⟨fun | 25 => 60 | n => n, fun | 22 => 43 | n => n, fun | n => n⟩ := {
  mixed := by kernel_rfl
  f25 := Tryd.func60.trans (congrArg some (by kernel_rfl))
  t22 := Tryd.underlying43
  a22 := Tryd.isAgg43
  z22 := Tryd.sizeOf43
  v22 := Tryd.zeroValue43
  i22 := by kernel_rfl }
theorem add64 (x y c : Int) (x0 : 0 ≤ x) (y0 : 0 ≤ y) (c0 : 0 ≤ c) (c1 : c ≤ 1) (w : World) :
    (callFunc 60 #[.int .u64 x, .int .u64 y, .int .u64 c]).run Tryd.prog w = .ok (.value (.tuple #[.int .u64 (Rep.addLo x y c), .int .u64 (Rep.addHi x y c)])) w := by
  obtain ⟨x, rfl⟩ := Int.eq_ofNat_of_zero_le x0
  obtain ⟨y, rfl⟩ := Int.eq_ofNat_of_zero_le y0
  obtain ⟨c, rfl⟩ := Int.eq_ofNat_of_zero_le c0
  have h := Any7.bits_Add64 addLays x y c (by omega) w
  unfold Rep.addLo Rep.addHi
  simpa using h
theorem mul64 (x y : Int) (x0 : 0 ≤ x) (y0 : 0 ≤ y) (x1 : x < 18446744073709551616) (y1 : y < 18446744073709551616) (w : World) :
    Calls Tryd.prog 58 #[.int .u64 x, .int .u64 y] w fun e w' => e = .returned (.tuple #[.int .u64 (Rep.hi (x * y)), .int .u64 (Rep.lo (x * y))]) ∧ w = w' := by
  obtain ⟨x, rfl⟩ := Int.eq_ofNat_of_zero_le x0
  obtain ⟨y, rfl⟩ := Int.eq_ofNat_of_zero_le y0
  refine (Tryd.bits_Mul64 x y (by omega) (by omega) w).mono ?_
  rintro e w' ⟨rfl, rfl⟩
  rw [Rep.hi_nat x y (Rep.mul_lt_sq x y (by omega) (by omega)), Rep.lo_nat x y, Int.natCast_mul]
  exact ⟨rfl, rfl⟩
set_option maxHeartbeats 400000 in
theorem times_any (x y : Int) (x0 : 0 ≤ x) (y0 : 0 ≤ y) (x1 : x < 18446744073709551616) (y1 : y < 18446744073709551616) (w : World) :
    Calls Tryd.prog 31 #[.int .u64 x, .int .u64 y] w fun e w' => e = .returned (.agg #[.int .u64 (Rep.hi (x * y)), .int .u64 (Rep.lo (x * y))]) ∧ Below w.heap.size w w' := by
  go_enter Tryd.func31, Tryd.ntmps31
  go_wp2_with (go_at_call 58; refine (mul64 _ _ x0 y0 x1 y1 _).mono ?_; rintro e w' ⟨rfl, rfl⟩)
  refine bodyPost_ret (v := .agg #[.int .u64 (Rep.hi (x * y)), .int .u64 (Rep.lo (x * y))]) (by simp [results, Tryd.results31, go_sem]) rfl ⟨rfl, ?_⟩
  exact (Below.refl _ _).alloc (Nat.le_refl _) _
set_option maxHeartbeats 400000 in
theorem plus_any (a b c d : Int) (w : World) (a0 : 0 ≤ a) (b0 : 0 ≤ b) (c0 : 0 ≤ c) (d0 : 0 ≤ d) (a1 : a < 18446744073709551616) (b1 : b < 18446744073709551616) (c1 : c < 18446744073709551616) (d1 : d < 18446744073709551616) :
    Calls Tryd.prog 35 #[.agg #[.int .u64 a, .int .u64 b], .agg #[.int .u64 c, .int .u64 d]] w fun e w' => e = .returned (.agg #[.int .u64 (Rep.hi (Rep.val a b + Rep.val c d)), .int .u64 (Rep.lo (Rep.val a b + Rep.val c d))]) ∧ Below w.heap.size w w' := by
  have hc := Rep.addHi_bd b d 0 b0 d0 (by omega) b1 d1 (by omega)
  have k1 := fun w => add64 b d 0 b0 d0 (by omega) (by omega) w
  have k2 := fun w => add64 a c (Rep.addHi b d 0) a0 c0 hc.1 hc.2 w
  have HL := Lib.hid (Rep.sum_lo a b c d)
  have HH := Lib.hid (Rep.sum_hi a b c d b0 d0)
  clear hc a0 b0 c0 d0 a1 b1 c1 d1
  go_enter Tryd.func35, Tryd.ntmps35
  go_wp2
  refine bodyPost_ret (v := .agg #[.int .u64 (Rep.addLo a c (Rep.addHi b d 0)), .int .u64 (Rep.addLo b d 0)]) (by simp [results, Tryd.results35, go_sem]) rfl ⟨?_, ?_⟩
  · rw [HL.out, HH.out]
  · exact bAl (bAl (bAl (Below.refl _ _) _) _) _
theorem xor_ones (x : Nat) (h : x < 18446744073709551616) : 18446744073709551615 ^^^ x = 18446744073709551615 - x := by
  have e : (BitVec.allOnes 64 ^^^ BitVec.ofNat 64 x).toNat = (~~~(BitVec.ofNat 64 x)).toNat := by rw [BitVec.allOnes_xor]
  rw [BitVec.toNat_xor, BitVec.toNat_not, BitVec.toNat_allOnes, BitVec.toNat_ofNat, Nat.mod_eq_of_lt (by omega)] at e
  exact e
theorem flip_word (x : Int) (h0 : 0 ≤ x) (h1 : x < 18446744073709551616) : bits .xor .u64 IntKind.u64.max x = Rep.flip x := by
  obtain ⟨x, rfl⟩ := Int.eq_ofNat_of_zero_le h0
  have hm : IntKind.u64.max = ((18446744073709551615 : Nat) : Int) := by decide +kernel
  rw [hm, bits_xor_u64_nat _ x (by omega) (by omega), xor_ones x (by omega)]
  unfold Rep.flip
  omega
set_option maxHeartbeats 400000 in
theorem signed_no (a b : Int) (w : World) :
    Calls Tryd.prog 26 #[.agg #[.int .u64 a, .int .u64 b], .bool false] w fun e w' => e = .returned (.agg #[.int .u64 a, .int .u64 b]) ∧ Below w.heap.size w w' := by
  go_enter Tryd.func26, Tryd.ntmps26
  go_wp2
  refine bodyPost_ret (v := .agg #[.int .u64 a, .int .u64 b]) (by simp [results, Tryd.results26, go_sem]) rfl ⟨rfl, ?_⟩
  exact bAl (bAl (Below.refl _ _) _) _
set_option maxHeartbeats 400000 in
theorem signed_yes (a b : Int) (w : World) (a0 : 0 ≤ a) (b0 : 0 ≤ b) (a1 : a < 18446744073709551616) (b1 : b < 18446744073709551616) :
    Calls Tryd.prog 26 #[.agg #[.int .u64 a, .int .u64 b], .bool true] w fun e w' => e = .returned (.agg #[.int .u64 (Rep.hi (-(Rep.val a b))), .int .u64 (Rep.lo (-(Rep.val a b)))]) ∧ Below w.heap.size w w' := by
  have ka := flip_word a a0 a1
  have kb := flip_word b b0 b1
  have fa := Rep.flip_bd a a0 a1
  have fb := Rep.flip_bd b b0 b1
  have HH := Lib.hid (Rep.neg_hi' a b)
  have HL := Lib.hid (Rep.neg_lo' a b)
  clear a0 b0 a1 b1
  go_enter Tryd.func26, Tryd.ntmps26
  go_wp2_with fail
  refine (plus_any _ _ 0 1 _ fa.1 fb.1 (by omega) (by omega) fa.2 fb.2 (by omega) (by omega)).mono ?_
  rintro e w1 ⟨rfl, hb⟩
  obtain ⟨hc, hf⟩ := bcell hb
  have hz : w.heap.size + 1 < w1.heap.size := by have := hb.size; simp at this; omega
  go_wp2
  refine bodyPost_ret (v := .agg #[.int .u64 (Rep.hi (Rep.val (Rep.flip a) (Rep.flip b) + Rep.val 0 1)), .int .u64 (Rep.lo (Rep.val (Rep.flip a) (Rep.flip b) + Rep.val 0 1))]) (by simp [results, Tryd.results26, go_sem, hc, hz]) rfl ⟨?_, ?_⟩
  · rw [HH.out, HL.out]
  · exact bSt (bSt (bTr (bAl (bAl (Below.refl _ _) _) _) hb) (by simp) _) (by simp) _
theorem signed_any (s : Bool) (a b : Int) (w : World) (a0 : 0 ≤ a) (b0 : 0 ≤ b) (a1 : a < 18446744073709551616) (b1 : b < 18446744073709551616) :
    Calls Tryd.prog 26 #[.agg #[.int .u64 a, .int .u64 b], .bool s] w fun e w' => e = .returned (.agg #[.int .u64 (Rep.hi (Rep.sgn s (Rep.val a b))), .int .u64 (Rep.lo (Rep.sgn s (Rep.val a b)))]) ∧ Below w.heap.size w w' := by
  cases s
  · refine (signed_no a b w).mono ?_
    rintro e w' ⟨rfl, hb⟩
    refine ⟨?_, hb⟩
    show _ = Ending.returned (.agg #[.int .u64 (Rep.hi (Rep.val a b)), .int .u64 (Rep.lo (Rep.val a b))])
    rw [Rep.hi_val a b a0 a1 b0 b1, Rep.lo_val a b b0 b1]
  · exact signed_yes a b w a0 b0 a1 b1
set_option maxHeartbeats 400000 in
theorem negative_any (z : Int) (w : World) (z0 : -170141183460469231731687303715884105728 ≤ z) (z1 : z < 170141183460469231731687303715884105728) :
    Calls Tryd.prog 53 #[.agg #[.int .u64 (Rep.hi z), .int .u64 (Rep.lo z)]] w fun e w' => e = .returned (.bool (decide (z < 0))) ∧ Below w.heap.size w w' := by
  obtain ⟨h, hh⟩ : ∃ h, h = Rep.hi z := ⟨_, rfl⟩
  have hz' : decide (wrap64 h < 0) = decide (z < 0) := decide_eq_decide.2 (by have := Rep.negative z z0 z1; have := Rep.hi_bd z; rw [hh]; unfold wrap64; omega)
  have HZ := Lib.hid hz'
  rw [← hh]
  clear hh hz'
  go_enter Tryd.func53, Tryd.ntmps53
  go_wp2
  go_ret
  exact ⟨ret_bool HZ.out, bAl (Below.refl _ _) _⟩
set_option maxHeartbeats 400000 in
theorem fits_any (a b : Int) (w : World) (a0 : 0 ≤ a) (b0 : 0 ≤ b) :
    Calls Tryd.prog 54 #[.agg #[.int .u64 a, .int .u64 b]] w fun e w' => e = .returned (.bool (decide (Rep.val a b ≤ 1152921504606846976))) ∧ Below w.heap.size w w' := by
  by_cases ha : a = 0
  · subst ha
    have hz' : decide (b ≤ 1152921504606846976) = decide (Rep.val 0 b ≤ 1152921504606846976) := decide_eq_decide.2 (by unfold Rep.val; omega)
    have HZ := Lib.hid hz'
    clear hz'
    go_enter Tryd.func54, Tryd.ntmps54
    go_wp2
    go_ret
    exact ⟨ret_bool HZ.out, bAl (Below.refl _ _) _⟩
  · have hz' : false = decide (Rep.val a b ≤ 1152921504606846976) := (decide_eq_false (by unfold Rep.val; omega)).symm
    have HZ := Lib.hid hz'
    clear hz'
    have hn : (a == 0) = false := by rw [beq_eq_false_iff_ne]; exact ha
    go_enter Tryd.func54, Tryd.ntmps54
    go_wp2
    go_ret
    exact ⟨ret_bool HZ.out, bAl (Below.refl _ _) _⟩
def cmpI (x y : Int) : Int := if x < y then -1 else if x > y then 1 else 0
set_option maxRecDepth 100000 in
set_option maxHeartbeats 1000000 in
theorem div64_zero (l y : Int) (w : World) (l0 : 0 ≤ l) (l1 : l < 18446744073709551616) (y0 : 0 < y) (y1 : y < 18446744073709551616) :
    Calls Tryd.prog 59 #[.int .u64 0, .int .u64 l, .int .u64 y] w fun e w' => e = .returned (.tuple #[.int .u64 (l / y), .int .u64 (l % y)]) ∧ ∃ n, w' = w.drewN n := by
  have e1 : (y == 0) = false := by rw [beq_eq_false_iff_ne]; omega
  have e2 : ¬ y ≤ 0 := by omega
  go_enter Tryd.func59, Tryd.ntmps59
  go_wp2_with fail
  go_quiet (fail)
  go_wp2
  go_ret2
  exact ⟨rfl, _, rfl⟩
/-- what a run of the correcting loop leaves -/
def IsQuo (T v : Int) (s15 : Value) : Prop := s15 = .int .u64 (T / v)
set_option maxRecDepth 100000 in
set_option maxHeartbeats 4000000 in
theorem div64_core (h l y v yn1 yn0 U L un1 un0 q0 r0 : Int) (s : Nat) (w : World) (hh0 : 0 < h) (hh1 : h < y) (y1 : y < 18446744073709551616) (l0 : 0 ≤ l) (l1 : l < 18446744073709551616)
    (hs : Hid (64 - (Lib.bitLen y.toNat : Int) = (s : Int))) (s1 : (s : Int) < 64)
    (rv : IntKind.u64.wrap (y * 2 ^ s) = v) (rv1 : v / 4294967296 = yn1) (rv0 : bits .and .u64 v 4294967295 = yn0)
    (rU : bits .or .u64 (IntKind.u64.wrap (h * 2 ^ s)) (l / 2 ^ (64 - s)) = U) (rL : IntKind.u64.wrap (l * 2 ^ s) = L)
    (rL1 : L / 4294967296 = un1) (rL0 : bits .and .u64 L 4294967295 = un0) (rq : U / yn1 = q0) (rr : U - q0 * yn1 = r0)
    (EV : Hid (v = yn1 * 4294967296 + yn0)) (v0 : 0 < v) (v1 : v < 18446744073709551616) (yn1b : 2147483648 ≤ yn1) (yn1c : yn1 < 4294967296) (yn0a : 0 ≤ yn0) (yn0b : yn0 < 4294967296)
    (U0 : 0 ≤ U) (U1 : U < v) (L0 : 0 ≤ L) (L1 : L < 18446744073709551616) (un1a : 0 ≤ un1) (un1b : un1 < 4294967296) (un0a : 0 ≤ un0) (un0b : un0 < 4294967296)
    (q0a : 0 ≤ q0) (q0b : q0 ≤ 4294967297) (m0 : 0 ≤ q0 * yn1) (m1 : q0 * yn1 ≤ U) (r0a : 0 ≤ r0) (r0b : r0 < yn1) (ER : Hid (q0 * yn1 + r0 = U)) (EQ : Hid ((U * 4294967296 + un1) / v ≤ q0)) :
    Calls Tryd.prog 59 #[.int .u64 h, .int .u64 l, .int .u64 y] w fun e w' => e = .returned (.tuple #[.int .u64 ((U * 4294967296 + un1) / v * 4294967296 + ((U * 4294967296 + un1) % v * 4294967296 + un0) / v), .int .u64 (((U * 4294967296 + un1) % v * 4294967296 + un0) % v / 2 ^ s)]) ∧ w = w' := by
  have e1 : (y == 0) = false := by rw [beq_eq_false_iff_ne]; omega
  have e2 : ¬ y ≤ h := by omega
  have e3 : (h == 0) = false := by rw [beq_eq_false_iff_ne]; omega
  have yz : 0 < yn1 := by omega
  go_enter Tryd.func59, Tryd.ntmps59
  go_wp2_with fail
  refine (Tryd.bits_LeadingZeros64 _ _ (by omega) (by omega)).mono ?_
  rintro e w' ⟨rfl, hw⟩
  rw [hs.out, hw]
  clear hw
  go_upto_block 0 with (fail)
  go_cut [15, 16] (fun a b wc => IsQuo (U * 4294967296 + un1) v a ∧ w = wc)
  case first =>
    go_wp2_with fail
    go_loop [15, 16] (fun a b => ∃ q r : Int, a = .int .u64 q ∧ b = .int .u64 r ∧ 0 ≤ q ∧ q ≤ 4294967297 ∧ 0 ≤ r ∧ r < 4294967296 ∧ Hid (q * yn1 + r = U) ∧ Hid ((U * 4294967296 + un1) / v ≤ q)) (fun a _ => (intOf a).toNat)
    case atStart => exact ⟨q0, r0, by rw [rq], rfl, q0a, q0b, r0a, by omega, ER, EQ⟩
    case round =>
      obtain ⟨q, r, rfl, rfl, qa, qb, ra, rb, HR, HQ⟩ := hrel
      clear rv rv1 rv0 rU rL rL1 rL0 rq rr
      have more : Hid (1 ≤ q → (U * 4294967296 + un1) / v < q → (q - 1) * yn1 + (r + yn1) = U ∧ (U * 4294967296 + un1) / v ≤ q - 1) := fun _ h2 => ⟨by rw [Int.sub_mul]; have := HR.out; omega, by omega⟩
      have last : Hid ((U * 4294967296 + un1) / v < q → 4294967296 ≤ r + yn1 → (U * 4294967296 + un1) / v = q - 1) := fun h2 h3 => by
        have d0 : 0 ≤ (U * 4294967296 + un1) / v := Int.ediv_nonneg (by omega) (by omega)
        refine DivI.stop _ _ _ v0 (by omega) ?_
        rw [EV.out]
        exact DivI.stop_big 4294967296 yn1 yn0 U un1 (q - 1) (r + yn1) (by rw [Int.sub_mul]; have := HR.out; omega) yn0a yn0b (by omega) (by omega) un1a h3
      by_cases hb : 4294967296 ≤ q
      · have t1 : decide (4294967296 ≤ q) = true := decide_eq_true hb
        have h2 : Hid ((U * 4294967296 + un1) / v < q) := by
          have := DivI.quo_lt 4294967296 v U un1 v0 (by omega) un1b U1
          show _ < _
          omega
        by_cases hr : 4294967296 ≤ r + yn1
        · go_wp2_with fail
          go_meet
          exact ⟨by show _ = _; rw [last.out h2.out hr], rfl⟩
        · go_wp2_with fail
          go_round
          case rel => exact ⟨q - 1, r + yn1, rfl, rfl, by omega, by omega, by omega, by omega, (more.out (by omega) h2.out).1, (more.out (by omega) h2.out).2⟩
          case measure => simp [intOf]; omega
      · have t1 : decide (4294967296 ≤ q) = false := decide_eq_false hb
        have m2 : 0 ≤ q * yn0 := Int.mul_nonneg qa yn0a
        have m3 : q * yn0 ≤ 4294967295 * 4294967295 := by
          have a1 : q * yn0 ≤ 4294967295 * yn0 := Int.mul_le_mul_of_nonneg_right (by omega) yn0a
          omega
        have HK := Lib.hid (DivI.key 4294967296 yn1 yn0 U un1 q r HR.out)
        by_cases ht : 4294967296 * r + un1 < q * yn0
        · have q1 : 1 ≤ q := by
            by_cases h : q = 0
            · rw [h, Int.zero_mul] at ht
              omega
            · omega
          have h2 : Hid ((U * 4294967296 + un1) / v < q) := DivI.go_on _ _ _ v0 (by have := HK.out; rw [EV.out]; omega)
          clear HK
          by_cases hr : 4294967296 ≤ r + yn1
          · go_wp2_with fail
            go_meet
            exact ⟨by show _ = _; rw [last.out h2.out hr], rfl⟩
          · go_wp2_with fail
            go_round
            case rel => exact ⟨q - 1, r + yn1, rfl, rfl, by omega, by omega, by omega, by omega, (more.out (by omega) h2.out).1, (more.out (by omega) h2.out).2⟩
            case measure => simp [intOf]; omega
        · have h2 : Hid ((U * 4294967296 + un1) / v = q) := DivI.stop _ _ _ v0 HQ.out (by have := HK.out; rw [EV.out]; omega)
          clear HK
          go_wp2_with fail
          go_meet
          exact ⟨by show _ = _; rw [h2.out], rfl⟩
  case rest =>
    obtain ⟨HQ1, rfl⟩ := hcut
    unfold IsQuo at HQ1
    subst HQ1
    have Q1b := DivI.quo_lt 4294967296 v U un1 v0 (by omega) un1b U1
    have Q1a : 0 ≤ (U * 4294967296 + un1) / v := Int.ediv_nonneg (by omega) (by omega)
    have R1a := Int.emod_nonneg (U * 4294967296 + un1) (by omega : v ≠ 0)
    have R1b := Int.emod_lt_of_pos (U * 4294967296 + un1) v0
    have HW := Lib.hid (DivI.rest_wrap 18446744073709551616 (U * 4294967296 + un1) _ v U (by omega) v0 (by omega) rfl)
    generalize hQ1 : (U * 4294967296 + un1) / v = Q1 at *
    generalize hR1 : (U * 4294967296 + un1) % v = R1 at *
    have HQ1 := Lib.hid hQ1
    have HR1 := Lib.hid hR1
    clear hQ1 hR1 rq rr m0 m1
    have r93 : IntKind.u64.wrap (IntKind.u64.wrap (IntKind.u64.wrap (U * 4294967296) + un1) - IntKind.u64.wrap (Q1 * v)) = R1 := by
      have := HW.out
      simp only [IntKind.wrap_u64]
      omega
    obtain ⟨q2, rq⟩ : ∃ q2, R1 / yn1 = q2 := ⟨_, rfl⟩
    obtain ⟨r2, rr⟩ : ∃ r2, R1 - q2 * yn1 = r2 := ⟨_, rfl⟩
    have d1 := Int.mul_ediv_add_emod R1 yn1
    have r2a := Int.emod_nonneg R1 (by omega : yn1 ≠ 0)
    have r2b := Int.emod_lt_of_pos R1 yz
    rw [rq, Int.mul_comm yn1 q2] at d1
    have r2e : R1 % yn1 = r2 := by omega
    rw [r2e] at r2a r2b
    have q2a : 0 ≤ q2 := by rw [← rq]; exact Int.ediv_nonneg R1a (by omega)
    have q2y : 0 ≤ q2 * yn1 := Int.mul_nonneg q2a (by omega)
    have ER2 : Hid (q2 * yn1 + r2 = R1) := by show _ = _; omega
    have q2b : q2 ≤ 4294967297 := DivI.qhat_le 4294967296 yn1 yn0 R1 q2 r2 ER2.out r2a (by omega) yz yn0b (by have := EV.out; omega)
    have EQ2 : Hid ((R1 * 4294967296 + un0) / v ≤ q2) := by
      show _ ≤ _
      rw [EV.out]
      exact DivI.quo_le 4294967296 yn1 yn0 R1 un0 q2 r2 ER2.out r2b (by omega) un0b yz yn0a q2a
    have m1 : q2 * yn1 ≤ R1 := by omega
    clear d1 r2e
    go_upto_block 2 with (fail)
    go_cut [18, 16] (fun a b wc => IsQuo (R1 * 4294967296 + un0) v a ∧ w = wc)
    case first =>
      go_wp2_with fail
      go_loop [18, 16] (fun a b => ∃ q r : Int, a = .int .u64 q ∧ b = .int .u64 r ∧ 0 ≤ q ∧ q ≤ 4294967297 ∧ 0 ≤ r ∧ r < 4294967296 ∧ Hid (q * yn1 + r = R1) ∧ Hid ((R1 * 4294967296 + un0) / v ≤ q)) (fun a _ => (intOf a).toNat)
      case atStart => exact ⟨q2, r2, by rw [rq], rfl, q2a, q2b, r2a, by omega, ER2, EQ2⟩
      case round =>
        obtain ⟨q, r, rfl, rfl, qa, qb, ra, rb, HR, HQ⟩ := hrel
        clear rv rv1 rv0 rU rL rL1 rL0 rq rr r93
        have more : Hid (1 ≤ q → (R1 * 4294967296 + un0) / v < q → (q - 1) * yn1 + (r + yn1) = R1 ∧ (R1 * 4294967296 + un0) / v ≤ q - 1) := fun _ h2 => ⟨by rw [Int.sub_mul]; have := HR.out; omega, by omega⟩
        have last : Hid ((R1 * 4294967296 + un0) / v < q → 4294967296 ≤ r + yn1 → (R1 * 4294967296 + un0) / v = q - 1) := fun h2 h3 => by
          have d0 : 0 ≤ (R1 * 4294967296 + un0) / v := Int.ediv_nonneg (by omega) (by omega)
          refine DivI.stop _ _ _ v0 (by omega) ?_
          rw [EV.out]
          exact DivI.stop_big 4294967296 yn1 yn0 R1 un0 (q - 1) (r + yn1) (by rw [Int.sub_mul]; have := HR.out; omega) yn0a yn0b (by omega) (by omega) un0a h3
        by_cases hb : 4294967296 ≤ q
        · have t1 : decide (4294967296 ≤ q) = true := decide_eq_true hb
          have h2 : Hid ((R1 * 4294967296 + un0) / v < q) := by
            have := DivI.quo_lt 4294967296 v R1 un0 v0 (by omega) un0b R1b
            show _ < _
            omega
          by_cases hr : 4294967296 ≤ r + yn1
          · go_wp2_with fail
            go_meet
            exact ⟨by show _ = _; rw [last.out h2.out hr], rfl⟩
          · go_wp2_with fail
            go_round
            case rel => exact ⟨q - 1, r + yn1, rfl, rfl, by omega, by omega, by omega, by omega, (more.out (by omega) h2.out).1, (more.out (by omega) h2.out).2⟩
            case measure => simp [intOf]; omega
        · have t1 : decide (4294967296 ≤ q) = false := decide_eq_false hb
          have m2 : 0 ≤ q * yn0 := Int.mul_nonneg qa yn0a
          have m3 : q * yn0 ≤ 4294967295 * 4294967295 := by
            have a1 : q * yn0 ≤ 4294967295 * yn0 := Int.mul_le_mul_of_nonneg_right (by omega) yn0a
            omega
          have HK := Lib.hid (DivI.key 4294967296 yn1 yn0 R1 un0 q r HR.out)
          by_cases ht : 4294967296 * r + un0 < q * yn0
          · have q1 : 1 ≤ q := by
              by_cases h : q = 0
              · rw [h, Int.zero_mul] at ht
                omega
              · omega
            have h2 : Hid ((R1 * 4294967296 + un0) / v < q) := DivI.go_on _ _ _ v0 (by have := HK.out; rw [EV.out]; omega)
            clear HK
            by_cases hr : 4294967296 ≤ r + yn1
            · go_wp2_with fail
              go_meet
              exact ⟨by show _ = _; rw [last.out h2.out hr], rfl⟩
            · go_wp2_with fail
              go_round
              case rel => exact ⟨q - 1, r + yn1, rfl, rfl, by omega, by omega, by omega, by omega, (more.out (by omega) h2.out).1, (more.out (by omega) h2.out).2⟩
              case measure => simp [intOf]; omega
          · have h2 : Hid ((R1 * 4294967296 + un0) / v = q) := DivI.stop _ _ _ v0 HQ.out (by have := HK.out; rw [EV.out]; omega)
            clear HK
            go_wp2_with fail
            go_meet
            exact ⟨by show _ = _; rw [h2.out], rfl⟩
    case rest =>
      obtain ⟨HQ2, rfl⟩ := hcut
      unfold IsQuo at HQ2
      subst HQ2
      have Q2b := DivI.quo_lt 4294967296 v R1 un0 v0 (by omega) un0b R1b
      have Q2a : 0 ≤ (R1 * 4294967296 + un0) / v := Int.ediv_nonneg (by omega) (by omega)
      have R2a := Int.emod_nonneg (R1 * 4294967296 + un0) (by omega : v ≠ 0)
      have R2b := Int.emod_lt_of_pos (R1 * 4294967296 + un0) v0
      have HW2 := Lib.hid (DivI.rest_wrap 18446744073709551616 (R1 * 4294967296 + un0) _ v R1 (by omega) v0 (by omega) rfl)
      generalize hQ2 : (R1 * 4294967296 + un0) / v = Q2 at *
      generalize hR2 : (R1 * 4294967296 + un0) % v = R2 at *
      have HQ2 := Lib.hid hQ2
      have HR2 := Lib.hid hR2
      clear hQ2 hR2 rq rr m1 r93
      have r132 : IntKind.u64.wrap (IntKind.u64.wrap (IntKind.u64.wrap (R1 * 4294967296) + un0) - IntKind.u64.wrap (Q2 * v)) = R2 := by
        have := HW2.out
        simp only [IntKind.wrap_u64]
        omega
      go_wp2
      go_ret2
      exact ⟨by rw [HQ1.out, HR1.out, HQ2.out, HR2.out]; rfl, rfl⟩
theorem shl_join (h l : Int) (s : Nat) (h0 : 0 ≤ h) (l0 : 0 ≤ l) (l1 : l < 18446744073709551616) (hs : s < 64) (hb : h * 2 ^ s < 18446744073709551616) :
    bits .or .u64 (IntKind.u64.wrap (h * 2 ^ s)) (l / 2 ^ (64 - s)) = h * 2 ^ s + l / 2 ^ (64 - s) := by
  have p0 := DivW.pos_pow s
  have q0 := DivW.pos_pow (64 - s)
  have hl := DivW.lt_q l _ _ p0 q0 (DivW.pow_split s (by omega)) l1
  have hp0 : 0 ≤ h * 2 ^ s := Int.mul_nonneg h0 (by omega)
  have hl0 : 0 ≤ l / 2 ^ (64 - s) := Int.ediv_nonneg l0 (by omega)
  have pb : (2 : Int) ^ s ≤ 2 ^ 63 := by
    have : (2 : Nat) ^ s ≤ 2 ^ 63 := Nat.pow_le_pow_right (by omega) (by omega)
    exact_mod_cast this
  rw [IntKind.wrap_u64, Int.emod_eq_of_lt hp0 hb, u64_or _ _ hp0 hb hl0 (by omega), nat_join s _ _ ?_ ?_]
  · omega
  · obtain ⟨h, rfl⟩ := Int.eq_ofNat_of_zero_le h0
    have e : ((h : Int) * 2 ^ s).toNat = h * 2 ^ s := by
      have : ((h : Int) * 2 ^ s) = ((h * 2 ^ s : Nat) : Int) := by simp
      rw [this]; omega
    rw [e, Nat.mul_mod_left]
  · have : ((2 ^ s : Nat) : Int) = (2 : Int) ^ s := by simp
    omega
theorem mask32 (x : Int) (h0 : 0 ≤ x) (h1 : x < 18446744073709551616) : bits .and .u64 x 4294967295 = x % 4294967296 := by
  obtain ⟨x, rfl⟩ := Int.eq_ofNat_of_zero_le h0
  rw [Mul64.maskN x (by omega), Int.natCast_emod]
  rfl
theorem div64_pos (h l y : Int) (w : World) (h0 : 0 < h) (h1 : h < y) (l0 : 0 ≤ l) (l1 : l < 18446744073709551616) (y1 : y < 18446744073709551616) :
    Calls Tryd.prog 59 #[.int .u64 h, .int .u64 l, .int .u64 y] w fun e w' => e = .returned (.tuple #[.int .u64 (Rep.val h l / y), .int .u64 (Rep.val h l % y)]) ∧ w = w' := by
  obtain ⟨k1, k2, k3⟩ := Lib.bitLenAux_bounds 64 y.toNat (by omega) (by omega)
  have hk : Lib.bitLenAux 64 y.toNat = Lib.bitLen y.toNat := rfl
  rw [hk] at k1 k2 k3
  have kl := Any.bitLen_le64 y (by omega) (by omega)
  obtain ⟨s, hs⟩ : ∃ s, 64 - Lib.bitLen y.toNat = s := ⟨_, rfl⟩
  have s1 : s < 64 := by omega
  have p0 := DivW.pos_pow s
  have q0 := DivW.pos_pow (64 - s)
  have hpq := DivW.pow_split s (by omega)
  have yn : ((y.toNat : Nat) : Int) = y := by omega
  have vlo : 9223372036854775808 ≤ y * 2 ^ s := by
    have a : 2 ^ (Lib.bitLen y.toNat - 1) * 2 ^ s ≤ y.toNat * 2 ^ s := Nat.mul_le_mul_right _ k2
    rw [← Nat.pow_add, show Lib.bitLen y.toNat - 1 + s = 63 by omega] at a
    have b : ((y.toNat * 2 ^ s : Nat) : Int) = y * 2 ^ s := by rw [Int.natCast_mul, yn]; simp
    omega
  have vhi : y * 2 ^ s < 18446744073709551616 := by
    have a : y.toNat * 2 ^ s < 2 ^ Lib.bitLen y.toNat * 2 ^ s := Nat.mul_lt_mul_of_pos_right k3 (Nat.pow_pos (by omega))
    rw [← Nat.pow_add, show Lib.bitLen y.toNat + s = 64 by omega] at a
    have b : ((y.toNat * 2 ^ s : Nat) : Int) = y * 2 ^ s := by rw [Int.natCast_mul, yn]; simp
    omega
  have hhi : h * 2 ^ s < 18446744073709551616 := Int.lt_trans (Int.mul_lt_mul_of_pos_right h1 p0) vhi
  have hj := shl_join h l s (by omega) l0 l1 s1 hhi
  have hsh := DivW.shifted h l _ _ p0 q0 hpq l0
  have hlq := DivW.lt_q l _ _ p0 q0 hpq l1
  have hl0 : 0 ≤ l / 2 ^ (64 - s) := Int.ediv_nonneg l0 (by omega)
  have hp0 : 0 ≤ h * 2 ^ s := Int.mul_nonneg (by omega) (by omega)
  obtain ⟨U, hU⟩ : ∃ U, h * 2 ^ s + l / 2 ^ (64 - s) = U := ⟨_, rfl⟩
  obtain ⟨L, hL⟩ : ∃ L, (l * 2 ^ s) % 18446744073709551616 = L := ⟨_, rfl⟩
  obtain ⟨v, hv⟩ : ∃ v, y * 2 ^ s = v := ⟨_, rfl⟩
  have L0 : 0 ≤ L := by omega
  have L1 : L < 18446744073709551616 := by omega
  rw [hU, hL] at hsh
  have U1 := DivW.u_lt h l y _ U L p0 h1 l1 L0 hsh
  rw [hv] at vlo vhi U1
  have U0 : 0 ≤ U := by omega
  obtain ⟨yn1, hy1⟩ : ∃ x, v / 4294967296 = x := ⟨_, rfl⟩
  obtain ⟨yn0, hy0⟩ : ∃ x, v % 4294967296 = x := ⟨_, rfl⟩
  obtain ⟨un1, hu1⟩ : ∃ x, L / 4294967296 = x := ⟨_, rfl⟩
  obtain ⟨un0, hu0⟩ : ∃ x, L % 4294967296 = x := ⟨_, rfl⟩
  have yz : 0 < yn1 := by omega
  obtain ⟨q, hq⟩ : ∃ q, U / yn1 = q := ⟨_, rfl⟩
  have d1 := Int.mul_ediv_add_emod U yn1
  have ra := Int.emod_nonneg U (by omega : yn1 ≠ 0)
  have rb := Int.emod_lt_of_pos U yz
  rw [hq, Int.mul_comm yn1 q] at d1
  have qa : 0 ≤ q := by rw [← hq]; exact Int.ediv_nonneg U0 (by omega)
  have qy : 0 ≤ q * yn1 := Int.mul_nonneg qa (by omega)
  obtain ⟨r, hr⟩ : ∃ r, U - q * yn1 = r := ⟨_, rfl⟩
  have r2e : U % yn1 = r := by omega
  rw [r2e] at ra rb
  have EV : v = yn1 * 4294967296 + yn0 := by omega
  have ER : q * yn1 + r = U := by omega
  have EQ : (U * 4294967296 + un1) / v ≤ q := by rw [EV]; exact DivI.quo_le 4294967296 yn1 yn0 U un1 q r ER rb (by omega) (by omega) yz (by omega) qa
  have qb : q ≤ 4294967297 := DivI.qhat_le 4294967296 yn1 yn0 U q r ER ra (by omega) yz (by omega) (by omega)
  refine (div64_core h l y v yn1 yn0 U L un1 un0 q r s w h0 h1 y1 l0 l1 (by show _ = _; omega) (by omega) (by rw [hv, IntKind.wrap_u64]; omega) hy1 (by rw [mask32 v (by omega) vhi]; exact hy0)
    (by rw [hj]; exact hU) (by rw [IntKind.wrap_u64]; exact hL) hu1 (by rw [mask32 L L0 L1]; exact hu0) hq hr EV (by omega) vhi (by omega) (by omega) (by omega) (by omega) U0 U1 L0 L1 (by omega) (by omega) (by omega) (by omega)
    qa qb qy (by omega) ra rb ER EQ).mono ?_
  rintro e w' ⟨rfl, hw⟩
  have t := DivI.two_steps 4294967296 v U un1 un0 (by omega)
  have hN : (U * 4294967296 + un1) * 4294967296 + un0 = Rep.val h l * 2 ^ s := by
    unfold Rep.val
    rw [← hsh]; omega
  rw [hN, ← hv, DivI.unshift_quo _ _ _ p0] at t
  have t2 : (((U * 4294967296 + un1) % (y * 2 ^ s) * 4294967296 + un0) % (y * 2 ^ s)) / 2 ^ s = Rep.val h l % y := by
    rw [← t.2, DivI.unshift_rem _ _ _ p0]
  rw [← hv, ← t.1, t2]
  exact ⟨rfl, hw⟩
/-- math/bits.Div64 -/
theorem div64_any (h l y : Int) (w : World) (h0 : 0 ≤ h) (h1 : h < y) (l0 : 0 ≤ l) (l1 : l < 18446744073709551616) (y1 : y < 18446744073709551616) :
    Calls Tryd.prog 59 #[.int .u64 h, .int .u64 l, .int .u64 y] w fun e w' => e = .returned (.tuple #[.int .u64 (Rep.val h l / y), .int .u64 (Rep.val h l % y)]) ∧ ∃ n, w' = w.drewN n := by
  by_cases hz : h = 0
  · subst hz
    have e : Rep.val 0 l = l := by unfold Rep.val; omega
    rw [e]
    exact div64_zero l y w l0 l1 h1 y1
  · refine (div64_pos h l y w (by omega) h1 l0 l1 y1).mono ?_
    rintro e w' ⟨rfl, rfl⟩
    exact ⟨rfl, 0, rfl⟩
theorem valid_no (n d : Int) (h : d < 1 ∨ 1152921504606846976 < d ∨ n < -1152921504606846976 ∨ 1152921504606846976 < n) : false = Frac.valid n d := by
  unfold Frac.valid
  rcases h with h | h | h | h
  · rw [decide_eq_false (show ¬ 1 ≤ d by omega)]; rfl
  · rw [decide_eq_false (show ¬ d ≤ 1152921504606846976 by omega)]; simp
  · rw [decide_eq_false (show ¬ -1152921504606846976 ≤ n by omega)]; simp
  · rw [decide_eq_false (show ¬ n ≤ 1152921504606846976 by omega)]; simp
theorem valid_yes (n d : Int) (h1 : 1 ≤ d) (h2 : d ≤ 1152921504606846976) (h3 : -1152921504606846976 ≤ n) (h4 : n ≤ 1152921504606846976) : (((Nat.gcd n.natAbs d.natAbs : Nat) : Int) == 1) = Frac.valid n d := by
  unfold Frac.valid
  rw [decide_eq_true h1, decide_eq_true h2, decide_eq_true h3, decide_eq_true h4, Bool.eq_iff_iff]
  simp only [beq_iff_eq, Bool.true_and]
  omega
set_option maxHeartbeats 1000000 in
theorem valid_any (n d : Int) (n0 : -9223372036854775808 ≤ n) (n1 : n < 9223372036854775808) (d0 : -9223372036854775808 ≤ d) (d1 : d < 9223372036854775808) (w : World) :
    Calls Tryd.prog 19 #[.agg #[.int .i64 n, .int .i64 d]] w fun e w' => e = .returned (.bool (Frac.valid n d)) ∧ Below w.heap.size w w' := by
  by_cases h1 : d < 1
  · have H := Lib.hid (valid_no n d (.inl h1))
    go_enter Tryd.func19, Tryd.ntmps19
    go_wp2
    go_ret
    exact ⟨ret_bool H.out, bAl (Below.refl _ _) _⟩
  by_cases h2 : 1152921504606846976 < d
  · have H := Lib.hid (valid_no n d (.inr (.inl h2)))
    go_enter Tryd.func19, Tryd.ntmps19
    go_wp2
    go_ret
    exact ⟨ret_bool H.out, bAl (Below.refl _ _) _⟩
  by_cases h3 : n < -1152921504606846976
  · have H := Lib.hid (valid_no n d (.inr (.inr (.inl h3))))
    go_enter Tryd.func19, Tryd.ntmps19
    go_wp2
    go_ret
    exact ⟨ret_bool H.out, bAl (Below.refl _ _) _⟩
  by_cases h4 : 1152921504606846976 < n
  · have H := Lib.hid (valid_no n d (.inr (.inr (.inr h4))))
    go_enter Tryd.func19, Tryd.ntmps19
    go_wp2
    go_ret
    exact ⟨ret_bool H.out, bAl (Below.refl _ _) _⟩
  have H := Lib.hid (valid_yes n d (by omega) (by omega) (by omega) (by omega))
  go_enter Tryd.func19, Tryd.ntmps19
  go_wp2_with fail
  go_quiet ((first | (go_at_call 32; exact qSame (magnitude_any _ (by omega) (by omega) _)) | (go_at_call 47; exact Calls.quiet_of (gcd_any _ _ (by omega) (by omega) _))))
  go_wp2
  go_ret
  exact ⟨ret_bool H.out, bDr (bAl (Below.refl _ _) _) _⟩
theorem divided_hi (a b y : Int) (y0 : 0 < y) (b0 : 0 ≤ b) (b1 : b < 18446744073709551616) (a0 : 0 ≤ a) (a1 : a < 18446744073709551616) :
    a / y = Rep.hi (Rep.val a b / y) ∧ Rep.val (a % y) b / y = Rep.lo (Rep.val a b / y) ∧ Rep.val (a % y) b % y = Rep.val a b % y := by
  obtain ⟨h1, h2, h3, h4⟩ := DivV.split_ 18446744073709551616 a b y (by omega) y0 b0 b1 a0
  have q0 : 0 ≤ a / y := Int.ediv_nonneg a0 (by omega)
  have q1 : a / y < 18446744073709551616 := Int.lt_of_le_of_lt (Int.ediv_le_self y a0) a1
  obtain ⟨k1, k2⟩ := DivV.hi_lo (a / y) _ q0 q1 h4 h3
  unfold Rep.val Rep.hi Rep.lo
  rw [h1, k1, k2, h2]
  exact ⟨rfl, rfl, rfl⟩
set_option maxHeartbeats 1000000 in
theorem divided_any (a b y : Int) (w : World) (a0 : 0 ≤ a) (b0 : 0 ≤ b) (y0 : 0 < y) (a1 : a < 18446744073709551616) (b1 : b < 18446744073709551616) (y1 : y < 18446744073709551616) :
    Calls Tryd.prog 33 #[.agg #[.int .u64 a, .int .u64 b], .int .u64 y] w fun e w' => e = .returned (.tuple #[.agg #[.int .u64 (Rep.hi (Rep.val a b / y)), .int .u64 (Rep.lo (Rep.val a b / y))], .int .u64 (Rep.val a b % y)]) ∧ Below w.heap.size w w' := by
  obtain ⟨g1, g2, g3⟩ := divided_hi a b y y0 b0 b1 a0 a1
  have H1 := Lib.hid g1
  have H2 := Lib.hid g2
  have H3 := Lib.hid g3
  clear g1 g2 g3
  have m0 := Int.emod_nonneg a (by omega : y ≠ 0)
  have m1 := Int.emod_lt_of_pos a y0
  go_enter Tryd.func33, Tryd.ntmps33
  go_wp2_with fail
  go_quiet ((go_at_call 59; exact Calls.quiet_of (div64_any _ _ _ _ m0 m1 b0 b1 y1)))
  go_wp2
  refine bodyPost_ret (v := .tuple #[.agg #[.int .u64 (a / y), .int .u64 (Rep.val (a % y) b / y)], .int .u64 (Rep.val (a % y) b % y)]) (by simp [results, Tryd.results33, go_sem]) rfl ⟨?_, ?_⟩
  · rw [H1.out, H2.out, H3.out]
  · exact bSt (bSt (bDr (bAl (bAl (Below.refl _ _) _) _) _) (by simp) _) (by simp) _
/-- what a fraction in lowest terms answers: numerator, denominator, code -/
def rnum (neg : Bool) (n d : Nat) : Int := if Frac.fit n d then Frac.num neg n d else 0
def rden (n d : Nat) : Int := if Frac.fit n d then Frac.den n d else 0
def rerr (n d : Nat) : Int := if Frac.fit n d then 0 else 6
theorem quot_fin (n d f c rs A dc : Nat) (hg : Nat.gcd n f = 1) (hc : d.gcd rs = c) (hrs : (n : Int) % (d : Int) = (rs : Int)) (hA : A = n / c) (hd : dc = d / c) :
    n / Nat.gcd n (d * f) = A ∧ d * f / Nat.gcd n (d * f) = dc * f := by
  have e : rs = n % d := by have := Int.natCast_emod n d; omega
  have e2 : c = Nat.gcd n (d * f) := by rw [← hc, e]; exact Frac.gcd_step n d f hg
  rw [hA, hd, e2]
  exact ⟨rfl, (Frac.below n d f hg).symm⟩
theorem r_no (ng : Bool) (n dd : Nat) (h : ¬ (n / Nat.gcd n dd ≤ Frac.M ∧ dd / Nat.gcd n dd ≤ Frac.M)) : 0 = rnum ng n dd ∧ 0 = rden n dd ∧ 6 = rerr n dd := by
  have e : Frac.fit n dd = false := by
    unfold Frac.fit
    cases h1 : decide (n / Nat.gcd n dd ≤ Frac.M)
    · rfl
    · cases h2 : decide (dd / Nat.gcd n dd ≤ Frac.M)
      · rfl
      · exact absurd ⟨of_decide_eq_true h1, of_decide_eq_true h2⟩ h
  unfold rnum rden rerr
  rw [e]
  exact ⟨rfl, rfl, rfl⟩
theorem r_yes (ng : Bool) (n dd : Nat) (h1 : n / Nat.gcd n dd ≤ Frac.M) (h2 : dd / Nat.gcd n dd ≤ Frac.M) : Frac.num ng n dd = rnum ng n dd ∧ Frac.den n dd = rden n dd ∧ 0 = rerr n dd := by
  have e : Frac.fit n dd = true := by unfold Frac.fit; rw [decide_eq_true h1, decide_eq_true h2]; rfl
  unfold rnum rden rerr
  rw [e]
  exact ⟨rfl, rfl, rfl⟩
theorem ret_quot {a b c a' b' c' : Int} (h : a = a' ∧ b = b' ∧ c = c') : Ending.returned (.tuple #[.agg #[.int .i64 a, .int .i64 b], .int .i64 c]) = .returned (.tuple #[.agg #[.int .i64 a', .int .i64 b'], .int .i64 c']) := by
  rw [h.1, h.2.1, h.2.2]
set_option maxRecDepth 100000 in
set_option maxHeartbeats 4000000 in
theorem quotient_any (z : Int) (d f : Nat) (w : World) (z0 : -170141183460469231731687303715884105728 < z) (z1 : z < 170141183460469231731687303715884105728) (d0 : 0 < d) (d1 : d < 18446744073709551616) (f0 : 0 < f) (f1 : f < 18446744073709551616)
    (hg : Nat.gcd z.natAbs f = 1) :
    Calls Tryd.prog 25 #[.agg #[.int .u64 (Rep.hi z), .int .u64 (Rep.lo z)], .int .u64 d, .int .u64 f] w fun e w' => e = .returned (.tuple #[.agg #[.int .i64 (rnum (decide (z < 0)) z.natAbs (d * f)), .int .i64 (rden z.natAbs (d * f))], .int .i64 (rerr z.natAbs (d * f))]) ∧ Below w.heap.size w w' := by
  have hn : Rep.sgn (decide (z < 0)) z = (z.natAbs : Int) := by
    by_cases h : z < 0
    · rw [decide_eq_true h]; show -z = _; omega
    · rw [decide_eq_false h]; show z = _; omega
  have HH := Lib.hid ((Rep.hi_congr_sgn (decide (z < 0)) z).trans (by rw [hn]))
  have HL := Lib.hid ((Rep.lo_congr_sgn (decide (z < 0)) z).trans (by rw [hn]))
  clear hn
  have zh := Rep.hi_bd z
  have zl := Rep.lo_bd z
  obtain ⟨n, hn⟩ : ∃ n : Nat, n = z.natAbs := ⟨_, rfl⟩
  rw [← hn] at HH HL hg ⊢
  have n1 : n < 170141183460469231731687303715884105728 := by omega
  have HN := Lib.hid hn
  have HG := Lib.hid hg
  clear hn hg
  obtain ⟨ng, hng⟩ : ∃ b : Bool, b = decide (z < 0) := ⟨_, rfl⟩
  rw [← hng] at HH HL ⊢
  have HNG := Lib.hid hng
  clear hng
  obtain ⟨nh, hnh⟩ : ∃ x, x = Rep.hi (n : Int) := ⟨_, rfl⟩
  obtain ⟨nl, hnl⟩ : ∃ x, x = Rep.lo (n : Int) := ⟨_, rfl⟩
  have nhb := Rep.hi_bd (n : Int)
  have nlb := Rep.lo_bd (n : Int)
  have VN := Lib.hid (Rep.val_hi_lo (n : Int) (by omega) (by omega))
  rw [← hnh] at nhb HH VN
  rw [← hnl] at nlb HL VN
  clear hnh hnl
  go_enter Tryd.func25, Tryd.ntmps25
  go_wp2_with fail
  refine (negative_any z _ (by omega) z1).mono ?_
  rintro e w1 ⟨rfl, hb1⟩
  rw [← HNG.out]
  have P1 : Aside (Blk w1 w.heap.size 50 #[.int .u64 (Rep.hi z), .int .u64 (Rep.lo z)] ∧ Blk w1 (w.heap.size + 1) 24 #[.int .i64 0, .int .i64 0] ∧ Below w.heap.size w w1) :=
    ⟨((Blk.newAt rfl).alloc _).later hb1, (Blk.newAt (by simp)).later hb1, bTr (bAl (bAl (Below.refl _ _) _) _) hb1⟩
  clear hb1
  obtain ⟨⟨c00, c01⟩, ⟨f00, f01⟩, k0⟩ := P1.out.1.two
  go_wp2_with fail
  refine (signed_any _ _ _ _ zh.1 zl.1 zh.2 zl.2).mono ?_
  rintro e w2 ⟨rfl, hb2⟩
  rw [HH.out, HL.out]
  have P2 : Aside (Blk w2 w.heap.size 50 #[.int .u64 (Rep.hi z), .int .u64 (Rep.lo z)] ∧ Blk w2 (w.heap.size + 1) 24 #[.int .i64 0, .int .i64 0] ∧ Below w.heap.size w w2) :=
    ⟨P1.out.1.later hb2, P1.out.2.1.later hb2, P1.out.2.2.trans (hb2.mono P1.out.2.2.size)⟩
  clear hb2 P1 c00 c01 f00 f01 k0
  obtain ⟨⟨c00, c01⟩, ⟨f00, f01⟩, k0⟩ := P2.out.1.two
  go_wp2_with fail
  refine (divided_any _ _ _ _ nhb.1 nlb.1 (by omega) nhb.2 nlb.2 (by omega)).mono ?_
  rintro e w3 ⟨rfl, hb3⟩
  rw [VN.out]
  have P3 : Aside (Blk w3 w.heap.size 50 #[.int .u64 nh, .int .u64 nl] ∧ Blk w3 (w.heap.size + 1) 24 #[.int .i64 0, .int .i64 0] ∧ Below w.heap.size w w3) :=
    ⟨((P2.out.1.set0 _).set1 _).later hb3, ((P2.out.2.1.off (by omega) _).off (by omega) _).later hb3, (((P2.out.2.2.setCell (by simp) _).setCell (by simp) _)).trans (hb3.mono (by simpa using P2.out.2.2.size))⟩
  clear hb3 P2 c00 c01 f00 f01 k0 zh zl HH HL
  have hq1 := Rep.hi_bd ((n : Int) / (d : Int))
  have hq2 := Rep.lo_bd ((n : Int) / (d : Int))
  generalize Rep.hi ((n : Int) / (d : Int)) = qh at hq1 ⊢
  generalize Rep.lo ((n : Int) / (d : Int)) = ql at hq2 ⊢
  obtain ⟨rs, hrs⟩ : ∃ rs : Nat, (n : Int) % (d : Int) = (rs : Int) := ⟨n % d, (Int.natCast_emod _ _).symm⟩
  have hrsd : rs < d := by have := Int.emod_lt_of_pos (n : Int) (show (0 : Int) < (d : Int) by omega); omega
  have HRS := Lib.hid hrs
  rw [hrs]
  clear hrs
  obtain ⟨⟨c00, c01⟩, ⟨f00, f01⟩, k0⟩ := P3.out.1.two
  go_wp2_with fail
  refine (gcd_any _ _ (by omega) (by omega) _).mono ?_
  rintro e w4 ⟨rfl, n4, rfl⟩
  obtain ⟨c, hc⟩ : ∃ c, d.gcd rs = c := ⟨_, rfl⟩
  have c0 : 0 < c := by rw [← hc]; exact Nat.gcd_pos_of_pos_left _ d0
  have c1 : c ≤ d := by rw [← hc]; exact Nat.gcd_le_left _ d0
  have HC := Lib.hid hc
  rw [hc]
  clear hc
  go_wp2_with fail
  refine (divided_any _ _ _ _ nhb.1 nlb.1 (by omega) nhb.2 nlb.2 (by omega)).mono ?_
  rintro e w5 ⟨rfl, hb5⟩
  rw [VN.out]
  have P5 : Aside (Blk w5 (w.heap.size + 1) 24 #[.int .i64 0, .int .i64 0] ∧ Below w.heap.size w w5) :=
    ⟨(((P3.out.2.1.alloc _).drewN _).later hb5), (bDr (bAl P3.out.2.2 _) _).trans (hb5.mono (by have := P3.out.2.2.size; simp; omega))⟩
  clear hb5 P3 c00 c01 f00 f01 k0
  obtain ⟨A, hA⟩ : ∃ A : Nat, (n : Int) / (c : Int) = (A : Int) := ⟨n / c, (Int.natCast_ediv _ _).symm⟩
  have hAn : A = n / c := by have := Int.natCast_ediv n c; omega
  have hAle : A ≤ n := by rw [hAn]; exact Nat.div_le_self _ _
  have HA := Lib.hid hAn
  rw [hA]
  clear hA hAn
  have VA := Lib.hid (Rep.val_hi_lo (A : Int) (by omega) (by omega))
  have ahb := Rep.hi_bd (A : Int)
  have alb := Rep.lo_bd (A : Int)
  generalize Rep.hi (A : Int) = Ah at VA ahb ⊢
  generalize Rep.lo (A : Int) = Al at VA alb ⊢
  obtain ⟨tt, htt⟩ : ∃ tt, (n : Int) % (c : Int) = tt := ⟨_, rfl⟩
  rw [htt]
  clear htt
  obtain ⟨dc, hdc⟩ : ∃ dc : Nat, (d : Int) / (c : Int) = (dc : Int) := ⟨d / c, (Int.natCast_ediv _ _).symm⟩
  have hdcn : dc = d / c := by have := Int.natCast_ediv d c; omega
  have hdcle : dc ≤ d := by rw [hdcn]; exact Nat.div_le_self _ _
  have HD := Lib.hid hdcn
  clear hdcn
  go_wp2_with fail
  refine (times_any _ _ (by omega) (by omega) (by omega) (by omega) _).mono ?_
  rintro e w6 ⟨rfl, hb6⟩
  have P6 : Aside (Blk w6 w5.heap.size 50 #[.int .u64 Ah, .int .u64 Al] ∧ Blk w6 (w.heap.size + 1) 24 #[.int .i64 0, .int .i64 0] ∧ Below w.heap.size w w6) :=
    ⟨(Blk.newAt rfl).later hb6, (P5.out.1.alloc _).later hb6, (bAl P5.out.2 _).trans (hb6.mono (by have := P5.out.2.size; simp; omega))⟩
  have k56 : w5.heap.size < w6.heap.size := P6.out.1.lt
  clear hb6 P5
  have hBm := Rep.mul_lt_sq dc f (by omega) f1
  have VB := Lib.hid (Rep.val_hi_lo ((dc : Int) * (f : Int)) (by rw [← Int.natCast_mul]; omega) (by rw [← Int.natCast_mul]; omega))
  have bhb := Rep.hi_bd ((dc : Int) * (f : Int))
  have blb := Rep.lo_bd ((dc : Int) * (f : Int))
  generalize Rep.hi ((dc : Int) * (f : Int)) = Bh at VB bhb ⊢
  generalize Rep.lo ((dc : Int) * (f : Int)) = Bl at VB blb ⊢
  obtain ⟨⟨c00, c01⟩, ⟨f00, f01⟩, k0⟩ := P6.out.1.two
  go_wp2_with fail
  refine (fits_any _ _ _ ahb.1 alb.1).mono ?_
  rintro e w7 ⟨rfl, hb7⟩
  rw [VA.out]
  have P7 : Aside (Blk w7 w5.heap.size 50 #[.int .u64 Ah, .int .u64 Al] ∧ Blk w7 w6.heap.size 50 #[.int .u64 Bh, .int .u64 Bl] ∧ Blk w7 (w.heap.size + 1) 24 #[.int .i64 0, .int .i64 0] ∧ Below w.heap.size w w7) :=
    ⟨(P6.out.1.alloc _).later hb7, (Blk.newAt rfl).later hb7, (P6.out.2.1.alloc _).later hb7, (bAl P6.out.2.2 _).trans (hb7.mono (by have := P6.out.2.2.size; simp; omega))⟩
  clear hb7 P6 c00 c01 f00 f01 k0
  obtain ⟨⟨c00, c01⟩, ⟨f00, f01⟩, k0⟩ := P7.out.1.two
  obtain ⟨⟨c10, c11⟩, ⟨f10, f11⟩, k1⟩ := P7.out.2.1.two
  obtain ⟨⟨c20, c21⟩, ⟨f20, f21⟩, k2⟩ := P7.out.2.2.1.two
  have HF := Lib.hid (quot_fin n d f c rs A dc HG.out HC.out HRS.out HA.out HD.out)
  by_cases hA : A ≤ 1152921504606846976
  · have tA : decide ((A : Int) ≤ 1152921504606846976) = true := decide_eq_true (by omega)
    rw [tA]
    go_wp2_with fail
    refine (fits_any _ _ _ bhb.1 blb.1).mono ?_
    rintro e w8 ⟨rfl, hb8⟩
    rw [VB.out]
    have P8 : Aside (Blk w8 w5.heap.size 50 #[.int .u64 Ah, .int .u64 Al] ∧ Blk w8 w6.heap.size 50 #[.int .u64 Bh, .int .u64 Bl] ∧ Blk w8 (w.heap.size + 1) 24 #[.int .i64 0, .int .i64 0] ∧ Below w.heap.size w w8) :=
      ⟨P7.out.1.later hb8, P7.out.2.1.later hb8, P7.out.2.2.1.later hb8, P7.out.2.2.2.trans (hb8.mono P7.out.2.2.2.size)⟩
    clear hb8 P7 c00 c01 f00 f01 k0 c10 c11 f10 f11 k1 c20 c21 f20 f21 k2
    obtain ⟨⟨c00, c01⟩, ⟨f00, f01⟩, k0⟩ := P8.out.1.two
    obtain ⟨⟨c10, c11⟩, ⟨f10, f11⟩, k1⟩ := P8.out.2.1.two
    obtain ⟨⟨c20, c21⟩, ⟨f20, f21⟩, k2⟩ := P8.out.2.2.1.two
    by_cases hB : dc * f ≤ 1152921504606846976
    · have tB : decide ((dc : Int) * (f : Int) ≤ 1152921504606846976) = true := decide_eq_true (by rw [← Int.natCast_mul]; omega)
      rw [tB]
      have HY := Lib.hid (r_yes ng n (d * f) (by rw [HF.out.1]; exact hA) (by rw [HF.out.2]; exact hB))
      have ea : Al = (A : Int) := by have := VA.out; unfold Rep.val at this; omega
      have eb : Bl = ((dc * f : Nat) : Int) := by have := VB.out; unfold Rep.val at this; rw [← Int.natCast_mul] at this; omega
      subst ea
      obtain ⟨BN, hBN⟩ : ∃ BN : Nat, BN = dc * f := ⟨_, rfl⟩
      rw [← hBN] at eb hB
      subst eb
      have HBN := Lib.hid hBN
      clear hBN
      cases ng
      · have HZ : Hid ((A : Int) = Frac.num false n (d * f) ∧ (BN : Int) = Frac.den n (d * f)) := ⟨by unfold Frac.num; rw [HF.out.1]; rfl, by unfold Frac.den; rw [HF.out.2, HBN.out]⟩
        go_wp2
        refine bodyPost_ret (v := .tuple #[.agg #[.int .i64 (A : Int), .int .i64 (BN : Int)], .int .i64 0]) (by simp [results, Tryd.results25, go_sem, c20, c21, k2]) rfl ⟨?_, ?_⟩
        · exact ret_quot ⟨HZ.out.1.trans HY.out.1, HZ.out.2.trans HY.out.2.1, HY.out.2.2⟩
        · exact bAl (bSt (bSt P8.out.2.2.2 (by simp) _) (by simp) _) _
      · have HZ : Hid (-(A : Int) = Frac.num true n (d * f) ∧ (BN : Int) = Frac.den n (d * f)) := ⟨by unfold Frac.num; rw [HF.out.1]; rfl, by unfold Frac.den; rw [HF.out.2, HBN.out]⟩
        go_wp2
        refine bodyPost_ret (v := .tuple #[.agg #[.int .i64 (-(A : Int)), .int .i64 (BN : Int)], .int .i64 0]) (by simp [results, Tryd.results25, go_sem, c20, c21, k2]) rfl ⟨?_, ?_⟩
        · exact ret_quot ⟨HZ.out.1.trans HY.out.1, HZ.out.2.trans HY.out.2.1, HY.out.2.2⟩
        · exact bAl (bSt (bSt P8.out.2.2.2 (by simp) _) (by simp) _) _
    · have tB : decide ((dc : Int) * (f : Int) ≤ 1152921504606846976) = false := decide_eq_false (by rw [← Int.natCast_mul]; omega)
      rw [tB]
      have HY := Lib.hid (r_no ng n (d * f) (fun h => hB (by rw [← HF.out.2]; exact h.2)))
      go_wp2
      refine bodyPost_ret (v := .tuple #[.agg #[.int .i64 0, .int .i64 0], .int .i64 6]) (by simp [results, Tryd.results25, go_sem, c20, c21, k2]) rfl ⟨?_, ?_⟩
      · exact ret_quot HY.out
      · exact bSt (bSt P8.out.2.2.2 (by simp) _) (by simp) _
  · have tA : decide ((A : Int) ≤ 1152921504606846976) = false := decide_eq_false (by omega)
    rw [tA]
    have HY := Lib.hid (r_no ng n (d * f) (fun h => hA (by rw [← HF.out.1]; exact h.1)))
    go_wp2
    refine bodyPost_ret (v := .tuple #[.agg #[.int .i64 0, .int .i64 0], .int .i64 6]) (by simp [results, Tryd.results25, go_sem, c20, c21, k2]) rfl ⟨?_, ?_⟩
    · exact ret_quot HY.out
    · exact bSt (bSt P7.out.2.2.2 (by simp) _) (by simp) _
theorem quiet_add {P : Program} {f : FuncId} {args : Array Value} {w : World} {a n : Nat} {v : Value}
    (h : Calls P f args (w.drewN (a + n)) fun e w' => e = .returned v ∧ ∃ m, w' = (w.drewN (a + n)).drewN m) :
    Calls P f args (w.drewN (a + n)) fun e w'' => e = .returned v ∧ ∃ m, w'' = w.drewN (a + m) :=
  h.mono fun _ _ ⟨he, m, hm⟩ => ⟨he, n + m, by rw [hm, World.drewN_drewN, Nat.add_assoc]⟩
theorem cmpInt (x y : Int) (w : World) : Calls Tryd.prog 72 #[.int .i64 x, .int .i64 y] w fun e w' => e = .returned (.int .i64 (cmpI x y)) ∧ w = w' := by
  rcases Int.lt_trichotomy x y with h | h | h
  · have H := Lib.hid (show -1 = cmpI x y by unfold cmpI; rw [if_pos h])
    go_enter Tryd.func72, Tryd.ntmps72
    go_wp2
    go_ret
    exact ⟨ret_int H.out, rfl⟩
  · subst h
    have H := Lib.hid (show 0 = cmpI x x by unfold cmpI; rw [if_neg (by omega), if_neg (by omega)])
    go_enter Tryd.func72, Tryd.ntmps72
    go_wp2
    go_ret
    exact ⟨ret_int H.out, rfl⟩
  · have H := Lib.hid (show 1 = cmpI x y by unfold cmpI; rw [if_neg (by omega), if_pos (by omega)])
    have h' : ¬ x < y := by omega
    go_enter Tryd.func72, Tryd.ntmps72
    go_wp2
    go_ret
    exact ⟨ret_int H.out, rfl⟩
theorem notShare_no (x : Int) (h0 : 0 ≤ x) (h1 : x ≤ 1073741824) (w : World) : Calls Tryd.prog 56 #[.int .i64 x] w fun e w' => e = .returned (.bool false) ∧ w = w' := by
  have t1 : decide (x < 0) = false := decide_eq_false (by omega)
  have t2 : decide (x > 1073741824) = false := decide_eq_false (by omega)
  have t3 : ¬ 1073741824 < x := by omega
  have t4 : ¬ x < 0 := by omega
  go_enter Tryd.func56, Tryd.ntmps56
  go_wp2
  go_ret
  exact ⟨rfl, rfl⟩
set_option maxHeartbeats 1000000 in
theorem indexFunc_none (b n cap : Nat) (zs : Nat → Int) (w : World) (hn : n ≤ 4611686018427387904) (hc : ∀ i, i < n → w.cell? ⟨b, i, none⟩ = some (.int .i64 (zs i))) (hz : ∀ i, i < n → 0 ≤ zs i ∧ zs i ≤ 1073741824) :
    Calls Tryd.prog 69 #[.slice (some ⟨b, 0, none⟩) n cap, .func (.func 56) #[] #[]] w fun e w' => e = .returned (.int .i64 (-1)) ∧ w = w' := by
  have HC := Lib.hid hc
  clear hc
  go_enter Tryd.func69, Tryd.ntmps69
  go_wp2
  go_loop [8] (fun i => ∃ k : Nat, k ≤ n ∧ i = .int .i64 k) (fun i => n - (intOf i).toNat)
  case atStart => exact ⟨0, by omega, rfl⟩
  case round =>
    obtain ⟨k, hk, rfl⟩ := hrel
    by_cases hlt : k < n
    · have c0 := HC.out k hlt
      obtain ⟨z0, z1⟩ := hz k hlt
      have hlt' : (k : Int) < (n : Int) := by omega
      go_wp2_with fail
      refine (notShare_no _ z0 z1 _).mono ?_
      rintro e w' ⟨rfl, rfl⟩
      go_wp2
      go_round
      case rel => exact ⟨k + 1, by omega, by go_num⟩
      case measure => simp [intOf]; omega
    · have hlt' : ¬ (k : Int) < (n : Int) := by omega
      go_wp2
      go_ret
      exact ⟨rfl, rfl⟩
set_option maxHeartbeats 1000000 in
theorem closure_any (rv rb n cap : Nat) (i k : Nat) (x y : Int) (w : World) (h0 : w.cell? ⟨rv, 0, none⟩ = some (.slice (some ⟨rb, 0, none⟩) n cap)) (hi : i < n) (hk : k < n)
    (h1 : w.cell? ⟨rb, i, none⟩ = some (.int .i64 x)) (h2 : w.cell? ⟨rb, k, none⟩ = some (.int .i64 y)) :
    Calls Tryd.prog 71 #[.int .i64 i, .int .i64 k, .pointer (some ⟨rv, 0, none⟩)] w fun e w' => e = .returned (.int .i64 (cmpI y x)) ∧ ∃ n, w' = w.drewN n := by
  have i0 : (0 : Int) ≤ (i : Int) := by omega
  have i1 : (i : Int) < (n : Int) := by omega
  have k0 : (0 : Int) ≤ (k : Int) := by omega
  have k1 : (k : Int) < (n : Int) := by omega
  go_enter Tryd.func71, Tryd.ntmps71
  go_wp2_with fail
  go_quiet ((go_at_call 72; exact qSame (cmpInt _ _ _)))
  go_wp2
  go_ret
  exact ⟨rfl, _, rfl⟩
set_option maxHeartbeats 1000000 in
theorem insertion_three (ob rv rb : Nat) (w : World) (h0 : w.cell? ⟨rv, 0, none⟩ = some (.slice (some ⟨rb, 0, none⟩) 3 3))
    (r0 : w.cell? ⟨rb, 0, none⟩ = some (.int .i64 7)) (r1 : w.cell? ⟨rb, 1, none⟩ = some (.int .i64 1)) (r2 : w.cell? ⟨rb, 2, none⟩ = some (.int .i64 0))
    (o0 : w.cell? ⟨ob, 0, none⟩ = some (.int .i64 0)) (o1 : w.cell? ⟨ob, 1, none⟩ = some (.int .i64 1)) (o2 : w.cell? ⟨ob, 2, none⟩ = some (.int .i64 2)) :
    Calls Tryd.prog 100 #[.slice (some ⟨ob, 0, none⟩) 3 3, .int .i64 0, .int .i64 3, .func (.func 71) #[] #[.pointer (some ⟨rv, 0, none⟩)]] w fun e w' => e = .returned (.tuple #[]) ∧ ∃ n, w' = w.drewN n := by
  go_enter Tryd.func100, Tryd.ntmps100
  go_wp2_with fail
  refine wp_loop_rounds 3 ?_
  rw [rounds_succ]
  go_wp2_with fail
  refine wp_loop_rounds 1 ?_
  rw [rounds_succ]
  go_wp2_with fail
  go_quiet ((go_at_call 71; first | exact Calls.quiet_of (closure_any rv rb 3 3 1 0 1 7 _ (by simp [go_sem, h0]) (by omega) (by omega) (by simp [go_sem, r1]) (by simp [go_sem, r0])) | exact Calls.quiet_of (closure_any rv rb 3 3 2 1 0 1 _ (by simp [go_sem, h0]) (by omega) (by omega) (by simp [go_sem, r2]) (by simp [go_sem, r1]))))
  go_wp2_with fail
  rw [rounds_succ]
  go_wp2_with fail
  refine wp_loop_rounds 1 ?_
  rw [rounds_succ]
  go_wp2_with fail
  rename_i nq _
  go_quiet ((go_at_call 71; first | exact Calls.quiet_of (closure_any rv rb 3 3 1 0 1 7 _ (by simp [go_sem, h0]) (by omega) (by omega) (by simp [go_sem, r1]) (by simp [go_sem, r0])) | exact Calls.quiet_of (closure_any rv rb 3 3 2 1 0 1 _ (by simp [go_sem, h0]) (by omega) (by omega) (by simp [go_sem, r2]) (by simp [go_sem, r1])) | exact quiet_add (closure_any rv rb 3 3 2 1 0 1 _ (by simp [go_sem, h0]) (by omega) (by omega) (by simp [go_sem, r2]) (by simp [go_sem, r1]))))
  go_wp2_with fail
  rw [rounds_succ]
  go_wp2
  go_end0
  exact ⟨rfl, _, rfl⟩
set_option maxHeartbeats 1000000 in
theorem stable_three (ob rv rb : Nat) (w : World) (h0 : w.cell? ⟨rv, 0, none⟩ = some (.slice (some ⟨rb, 0, none⟩) 3 3))
    (r0 : w.cell? ⟨rb, 0, none⟩ = some (.int .i64 7)) (r1 : w.cell? ⟨rb, 1, none⟩ = some (.int .i64 1)) (r2 : w.cell? ⟨rb, 2, none⟩ = some (.int .i64 0))
    (o0 : w.cell? ⟨ob, 0, none⟩ = some (.int .i64 0)) (o1 : w.cell? ⟨ob, 1, none⟩ = some (.int .i64 1)) (o2 : w.cell? ⟨ob, 2, none⟩ = some (.int .i64 2)) :
    Calls Tryd.prog 86 #[.slice (some ⟨ob, 0, none⟩) 3 3, .int .i64 3, .func (.func 71) #[] #[.pointer (some ⟨rv, 0, none⟩)]] w fun e w' => e = .returned (.tuple #[]) ∧ ∃ n, w' = w.drewN n := by
  go_enter Tryd.func86, Tryd.ntmps86
  go_wp2_with fail
  refine wp_loop_rounds 1 ?_
  rw [rounds_succ]
  go_wp2_with fail
  refine (insertion_three ob rv rb _ h0 r0 r1 r2 o0 o1 o2).mono ?_
  rintro e w' ⟨rfl, n1, rfl⟩
  go_wp2_with fail
  refine wp_loop_rounds 1 ?_
  rw [rounds_succ]
  go_wp2
  go_end0
  exact ⟨rfl, _, rfl⟩
set_option maxHeartbeats 1000000 in
theorem sort_three (ob rv rb : Nat) (w : World) (h0 : w.cell? ⟨rv, 0, none⟩ = some (.slice (some ⟨rb, 0, none⟩) 3 3))
    (r0 : w.cell? ⟨rb, 0, none⟩ = some (.int .i64 7)) (r1 : w.cell? ⟨rb, 1, none⟩ = some (.int .i64 1)) (r2 : w.cell? ⟨rb, 2, none⟩ = some (.int .i64 0))
    (o0 : w.cell? ⟨ob, 0, none⟩ = some (.int .i64 0)) (o1 : w.cell? ⟨ob, 1, none⟩ = some (.int .i64 1)) (o2 : w.cell? ⟨ob, 2, none⟩ = some (.int .i64 2)) :
    Calls Tryd.prog 70 #[.slice (some ⟨ob, 0, none⟩) 3 3, .func (.func 71) #[] #[.pointer (some ⟨rv, 0, none⟩)]] w fun e w' => e = .returned (.tuple #[]) ∧ ∃ n, w' = w.drewN n := by
  go_enter Tryd.func70, Tryd.ntmps70
  go_wp2_with fail
  refine (stable_three ob rv rb _ h0 r0 r1 r2 o0 o1 o2).mono ?_
  rintro e w' ⟨rfl, n1, rfl⟩
  go_wp2
  go_end0
  exact ⟨rfl, _, rfl⟩
set_option maxRecDepth 100000 in
set_option maxHeartbeats 4000000 in
theorem apportioned_three (b : Nat) (w : World) (w0 : w.cell? ⟨b, 0, none⟩ = some (.int .i64 5)) (w1 : w.cell? ⟨b, 1, none⟩ = some (.int .i64 3)) (w2 : w.cell? ⟨b, 2, none⟩ = some (.int .i64 0)) (hb : b < w.heap.size) :
    Calls Tryd.prog 57 #[.int .i64 3, .int .i64 8, .slice (some ⟨b, 0, none⟩) 3 3] w fun e w' => e = .returned (.slice (some ⟨w.heap.size, 0, none⟩) 3 3) ∧
      (w'.cell? ⟨w.heap.size, 0, none⟩ = some (.int .i64 2) ∧ w'.cell? ⟨w.heap.size, 1, none⟩ = some (.int .i64 1) ∧ w'.cell? ⟨w.heap.size, 2, none⟩ = some (.int .i64 0)) ∧ Below w.heap.size w w' := by
  have b1 : b < w.heap.size + 1 := by omega
  have b2 : b < w.heap.size + 1 + 1 := by omega
  have b3 : b < w.heap.size + 1 + 1 + 1 := by omega
  have hmk : ∀ w, (Instr.makeSlice 22 (.int .i64 3) (.int .i64 3)).run Tryd.prog w = .ok (.slice (some ⟨w.heap.size, 0, none⟩) 3 3) (w.alloc (.cells #[.int .i64 0, .int .i64 0, .int .i64 0] 3)) := fun _ => by kernel_rfl
  go_enter Tryd.func57, Tryd.ntmps57
  go_wp2_with fail
  refine wp_loop_rounds 4 ?_
  rw [rounds_succ]
  go_wp2_with fail
  go_region
  go_wp2_with fail
  rw [rounds_succ]
  go_wp2_with fail
  go_region
  go_wp2_with fail
  rw [rounds_succ]
  go_wp2_with fail
  go_region
  go_wp2_with fail
  rw [rounds_succ]
  go_wp2_with fail
  refine (sort_three (w.heap.size + 1 + 1 + 1) (w.heap.size + 1 + 1) (w.heap.size + 1) _ (by simp [go_sem]) (by simp [go_sem]) (by simp [go_sem]) (by simp [go_sem]) (by simp [go_sem]) (by simp [go_sem]) (by simp [go_sem])).mono ?_
  rintro e w' ⟨rfl, n1, rfl⟩
  go_wp2_with fail
  refine wp_loop_rounds 2 ?_
  rw [rounds_succ]
  go_wp2_with fail
  rw [rounds_succ]
  go_wp2
  go_ret
  refine ⟨rfl, ⟨?_, ?_, ?_⟩, ?_⟩
  · exact Blk.cell ((((((Blk.newAt rfl).alloc _).alloc _).alloc _).drewN _).set_ 0 _) 0
  · exact Blk.cell ((((((Blk.newAt rfl).alloc _).alloc _).alloc _).drewN _).set_ 0 _) 1
  · exact Blk.cell ((((((Blk.newAt rfl).alloc _).alloc _).alloc _).drewN _).set_ 0 _) 2
  · exact bSt (bDr (bAl (bAl (bAl (bAl (Below.refl _ _) _) _) _) _) _) (Nat.le_refl _) _
/-- the sign of a quotient -/
def sgnOf (n d : Int) : Bool := decide (n < 0) != decide (d < 0)
theorem sgn_spell (n d : Int) : (!decide (n < 0) == decide (d < 0)) = sgnOf n d := by unfold sgnOf; cases decide (n < 0) <;> cases decide (d < 0) <;> rfl
def newNum (n d : Int) : Int := if d = 0 then 0 else rnum (sgnOf n d) n.natAbs d.natAbs
def newDen (n d : Int) : Int := if d = 0 then 0 else rden n.natAbs d.natAbs
def newErr (n d : Int) : Int := if d = 0 then 2 else rerr n.natAbs d.natAbs
theorem rnum_zero (b c : Bool) (d : Nat) : rnum b 0 d = rnum c 0 d := by
  unfold rnum Frac.num
  rw [Nat.zero_div]
  cases b <;> cases c <;> rfl
theorem sgn_abs (s : Bool) (n : Nat) : (Rep.sgn s (n : Int)).natAbs = n := by
  cases s
  · show ((n : Int)).natAbs = n; omega
  · show (-(n : Int)).natAbs = n; omega
theorem sgn_rnum (s : Bool) (n d : Nat) : rnum (decide (Rep.sgn s (n : Int) < 0)) n d = rnum s n d := by
  by_cases h : n = 0
  · subst h; exact rnum_zero _ _ _
  · congr 1
    cases s
    · show decide ((n : Int) < 0) = false; exact decide_eq_false (by omega)
    · show decide (-(n : Int) < 0) = true; exact decide_eq_true (by omega)
set_option maxHeartbeats 2000000 in
theorem ratio_new (n d : Int) (n0 : -9223372036854775808 ≤ n) (n1 : n < 9223372036854775808) (d0 : -9223372036854775808 ≤ d) (d1 : d < 9223372036854775808) (w : World) :
    Calls Tryd.prog 28 #[.int .i64 n, .int .i64 d] w fun e w' => e = .returned (.tuple #[.agg #[.int .i64 (newNum n d), .int .i64 (newDen n d)], .int .i64 (newErr n d)]) ∧ Below w.heap.size w w' := by
  by_cases hd : d = 0
  · subst hd
    have HX : Hid ((0 : Int) = newNum n 0 ∧ (0 : Int) = newDen n 0 ∧ (2 : Int) = newErr n 0) := by
      unfold newNum newDen newErr
      exact ⟨rfl, rfl, rfl⟩
    go_enter Tryd.func28, Tryd.ntmps28
    go_wp2
    refine bodyPost_ret (v := .tuple #[.agg #[.int .i64 0, .int .i64 0], .int .i64 2]) (by simp [results, Tryd.results28, go_sem]) rfl ⟨ret_quot HX.out, ?_⟩
    exact bAl (Below.refl _ _) _
  have hn : (0 : Int) ≤ (n.natAbs : Int) ∧ (n.natAbs : Int) < 18446744073709551616 := by omega
  obtain ⟨m, hm⟩ : ∃ m : Nat, n.natAbs = m := ⟨_, rfl⟩
  obtain ⟨y, hy⟩ : ∃ y : Nat, d.natAbs = y := ⟨_, rfl⟩
  have y0 : 0 < y := by omega
  have y1 : y < 18446744073709551616 := by omega
  have HX : Hid (rnum (decide (Rep.sgn (sgnOf n d) (m : Int) < 0)) (Rep.sgn (sgnOf n d) (m : Int)).natAbs (y * 1) = newNum n d ∧ rden (Rep.sgn (sgnOf n d) (m : Int)).natAbs (y * 1) = newDen n d ∧ rerr (Rep.sgn (sgnOf n d) (m : Int)).natAbs (y * 1) = newErr n d) := by
    unfold newNum newDen newErr
    rw [if_neg hd, if_neg hd, if_neg hd, sgn_abs, sgn_rnum, Nat.mul_one, hm, hy]
    exact ⟨rfl, rfl, rfl⟩
  rw [hm] at hn
  have HM := Lib.hid hm
  have HY := Lib.hid hy
  clear hm hy
  have hdz : (d == 0) = false := by rw [beq_eq_false_iff_ne]; exact hd
  have hzl : -170141183460469231731687303715884105728 < Rep.sgn (sgnOf n d) (m : Int) ∧ Rep.sgn (sgnOf n d) (m : Int) < 170141183460469231731687303715884105728 := by
    cases sgnOf n d
    · show _ < (m : Int) ∧ (m : Int) < _; omega
    · show _ < -(m : Int) ∧ -(m : Int) < _; omega
  have HV : Hid (Rep.val 0 (m : Int) = (m : Int)) := by show _ = _; unfold Rep.val; omega
  have HS := Lib.hid (sgn_spell n d)
  go_enter Tryd.func28, Tryd.ntmps28
  go_wp2_with fail
  refine (magnitude_any _ n0 n1 _).mono ?_
  rintro e w1 ⟨rfl, rfl⟩
  rw [HM.out]
  go_wp2_with fail
  refine (signed_any _ 0 _ _ (by omega) hn.1 (by omega) hn.2).mono ?_
  rintro e w1 ⟨rfl, hb⟩
  rw [HV.out, HS.out]
  have P1 : Aside (Blk w1 w.heap.size 24 #[.int .i64 0, .int .i64 0] ∧ Below w.heap.size w w1) := ⟨(Blk.newAt rfl).later hb, bTr (bAl (Below.refl _ _) _) hb⟩
  clear hb
  generalize Rep.sgn (sgnOf n d) (m : Int) = z at HX hzl ⊢
  have kR : w.heap.size < w1.heap.size := P1.out.1.lt
  go_wp2_with fail
  go_region_held3 (fun w' => w'.cell? ⟨w1.heap.size, 0, none⟩ = some (.int .u64 (Rep.hi z)) ∧ w'.cell? ⟨w1.heap.size, 1, none⟩ = some (.int .u64 (Rep.lo z))) (first | go_keep | (go_split_ands; refine ⟨?_, ?_⟩ <;> (first | (rw [hb.cell (by simp)]; assumption) | (rw [World.cell?_setCell_other _ _ _ _ (by first | (simp; done) | (simp; omega)), World.cell?_setCell_other _ _ _ _ (by first | (simp; done) | (simp; omega))]; assumption))))
    (first | (go_at_call 32; refine (magnitude_any _ d0 d1 _).mono ?_; rintro e w' ⟨rfl, rfl⟩; rw [HY.out]) | (go_at_call 25; refine (quotient_any z y 1 _ hzl.1 hzl.2 y0 y1 (by omega) (by omega) (Nat.gcd_one_right _)).mono ?_; rintro e w' ⟨rfl, hb⟩; have PB := Blk.later (by first | exact Blk.drew (Blk.alloc P1.out.1 _) | exact Blk.alloc P1.out.1 _) hb; obtain ⟨⟨r0, r1⟩, ⟨g0, g1⟩, gk⟩ := PB.two; clear PB; have HB := Lib.hid (Below.trans (by first | exact bD1 (bAl P1.out.2 _) | exact bAl P1.out.2 _) (hb.mono (by have := P1.out.2.size; simp; omega)))))
  go_wp2
  refine bodyPost_ret (v := .tuple #[.agg #[.int .i64 (rnum (decide (z < 0)) z.natAbs (y * 1)), .int .i64 (rden z.natAbs (y * 1))], .int .i64 (rerr z.natAbs (y * 1))]) (by simp [results, Tryd.results28, go_sem, r0, r1, gk]) rfl ⟨ret_quot HX.out, ?_⟩
  exact bSt (bSt HB.out (by simp) _) (by simp) _
set_option maxHeartbeats 1000000 in
theorem containsFunc_none (b n cap : Nat) (zs : Nat → Int) (w : World) (hn : n ≤ 4611686018427387904) (hc : ∀ i, i < n → w.cell? ⟨b, i, none⟩ = some (.int .i64 (zs i))) (hz : ∀ i, i < n → 0 ≤ zs i ∧ zs i ≤ 1073741824) :
    Calls Tryd.prog 55 #[.slice (some ⟨b, 0, none⟩) n cap, .func (.func 56) #[] #[]] w fun e w' => e = .returned (.bool false) ∧ w = w' := by
  have HI := Lib.hid (indexFunc_none b n cap zs w hn hc hz)
  clear hc hz
  go_enter Tryd.func55, Tryd.ntmps55
  go_wp2_with fail
  refine HI.out.mono ?_
  rintro e w' ⟨rfl, rfl⟩
  go_wp2
  go_ret
  exact ⟨rfl, rfl⟩
set_option maxRecDepth 100000 in
set_option maxHeartbeats 2000000 in
theorem apportion_three (b : Nat) (w : World) (w0 : w.cell? ⟨b, 0, none⟩ = some (.int .i64 5)) (w1 : w.cell? ⟨b, 1, none⟩ = some (.int .i64 3)) (w2 : w.cell? ⟨b, 2, none⟩ = some (.int .i64 0)) (hb : b < w.heap.size) :
    Calls Tryd.prog 29 #[.int .i64 3, .slice (some ⟨b, 0, none⟩) 3 3] w fun e w' => e = .returned (.tuple #[.slice (some ⟨w.heap.size, 0, none⟩) 3 3, .int .i64 0]) ∧
      (w'.cell? ⟨w.heap.size, 0, none⟩ = some (.int .i64 2) ∧ w'.cell? ⟨w.heap.size, 1, none⟩ = some (.int .i64 1) ∧ w'.cell? ⟨w.heap.size, 2, none⟩ = some (.int .i64 0)) ∧ Below w.heap.size w w' := by
  have hc : ∀ i, i < 3 → w.cell? ⟨b, i, none⟩ = some (.int .i64 ((fun i => if i = 0 then 5 else if i = 1 then 3 else 0) i)) := by
    intro i hi
    have : i = 0 ∨ i = 1 ∨ i = 2 := by omega
    rcases this with rfl | rfl | rfl
    · exact w0
    · exact w1
    · exact w2
  have hz : ∀ i, i < 3 → 0 ≤ (fun i : Nat => if i = 0 then (5 : Int) else if i = 1 then 3 else 0) i ∧ (fun i : Nat => if i = 0 then (5 : Int) else if i = 1 then 3 else 0) i ≤ 1073741824 := by
    intro i hi
    have : i = 0 ∨ i = 1 ∨ i = 2 := by omega
    rcases this with rfl | rfl | rfl <;> simp
  have HI := Lib.hid (containsFunc_none b 3 3 _ w (by omega) hc hz)
  have HA := Lib.hid (apportioned_three b w w0 w1 w2 hb)
  clear hc hz
  go_enter Tryd.func29, Tryd.ntmps29
  go_wp2_with fail
  refine HI.out.mono ?_
  rintro e w' ⟨rfl, rfl⟩
  go_wp2_with fail
  refine wp_loop_rounds 4 ?_
  rw [rounds_succ]
  go_wp2_with fail
  rw [rounds_succ]
  go_wp2_with fail
  rw [rounds_succ]
  go_wp2_with fail
  rw [rounds_succ]
  go_wp2_with fail
  refine HA.out.mono ?_
  rintro e w' ⟨rfl, hc, hb⟩
  go_wp2
  go_ret2
  exact ⟨rfl, hc, hb⟩
theorem new_six : newNum 6 (-4) = -3 ∧ newDen 6 (-4) = 2 ∧ newErr 6 (-4) = 0 := by decide +kernel
set_option maxRecDepth 100000 in
set_option maxHeartbeats 2000000 in
theorem awake_any (w : World) :
    Calls Tryd.prog 11 #[] w fun e w' => e = .returned (.bool true) ∧ Below w.heap.size w w' := by
  go_enter Tryd.func11, Tryd.ntmps11
  go_wp2_with fail
  refine (ratio_new 6 (-4) (by omega) (by omega) (by omega) (by omega) _).mono ?_
  rintro e w1 ⟨rfl, hb1⟩
  rw [new_six.1, new_six.2.1, new_six.2.2]
  go_wp2_with fail
  refine (apportion_three _ _ ?_ ?_ ?_ ?_).mono ?_
  · simp [go_sem]
  · simp [go_sem]
  · simp [go_sem]
  · simp
  rintro e w2 ⟨rfl, ⟨p0, p1, p2⟩, hb2⟩
  have PA := (((Blk.newAt (w := w1) (t := 24) (cs := #[.int .i64 (-3), .int .i64 2]) rfl).alloc _).later hb2)
  obtain ⟨⟨c0, c1⟩, ⟨f0, f1⟩, k⟩ := PA.two
  have HB := Lib.hid (bTr (bAl (bAl hb1 _) _) hb2)
  clear PA hb1 hb2
  simp only [World.size_alloc] at p0 p1 p2
  go_wp2
  go_ret
  exact ⟨rfl, HB.out⟩
set_option maxHeartbeats 1000000 in
theorem r_divide_small (b d : Int) (w : World) (b0 : 0 ≤ b) (d0 : 0 < d) (b1 : b < 18446744073709551616) (d1 : d < 18446744073709551616) :
    Calls Tryd.prog 38 #[.agg #[.int .u64 0, .int .u64 b], .agg #[.int .u64 0, .int .u64 d]] w fun e w' => e = .returned (.tuple #[.agg #[.int .u64 0, .int .u64 (b / d)], .agg #[.int .u64 0, .int .u64 (b % d)]]) ∧ Below w.heap.size w w' := by
  go_enter Tryd.func38, Tryd.ntmps38
  go_wp2
  go_region
  go_wp2
  refine bodyPost_ret (v := .tuple #[.agg #[.int .u64 0, .int .u64 (b / d)], .agg #[.int .u64 0, .int .u64 (b % d)]]) (by simp [results, Tryd.results38, go_sem]) rfl ⟨rfl, ?_⟩
  exact bD1 (bAl (bAl (bAl (bAl (Below.refl _ _) _) _) _) _)
/-- the memory of the reference's divisor: its two numbers and its result -/
def DivS (w : World) (i j : Nat) (wr : World) : Prop :=
  Blk wr w.heap.size 46 #[.int .u64 0, .int .u64 i] ∧ Blk wr (w.heap.size + 1) 46 #[.int .u64 0, .int .u64 j] ∧
  Blk wr (w.heap.size + 1 + 1) 46 #[.int .u64 0, .int .u64 0] ∧ Below w.heap.size w wr
theorem divS_step {w w1 : World} {i j : Nat} (S : DivS w i j w1) (m : Nat) (x : Int) (hx : x = (m : Int)) (o1 o2 : Obj) :
    DivS w j m (((((((w1.setCell ⟨w.heap.size, 0, none⟩ (.int .u64 0)).setCell ⟨w.heap.size, 1, none⟩ (.int .u64 (j : Int))).setCell ⟨w.heap.size + 1, 0, none⟩ (.int .u64 0)).setCell ⟨w.heap.size + 1, 1, none⟩ (.int .u64 x)).alloc o1).alloc o2).drew) := by
  subst hx
  obtain ⟨h0, h1, h2, h3⟩ := S
  refine ⟨?_, ?_, ?_, ?_⟩
  · exact ((((((h0.set0 _).set1 _).off (by omega) _).off (by omega) _).alloc _).alloc _).drew
  · exact ((((((h1.off (by omega) _).off (by omega) _).set0 _).set1 _).alloc _).alloc _).drew
  · exact ((((((h2.off (by omega) _).off (by omega) _).off (by omega) _).off (by omega) _).alloc _).alloc _).drew
  · exact bD1 (bAl (bAl (bSt (bSt (bSt (bSt h3 (by simp) _) (by simp) _) (by simp) _) (by simp) _) _) _)
set_option maxHeartbeats 1000000 in
theorem r_divisor_small (a b : Nat) (w : World) (ha : a < 18446744073709551616) (hb : b < 18446744073709551616) :
    Calls Tryd.prog 27 #[.agg #[.int .u64 0, .int .u64 a], .agg #[.int .u64 0, .int .u64 b]] w fun e w' => e = .returned (.agg #[.int .u64 0, .int .u64 (Nat.gcd a b : Nat)]) ∧ Below w.heap.size w w' := by
  go_enter Tryd.func27, Tryd.ntmps27
  go_wp2
  have S0 : Aside (DivS w a b ((((w.alloc (Obj.cells #[Value.int IntKind.u64 0, Value.int IntKind.u64 ↑a] 46)).alloc (Obj.cells #[Value.int IntKind.u64 0, Value.int IntKind.u64 ↑b] 46)).alloc (Obj.cells #[Value.int IntKind.u64 0, Value.int IntKind.u64 0] 46)))) :=
    ⟨((Blk.newAt rfl).alloc _).alloc _, (Blk.newAt (by simp)).alloc _, Blk.newAt (by simp), bAl (bAl (bAl (Below.refl _ _) _) _) _⟩
  generalize (((w.alloc (Obj.cells #[Value.int IntKind.u64 0, Value.int IntKind.u64 ↑a] 46)).alloc (Obj.cells #[Value.int IntKind.u64 0, Value.int IntKind.u64 ↑b] 46)).alloc (Obj.cells #[Value.int IntKind.u64 0, Value.int IntKind.u64 0] 46)) = W at S0 ⊢
  go_loopg [7] b (fun g x wr => ∃ i j : Nat, i < 18446744073709551616 ∧ j < 18446744073709551616 ∧ j ≤ g ∧ Aside (Nat.gcd i j = Nat.gcd a b) ∧ Aside (DivS w i j wr))
  case atStart => exact ⟨a, b, ha, hb, Nat.le_refl _, rfl, S0⟩
  case round =>
    clear S0
    obtain ⟨i, j, hi, hj, hjg, HG, S1⟩ := hrel
    obtain ⟨⟨c00, c01⟩, ⟨f00, f01⟩, k0⟩ := S1.out.1.two
    obtain ⟨⟨c10, c11⟩, ⟨f10, f11⟩, k1⟩ := S1.out.2.1.two
    obtain ⟨⟨c20, c21⟩, ⟨f20, f21⟩, k2⟩ := S1.out.2.2.1.two
    by_cases hz : j = 0
    · subst hz
      have HE : Hid (Nat.gcd a b = i) := by
        show _ = _
        rw [← HG.out, Nat.gcd_zero_right]
      go_wp2
      refine bodyPost_ret (v := .agg #[.int .u64 0, .int .u64 (i : Int)]) (by simp [results, Tryd.results27, go_sem, c20, c21, k2]) rfl ⟨?_, ?_⟩
      · rw [HE.out]
      · exact bSt (bSt S1.out.2.2.2 (by simp; omega) _) (by simp; omega) _
    · have hjp : (0 : Int) < (j : Int) := by omega
      have hml : i % j < j := Nat.mod_lt i (by omega)
      go_wp2_with fail
      refine (r_divide_small _ _ _ (by omega) hjp (by omega) (by omega)).mono ?_
      rintro e w1 ⟨rfl, hb1⟩
      have S2 : Aside (DivS w i j w1) := ⟨S1.out.1.later hb1, S1.out.2.1.later hb1, S1.out.2.2.1.later hb1, S1.out.2.2.2.trans (hb1.mono (by omega))⟩
      clear hb1 S1 c00 c01 f00 f01 k0 c10 c11 f10 f11 k1 c20 c21 f20 f21 k2
      obtain ⟨⟨c00, c01⟩, ⟨f00, f01⟩, k0⟩ := S2.out.1.two
      obtain ⟨⟨c10, c11⟩, ⟨f10, f11⟩, k1⟩ := S2.out.2.1.two
      go_wp2
      go_region
      have S3 : Aside (DivS w j (i % j) (((((((w1.setCell ⟨w.heap.size, 0, none⟩ (.int .u64 0)).setCell ⟨w.heap.size, 1, none⟩ (.int .u64 (j : Int))).setCell ⟨w.heap.size + 1, 0, none⟩ (.int .u64 0)).setCell ⟨w.heap.size + 1, 1, none⟩ (.int .u64 ((i : Int) % (j : Int)))).alloc (.cells #[.int .u64 0, .int .u64 ((i : Int) / (j : Int))] 46)).alloc (.cells #[.int .u64 0, .int .u64 ((i : Int) % (j : Int))] 46)).drew)) := divS_step S2.out (i % j) _ (Int.natCast_emod _ _).symm _ _
      clear S2 c00 c01 f00 f01 k0 c10 c11 f10 f11 k1
      generalize ((((((w1.setCell ⟨w.heap.size, 0, none⟩ (.int .u64 0)).setCell ⟨w.heap.size, 1, none⟩ (.int .u64 (j : Int))).setCell ⟨w.heap.size + 1, 0, none⟩ (.int .u64 0)).setCell ⟨w.heap.size + 1, 1, none⟩ (.int .u64 ((i : Int) % (j : Int)))).alloc (.cells #[.int .u64 0, .int .u64 ((i : Int) / (j : Int))] 46)).alloc (.cells #[.int .u64 0, .int .u64 ((i : Int) % (j : Int))] 46)).drew = w3 at S3 ⊢
      go_wp2
      go_roundg (i % j)
      case measure => omega
      case rel => exact ⟨j, i % j, hj, by omega, Nat.le_refl _, (by show _ = _; rw [← HG.out, Nat.gcd_comm i j, Nat.gcd_rec j i, Nat.gcd_comm]), S3⟩
set_option maxHeartbeats 1000000 in
theorem r_valid (n d : Int) (n0 : -9223372036854775808 ≤ n) (n1 : n < 9223372036854775808) (d0 : -9223372036854775808 ≤ d) (d1 : d < 9223372036854775808) (w : World) :
    Calls Tryd.prog 10 #[.agg #[.int .i64 n, .int .i64 d]] w fun e w' => e = .returned (.bool (Frac.valid n d)) ∧ Below w.heap.size w w' := by
  by_cases h1 : d < 1
  · have H := Lib.hid (valid_no n d (.inl h1))
    go_enter Tryd.func10, Tryd.ntmps10
    go_wp2
    go_ret
    exact ⟨ret_bool H.out, bAl (Below.refl _ _) _⟩
  by_cases h2 : 1152921504606846976 < d
  · have H := Lib.hid (valid_no n d (.inr (.inl h2)))
    go_enter Tryd.func10, Tryd.ntmps10
    go_wp2
    go_ret
    exact ⟨ret_bool H.out, bAl (Below.refl _ _) _⟩
  by_cases h3 : n < -1152921504606846976
  · have H := Lib.hid (valid_no n d (.inr (.inr (.inl h3))))
    go_enter Tryd.func10, Tryd.ntmps10
    go_wp2
    go_ret
    exact ⟨ret_bool H.out, bAl (Below.refl _ _) _⟩
  by_cases h4 : 1152921504606846976 < n
  · have H := Lib.hid (valid_no n d (.inr (.inr (.inr h4))))
    go_enter Tryd.func10, Tryd.ntmps10
    go_wp2
    go_ret
    exact ⟨ret_bool H.out, bAl (Below.refl _ _) _⟩
  have H := Lib.hid (valid_yes n d (by omega) (by omega) (by omega) (by omega))
  obtain ⟨g, hg⟩ : ∃ g, Nat.gcd n.natAbs d.natAbs = g := ⟨_, rfl⟩
  rw [hg] at H
  have HG := Lib.hid hg
  clear hg
  have fin : ∀ (bb : Bool), ((g : Int) == 1) = bb → Calls Tryd.prog 10 #[.agg #[.int .i64 n, .int .i64 d]] w fun e w' => e = .returned (.bool bb) ∧ Below w.heap.size w w' := by
    intro bb hbb
    cases bb
    all_goals
      go_enter Tryd.func10, Tryd.ntmps10
      go_wp2_with fail
      have HB := Lib.hid (bAl (Below.refl w.heap.size w) (Obj.cells #[.int .i64 n, .int .i64 d] 24))
      go_region_held3 (fun w' => w'.cell? ⟨w.heap.size, 0, none⟩ = some (.int .i64 n) ∧ w'.cell? ⟨w.heap.size, 1, none⟩ = some (.int .i64 d)) (first | go_keep | (go_split_ands; refine ⟨?_, ?_⟩ <;> (rw [hb.cell (by simp)]; assumption)))
        (first | (go_at_call 22; refine (size_any _ (by omega) (by omega) _).mono ?_; rintro e w' ⟨rfl, rfl⟩) | (go_at_call 27; refine (r_divisor_small _ _ _ (by omega) (by omega)).mono ?_; rw [HG.out]; rintro e w' ⟨rfl, hb⟩; have HB := Lib.hid (bTr (by first | exact HB.out | exact bD1 HB.out) hb)))
      go_wp2
      go_ret
      exact ⟨rfl, HB.out⟩
  refine (fin _ rfl).mono ?_
  rintro e w' ⟨rfl, hb⟩
  exact ⟨ret_bool H.out, hb⟩
set_option maxRecDepth 100000 in
set_option maxHeartbeats 4000000 in
theorem r_reduce_small (ng : Bool) (n d : Nat) (w : World) (n1 : n < 18446744073709551616) (d0 : 0 < d) (d1 : d < 18446744073709551616) :
    Calls Tryd.prog 64 #[.bool ng, .agg #[.int .u64 0, .int .u64 n], .agg #[.int .u64 0, .int .u64 d]] w fun e w' => e = .returned (.tuple #[.agg #[.int .i64 (rnum ng n d), .int .i64 (rden n d)], .int .i64 (rerr n d)]) ∧ Below w.heap.size w w' := by
  obtain ⟨g, hg⟩ : ∃ g, Nat.gcd n d = g := ⟨_, rfl⟩
  have g0 : 0 < g := by rw [← hg]; exact Nat.gcd_pos_of_pos_right _ d0
  have g1 : g ≤ d := by rw [← hg]; exact Nat.gcd_le_right _ d0
  have HG := Lib.hid hg
  clear hg
  obtain ⟨A, hA⟩ : ∃ A : Nat, (n : Int) / (g : Int) = (A : Int) := ⟨n / g, (Int.natCast_ediv _ _).symm⟩
  have hAn : A = n / g := by have := Int.natCast_ediv n g; omega
  have hAle : A ≤ n := by rw [hAn]; exact Nat.div_le_self _ _
  obtain ⟨C, hC⟩ : ∃ C : Nat, (d : Int) / (g : Int) = (C : Int) := ⟨d / g, (Int.natCast_ediv _ _).symm⟩
  have hCn : C = d / g := by have := Int.natCast_ediv d g; omega
  have hCle : C ≤ d := by rw [hCn]; exact Nat.div_le_self _ _
  have HF : Hid (n / Nat.gcd n d = A ∧ d / Nat.gcd n d = C) := ⟨by rw [HG.out, hAn], by rw [HG.out, hCn]⟩
  have HA := Lib.hid hA
  have HC := Lib.hid hC
  clear hA hC hAn hCn
  go_enter Tryd.func64, Tryd.ntmps64
  go_wp2_with fail
  refine (r_divisor_small n d _ n1 d1).mono ?_
  rintro e w1 ⟨rfl, hb⟩
  rw [HG.out]
  have P1 : Aside (Blk w1 w.heap.size 46 #[.int .u64 0, .int .u64 n] ∧ Blk w1 (w.heap.size + 1) 46 #[.int .u64 0, .int .u64 d] ∧ Blk w1 (w.heap.size + 1 + 1) 24 #[.int .i64 0, .int .i64 0] ∧ Below w.heap.size w w1) :=
    ⟨(((Blk.newAt rfl).alloc _).alloc _).later hb, ((Blk.newAt (by simp)).alloc _).later hb, (Blk.newAt (by simp)).later hb, bTr (bAl (bAl (bAl (Below.refl _ _) _) _) _) hb⟩
  clear hb
  obtain ⟨⟨c00, c01⟩, ⟨f00, f01⟩, k0⟩ := P1.out.1.two
  go_wp2_with fail
  refine (r_divide_small (n : Int) (g : Int) _ (by omega) (by omega) (by omega) (by omega)).mono ?_
  rintro e w2 ⟨rfl, hb⟩
  rw [HA.out]
  have P2 : Aside (Blk w2 w1.heap.size 46 #[.int .u64 0, .int .u64 g] ∧ Blk w2 (w.heap.size + 1) 46 #[.int .u64 0, .int .u64 d] ∧ Blk w2 (w.heap.size + 1 + 1) 24 #[.int .i64 0, .int .i64 0] ∧ Below w.heap.size w w2) :=
    ⟨(Blk.newAt rfl).later hb, (P1.out.2.1.alloc _).later hb, (P1.out.2.2.1.alloc _).later hb, (bAl P1.out.2.2.2 _).trans (hb.mono (by have := P1.out.2.2.2.size; simp; omega))⟩
  clear hb P1 c00 c01 f00 f01 k0
  obtain ⟨t1, ht1⟩ : ∃ t, (n : Int) % (g : Int) = t := ⟨_, rfl⟩
  rw [ht1]
  clear ht1
  obtain ⟨⟨c00, c01⟩, ⟨f00, f01⟩, k0⟩ := P2.out.1.two
  obtain ⟨⟨c10, c11⟩, ⟨f10, f11⟩, k1⟩ := P2.out.2.1.two
  have k2 : w1.heap.size < w2.heap.size + 1 := by omega
  have k3 : w.heap.size + 1 < w2.heap.size + 1 := by omega
  go_wp2_with fail
  refine (r_divide_small (d : Int) (g : Int) _ (by omega) (by omega) (by omega) (by omega)).mono ?_
  rintro e w3 ⟨rfl, hb⟩
  rw [HC.out]
  have P3 : Aside (Blk w3 w2.heap.size 46 #[.int .u64 0, .int .u64 A] ∧ Blk w3 (w.heap.size + 1 + 1) 24 #[.int .i64 0, .int .i64 0] ∧ Below w.heap.size w w3) :=
    ⟨((Blk.newAt rfl).alloc _).later hb, ((P2.out.2.2.1.alloc _).alloc _).later hb, (bAl (bAl P2.out.2.2.2 _) _).trans (hb.mono (by have := P2.out.2.2.2.size; simp; omega))⟩
  clear hb P2 c00 c01 f00 f01 k0 c10 c11 f10 f11 k1 k2 k3
  obtain ⟨t2, ht2⟩ : ∃ t, (d : Int) % (g : Int) = t := ⟨_, rfl⟩
  rw [ht2]
  clear ht2
  obtain ⟨⟨c00, c01⟩, ⟨f00, f01⟩, k0⟩ := P3.out.1.two
  obtain ⟨⟨c10, c11⟩, ⟨f10, f11⟩, k1⟩ := P3.out.2.1.two
  have k4 : w2.heap.size < w3.heap.size + 1 := by omega
  have k5 : w.heap.size + 1 + 1 < w3.heap.size + 1 := by omega
  have k6 : w2.heap.size < w3.heap.size + 1 + 1 := by omega
  have k7 : w.heap.size + 1 + 1 < w3.heap.size + 1 + 1 := by omega
  by_cases hA : A ≤ 1152921504606846976
  · have tA : decide ((A : Int) > 1152921504606846976) = false := decide_eq_false (by omega)
    by_cases hB : C ≤ 1152921504606846976
    · have tB : decide ((C : Int) > 1152921504606846976) = false := decide_eq_false (by omega)
      have HY := Lib.hid (r_yes ng n d (by rw [HF.out.1]; exact hA) (by rw [HF.out.2]; exact hB))
      cases ng
      · have HZ : Hid ((A : Int) = Frac.num false n d ∧ (C : Int) = Frac.den n d) := ⟨by unfold Frac.num; rw [HF.out.1]; rfl, by unfold Frac.den; rw [HF.out.2]⟩
        go_wp2
        refine bodyPost_ret (v := .tuple #[.agg #[.int .i64 (A : Int), .int .i64 (C : Int)], .int .i64 0]) (by simp [results, Tryd.results64, go_sem, c10, c11, k1, k5, k7]) rfl ⟨?_, ?_⟩
        · exact ret_quot ⟨HZ.out.1.trans HY.out.1, HZ.out.2.trans HY.out.2.1, HY.out.2.2⟩
        · exact bAl (bAl (bAl (bSt (bSt P3.out.2.2 (by simp; omega) _) (by simp; omega) _) _) _) _
      · have HZ : Hid (-(A : Int) = Frac.num true n d ∧ (C : Int) = Frac.den n d) := ⟨by unfold Frac.num; rw [HF.out.1]; rfl, by unfold Frac.den; rw [HF.out.2]⟩
        go_wp2
        refine bodyPost_ret (v := .tuple #[.agg #[.int .i64 (-(A : Int)), .int .i64 (C : Int)], .int .i64 0]) (by simp [results, Tryd.results64, go_sem, c10, c11, k1, k5, k7]) rfl ⟨?_, ?_⟩
        · exact ret_quot ⟨HZ.out.1.trans HY.out.1, HZ.out.2.trans HY.out.2.1, HY.out.2.2⟩
        · exact bAl (bAl (bAl (bSt (bSt P3.out.2.2 (by simp; omega) _) (by simp; omega) _) _) _) _
    · have tB : decide ((C : Int) > 1152921504606846976) = true := decide_eq_true (by omega)
      have HY := Lib.hid (r_no ng n d (fun h => hB (by rw [← HF.out.2]; exact h.2)))
      go_wp2
      refine bodyPost_ret (v := .tuple #[.agg #[.int .i64 0, .int .i64 0], .int .i64 6]) (by simp [results, Tryd.results64, go_sem, c10, c11, k1, k5, k7]) rfl ⟨?_, ?_⟩
      · exact ret_quot HY.out
      · exact bAl (bAl (bSt (bSt P3.out.2.2 (by simp; omega) _) (by simp; omega) _) _) _
  · have tA : decide ((A : Int) > 1152921504606846976) = true := decide_eq_true (by omega)
    have HY := Lib.hid (r_no ng n d (fun h => hA (by rw [← HF.out.1]; exact h.1)))
    go_wp2
    refine bodyPost_ret (v := .tuple #[.agg #[.int .i64 0, .int .i64 0], .int .i64 6]) (by simp [results, Tryd.results64, go_sem, c10, c11, k1, k5, k7]) rfl ⟨?_, ?_⟩
    · exact ret_quot HY.out
    · exact bAl (bAl (bSt (bSt P3.out.2.2 (by simp; omega) _) (by simp; omega) _) _) _
set_option maxHeartbeats 2000000 in
theorem r_new (n d : Int) (n0 : -9223372036854775808 ≤ n) (n1 : n < 9223372036854775808) (d0 : -9223372036854775808 ≤ d) (d1 : d < 9223372036854775808) (w : World) :
    Calls Tryd.prog 44 #[.int .i64 n, .int .i64 d] w fun e w' => e = .returned (.tuple #[.agg #[.int .i64 (newNum n d), .int .i64 (newDen n d)], .int .i64 (newErr n d)]) ∧ Below w.heap.size w w' := by
  by_cases hd : d = 0
  · subst hd
    have HX : Hid ((0 : Int) = newNum n 0 ∧ (0 : Int) = newDen n 0 ∧ (2 : Int) = newErr n 0) := by
      unfold newNum newDen newErr
      exact ⟨rfl, rfl, rfl⟩
    go_enter Tryd.func44, Tryd.ntmps44
    go_wp2
    refine bodyPost_ret (v := .tuple #[.agg #[.int .i64 0, .int .i64 0], .int .i64 2]) (by simp [results, Tryd.results44, go_sem]) rfl ⟨ret_quot HX.out, ?_⟩
    exact bAl (Below.refl _ _) _
  have HX : Hid (rnum (sgnOf n d) n.natAbs d.natAbs = newNum n d ∧ rden n.natAbs d.natAbs = newDen n d ∧ rerr n.natAbs d.natAbs = newErr n d) := by
    unfold newNum newDen newErr
    rw [if_neg hd, if_neg hd, if_neg hd]
    exact ⟨rfl, rfl, rfl⟩
  have hdz : (d == 0) = false := by rw [beq_eq_false_iff_ne]; exact hd
  have HS := Lib.hid (sgn_spell n d)
  go_enter Tryd.func44, Tryd.ntmps44
  go_wp2_with fail
  refine (size_any _ n0 n1 _).mono ?_
  rintro e w1 ⟨rfl, rfl⟩
  go_wp2_with fail
  refine (size_any _ d0 d1 _).mono ?_
  rintro e w1 ⟨rfl, rfl⟩
  go_wp2_with fail
  rw [HS.out]
  refine (r_reduce_small (sgnOf n d) n.natAbs d.natAbs _ (by omega) (by omega) (by omega)).mono ?_
  rintro e w1 ⟨rfl, hb⟩
  rw [HX.out.1, HX.out.2.1, HX.out.2.2]
  have PB := (Blk.newAt (w := w) (t := 24) (cs := #[.int .i64 0, .int .i64 0]) rfl).later hb
  obtain ⟨⟨c0, c1⟩, ⟨f0, f1⟩, k⟩ := PB.two
  have HB := Lib.hid (bTr (bAl (Below.refl _ _) _) hb)
  clear PB hb
  go_wp2
  refine bodyPost_ret (v := .tuple #[.agg #[.int .i64 (newNum n d), .int .i64 (newDen n d)], .int .i64 (newErr n d)]) (by simp [results, Tryd.results44, go_sem, c0, c1, k]) rfl ⟨rfl, ?_⟩
  exact bSt (bSt HB.out (by simp) _) (by simp) _
theorem gNew {a b : World} {row : Option Nat} (h : a.grownBy b row) {p : Addr} (hp : a.heap.size ≤ p.block) (v : Value) : a.grownBy (b.setCell p v) row :=
  ⟨h.os, h.tape, h.output, by simpa using h.size, fun j hj hn => (Below.heap_setCell b p v j (by omega)).trans (h.block j hj hn)⟩
theorem gAl {a b : World} {row : Option Nat} (h : a.grownBy b row) (o : Obj) : a.grownBy (b.alloc o) row :=
  ⟨h.os, h.tape, h.output, by have := h.size; simp; omega, fun j hj hn => (Below.heap_alloc b o j (Nat.lt_of_lt_of_le hj h.size)).trans (h.block j hj hn)⟩
theorem Tp.setFar {w : World} {B g : Nat} {o : Option Addr} {n c : Nat} {z : Nat → Int} (h : Tp w B g o n c z) {p : Addr} (hp : g < p.block) (v : Value) : Tp (w.setCell p v) B g o n c z := by
  obtain ⟨k, hk, hB⟩ := h.blk
  exact ⟨h.row.keep fun j hj => Below.heap_setCell w p v j (by have := h.bg; omega), h.bg, h.few, k, hk, hB.far (by omega) v⟩
def GetBool (w : World) (B g : Nat) (o : Option Addr) (n c : Nat) (z : Nat → Int) (e : Ending) (w' : World) : Prop :=
  ∃ v : Bool, e = .returned (.bool v) ∧ Tp w' B g o n c z ∧ w.grownBy w' (some g)
def GetRat (P : Int → Int → Prop) (w : World) (B g : Nat) (o : Option Addr) (n c : Nat) (z : Nat → Int) (e : Ending) (w' : World) : Prop :=
  ∃ a d, P a d ∧ e = .returned (.agg #[.int .i64 a, .int .i64 d]) ∧ Tp w' B g o n c z ∧ w.grownBy w' (some g)
set_option maxHeartbeats 1000000 in
theorem tape_one (N : Int) (hN : 1 ≤ N) (hN1 : N < 1000000) {w : World} {B g : Nat} {o : Option Addr} {n c : Nat} {z : Nat → Int} (h : Tp w B g o n c z) :
    Calls Tryd.prog 16 #[.pointer (some ⟨g, 0, none⟩), .int .i64 N] w (GetBool w B g o n c z) := by
  go_enter Tryd.func16, Tryd.ntmps16
  go_wp2_with fail
  refine (tape_next N hN (by omega) h).mono ?_
  rintro e w1 ⟨v, ⟨hv0, hv1⟩, rfl, ht, hg⟩
  have hfin : ∀ b, GetBool w B g o n c z (.returned (.bool b)) w1 := fun b => ⟨b, rfl, ht, hg⟩
  have HF := Lib.hid hfin
  clear hfin ht hg h
  go_wp2
  go_ret
  exact HF.out _
set_option maxHeartbeats 1000000 in
theorem tape_pick (b m cap : Nat) (y : Nat → Int) (hm : 1 ≤ m) (hm1 : m < 1000000) {w : World} {B g : Nat} {o : Option Addr} {n c : Nat} {z : Nat → Int} (h : Tp w B g o n c z)
    (hc : ∀ i, i < m → w.cell? ⟨b, i, none⟩ = some (.int .i64 (y i))) (hb : b < w.heap.size) (hbg : b ≠ g) :
    Calls Tryd.prog 43 #[.pointer (some ⟨g, 0, none⟩), .slice (some ⟨b, 0, none⟩) m cap] w (GetInt (fun v => ∃ i, i < m ∧ v = y i) w B g o n c z) := by
  have HC := Lib.hid hc
  clear hc
  go_enter Tryd.func43, Tryd.ntmps43
  go_wp2_with fail
  refine (tape_next (m : Int) (by omega) (by omega) h).mono ?_
  rintro e w1 ⟨v, ⟨hv0, hv1⟩, rfl, ht, hg⟩
  obtain ⟨i, rfl⟩ := Int.eq_ofNat_of_zero_le hv0
  have hi : i < m := by omega
  have hcell : w1.cell? ⟨b, i, none⟩ = some (.int .i64 (y i)) := (World.cell?_of_block (a := ⟨b, i, none⟩) (hg.block b hb (by intro e; cases e; exact hbg rfl))).trans (HC.out i hi)
  have hfin : ∀ k, GetInt (fun v => ∃ i, i < m ∧ v = y i) w B g o n c z (.returned (.int .i64 (y i))) (w1.drewN k) := fun k => ⟨_, ⟨i, hi, rfl⟩, rfl, ht.later (bDr (Below.refl _ _) k), gTr hg (gDr w1 k _)⟩
  have HF := Lib.hid hfin
  clear hfin ht hg h
  go_wp2
  go_ret
  exact HF.out 0
theorem valid_new (n d : Int) (h : newErr n d = 0) : Frac.valid (newNum n d) (newDen n d) = true := by
  unfold newErr at h
  by_cases hd : d = 0
  · rw [if_pos hd] at h; omega
  rw [if_neg hd] at h
  have hf : Frac.fit n.natAbs d.natAbs = true := by
    cases e : Frac.fit n.natAbs d.natAbs
    · unfold rerr at h; rw [e] at h; exact absurd h (by decide)
    · rfl
  have hg : 0 < Nat.gcd n.natAbs d.natAbs := Nat.gcd_pos_of_pos_right _ (by omega)
  have hco : Nat.gcd (n.natAbs / Nat.gcd n.natAbs d.natAbs) (d.natAbs / Nat.gcd n.natAbs d.natAbs) = 1 := Nat.coprime_div_gcd_div_gcd hg
  have hC : 0 < d.natAbs / Nat.gcd n.natAbs d.natAbs := Nat.div_pos (Nat.le_of_dvd (by omega) (Nat.gcd_dvd_right _ _)) hg
  unfold Frac.fit Frac.M at hf
  simp only [Bool.and_eq_true, decide_eq_true_eq] at hf
  have hf' : Frac.fit n.natAbs d.natAbs = true := by unfold Frac.fit Frac.M; rw [decide_eq_true hf.1, decide_eq_true hf.2]; rfl
  have e1 : newDen n d = ((d.natAbs / Nat.gcd n.natAbs d.natAbs : Nat) : Int) := by unfold newDen rden Frac.den; rw [if_neg hd, hf']; rfl
  have e2 : newNum n d = ((n.natAbs / Nat.gcd n.natAbs d.natAbs : Nat) : Int) ∨ newNum n d = -((n.natAbs / Nat.gcd n.natAbs d.natAbs : Nat) : Int) := by
    unfold newNum rnum Frac.num
    rw [if_neg hd, hf']
    cases sgnOf n d
    · exact .inl rfl
    · exact .inr rfl
  generalize n.natAbs / Nat.gcd n.natAbs d.natAbs = A at *
  generalize d.natAbs / Nat.gcd n.natAbs d.natAbs = C at *
  have e3 : (newNum n d).natAbs = A := by omega
  have e4 : (newDen n d).natAbs = C := by omega
  unfold Frac.valid
  rw [e3, e4, hco, decide_eq_true (show 1 ≤ newDen n d by omega), decide_eq_true (show newDen n d ≤ 1152921504606846976 by omega), decide_eq_true (show -1152921504606846976 ≤ newNum n d by omega), decide_eq_true (show newNum n d ≤ 1152921504606846976 by omega)]
  rfl
/-- a tape's state inside Ratio: its own result block R, two words drawn -/
def InRat (w : World) (B g : Nat) (o : Option Addr) (n c : Nat) (z : Nat → Int) (v : Value) (wx : World) : Prop :=
  ∃ x : Int, v = .int .i64 x ∧ I64 x ∧ Tp wx B g o n c z ∧ w.grownBy wx (some g) ∧ Blk wx w.heap.size 24 #[.int .i64 0, .int .i64 0]
def numAt (i : Nat) : Int := [1152921504606846976, 1152921504606846975, -1152921504606846976, 576460752303423488, 1073741824, 3486784401, -1000000007, 1152921504606846883].getD i 0
def denAt (i : Nat) : Int := [1152921504606846976, 1152921504606846975, 576460752303423488, 1073741824, 1000000000, 1000000007, 432345564227567616, 1152921504606846869].getD i 0
theorem numAt_bd (i : Nat) (h : i < 8) : I64 (numAt i) := by
  have : i = 0 ∨ i = 1 ∨ i = 2 ∨ i = 3 ∨ i = 4 ∨ i = 5 ∨ i = 6 ∨ i = 7 := by omega
  unfold I64
  rcases this with rfl | rfl | rfl | rfl | rfl | rfl | rfl | rfl <;> decide
theorem denAt_bd (i : Nat) (h : i < 8) : I64 (denAt i) := by
  have : i = 0 ∨ i = 1 ∨ i = 2 ∨ i = 3 ∨ i = 4 ∨ i = 5 ∨ i = 6 ∨ i = 7 := by omega
  unfold I64
  rcases this with rfl | rfl | rfl | rfl | rfl | rfl | rfl | rfl <;> decide
def ValidR (a d : Int) : Prop := Frac.valid a d = true
set_option maxRecDepth 100000 in
set_option maxHeartbeats 4000000 in
theorem tape_ratio {w : World} {B g : Nat} {o : Option Addr} {n c : Nat} {z : Nat → Int} (h : Tp w B g o n c z) :
    Calls Tryd.prog 15 #[.pointer (some ⟨g, 0, none⟩)] w (GetRat ValidR w B g o n c z) := by
  have hgl := h.lt
  have hne : some w.heap.size ≠ some g := by intro e; cases e; omega
  go_enter Tryd.func15, Tryd.ntmps15
  go_wp2_with fail
  refine (tape_range (-9) 9 (by omega) (by omega) (by omega) (h.alloc _)).mono ?_
  rintro e w1 ⟨x, ⟨hx0, hx1⟩, rfl, ht1, hg1⟩
  have B1 := Lib.hid ((Blk.newAt (w := w) (t := 24) (cs := #[.int .i64 0, .int .i64 0]) rfl).grown hg1 hne)
  have G1 := Lib.hid (gTr (gBe (bAl (Below.refl _ w) _)) hg1)
  clear hg1 h
  go_wp2_with fail
  refine (tape_range 1 9 (by omega) (by omega) (by omega) ht1).mono ?_
  rintro e w2 ⟨y, ⟨hy0, hy1⟩, rfl, ht2, hg2⟩
  have B2 := Lib.hid (B1.out.grown hg2 hne)
  have G2 := Lib.hid (gTr G1.out hg2)
  clear hg2 ht1 B1 G1
  go_wp2_with fail
  refine (tape_one 4 (by omega) (by omega) ht2).mono ?_
  rintro e w3 ⟨v3, rfl, ht3, hg3⟩
  have S3 : Aside (Tp w3 B g o n c z ∧ w.grownBy w3 (some g) ∧ Blk w3 w.heap.size 24 #[.int .i64 0, .int .i64 0]) := ⟨ht3, gTr G2.out hg3, B2.out.grown hg3 hne⟩
  clear hg3 ht3 ht2 B2 G2
  go_upto_if 12 with (fail)
  go_cut [3] (fun s3 wx => InRat w B g o n c z s3 wx)
  case first =>
    cases v3
    · go_wp2_with fail
      go_meet
      exact ⟨x, rfl, ⟨by omega, by omega⟩, S3.out⟩
    · go_wp2_with fail
      refine (tape_pick w3.heap.size 8 8 numAt (by omega) (by omega) (S3.out.1.alloc _) ?_ (by simp) (by have := S3.out.1.lt; omega)).mono ?_
      · intro i hi
        have : i = 0 ∨ i = 1 ∨ i = 2 ∨ i = 3 ∨ i = 4 ∨ i = 5 ∨ i = 6 ∨ i = 7 := by omega
        rcases this with rfl | rfl | rfl | rfl | rfl | rfl | rfl | rfl <;> exact Blk.cell (Blk.newAt rfl) _
      rintro e w4 ⟨u, ⟨i, hi, rfl⟩, rfl, ht4, hg4⟩
      have S4 : Aside (Tp w4 B g o n c z ∧ w.grownBy w4 (some g) ∧ Blk w4 w.heap.size 24 #[.int .i64 0, .int .i64 0]) := ⟨ht4, gTr (gAl S3.out.2.1 _) hg4, (S3.out.2.2.alloc _).grown hg4 hne⟩
      clear ht4 hg4 S3
      go_wp2_with fail
      go_meet
      exact ⟨numAt i, rfl, numAt_bd i hi, S4.out⟩
  case rest =>
    obtain ⟨x', rfl, hx', hS⟩ := hcut
    have SS : Aside (Tp wc B g o n c z ∧ w.grownBy wc (some g) ∧ Blk wc w.heap.size 24 #[.int .i64 0, .int .i64 0]) := hS
    clear hS
    go_wp2_with fail
    refine (tape_one 4 (by omega) (by omega) SS.out.1).mono ?_
    rintro e w5 ⟨v5, rfl, ht5, hg5⟩
    have S5 : Aside (Tp w5 B g o n c z ∧ w.grownBy w5 (some g) ∧ Blk w5 w.heap.size 24 #[.int .i64 0, .int .i64 0]) := ⟨ht5, gTr SS.out.2.1 hg5, SS.out.2.2.grown hg5 hne⟩
    clear hg5 ht5 SS
    go_upto_if 17 with (fail)
    go_cut [4] (fun s4 wx => InRat w B g o n c z s4 wx)
    case first =>
      cases v5
      · go_wp2_with fail
        go_meet
        exact ⟨y, rfl, ⟨by omega, by omega⟩, S5.out⟩
      · go_wp2_with fail
        refine (tape_pick w5.heap.size 8 8 denAt (by omega) (by omega) (S5.out.1.alloc _) ?_ (by simp) (by have := S5.out.1.lt; omega)).mono ?_
        · intro i hi
          have : i = 0 ∨ i = 1 ∨ i = 2 ∨ i = 3 ∨ i = 4 ∨ i = 5 ∨ i = 6 ∨ i = 7 := by omega
          rcases this with rfl | rfl | rfl | rfl | rfl | rfl | rfl | rfl <;> exact Blk.cell (Blk.newAt rfl) _
        rintro e w6 ⟨u, ⟨i, hi, rfl⟩, rfl, ht6, hg6⟩
        have S6 : Aside (Tp w6 B g o n c z ∧ w.grownBy w6 (some g) ∧ Blk w6 w.heap.size 24 #[.int .i64 0, .int .i64 0]) := ⟨ht6, gTr (gAl S5.out.2.1 _) hg6, (S5.out.2.2.alloc _).grown hg6 hne⟩
        clear ht6 hg6 S5
        go_wp2_with fail
        go_meet
        exact ⟨denAt i, rfl, denAt_bd i hi, S6.out⟩
    case rest =>
      obtain ⟨y', rfl, hy', hS⟩ := hcut
      obtain ⟨hxa, hxb⟩ := hx'
      obtain ⟨hya, hyb⟩ := hy'
      have SS : Aside (Tp wc B g o n c z ∧ w.grownBy wc (some g) ∧ Blk wc w.heap.size 24 #[.int .i64 0, .int .i64 0]) := hS
      clear hS
      go_wp2_with fail
      refine (r_new x' y' hxa hxb hya hyb _).mono ?_
      rintro e w7 ⟨rfl, hb7⟩
      have S7 : Aside (Tp w7 B g o n c z ∧ w.grownBy w7 (some g) ∧ Blk w7 w.heap.size 24 #[.int .i64 0, .int .i64 0]) := ⟨SS.out.1.later hb7, gTr SS.out.2.1 (gBe hb7), SS.out.2.2.later hb7⟩
      clear hb7 SS
      obtain ⟨⟨c0, c1⟩, ⟨f0, f1⟩, k⟩ := S7.out.2.2.two
      by_cases he : newErr x' y' = 0
      · have hV : Hid (ValidR (newNum x' y') (newDen x' y')) := valid_new x' y' he
        have he' : (newErr x' y' != 0) = false := by rw [he]; rfl
        clear he
        go_wp2
        refine bodyPost_ret (v := .agg #[.int .i64 (newNum x' y'), .int .i64 (newDen x' y')]) (by simp [results, Tryd.results15, go_sem, c0, c1, k]) rfl ⟨_, _, hV.out, rfl, ?_, ?_⟩
        · exact ((S7.out.1.setFar (by exact hgl) _).setFar (by exact hgl) _).alloc _
        · exact gAl (gNew (gNew S7.out.2.1 (Nat.le_refl _) _) (Nat.le_refl _) _) _
      · have he' : (newErr x' y' != 0) = true := by rw [bne_iff_ne]; exact he
        have hV : Hid (ValidR 1 1) := by show _ = _; decide
        go_wp2
        refine bodyPost_ret (v := .agg #[.int .i64 1, .int .i64 1]) (by simp [results, Tryd.results15, go_sem, c0, c1, k]) rfl ⟨_, _, hV.out, rfl, ?_, ?_⟩
        · exact ((S7.out.1.setFar (by exact hgl) _).setFar (by exact hgl) _).alloc _
        · exact gAl (gNew (gNew S7.out.2.1 (Nat.le_refl _) _) (Nat.le_refl _) _) _
def wildAt (i : Nat) : Int := [-1, 0, 1, 2, 31, 32, 99, 100, 200, 201, 9999, 10000, 1000000, 1000001, 1152921504606846976, 1152921504606846977, -1152921504606846976, 9223372036854775807, -9223372036854775808].getD i 0
theorem wildAt_bd (i : Nat) (h : i < 19) : I64 (wildAt i) := by
  have : i = 0 ∨ i = 1 ∨ i = 2 ∨ i = 3 ∨ i = 4 ∨ i = 5 ∨ i = 6 ∨ i = 7 ∨ i = 8 ∨ i = 9 ∨ i = 10 ∨ i = 11 ∨ i = 12 ∨ i = 13 ∨ i = 14 ∨ i = 15 ∨ i = 16 ∨ i = 17 ∨ i = 18 := by omega
  unfold I64
  rcases this with rfl | rfl | rfl | rfl | rfl | rfl | rfl | rfl | rfl | rfl | rfl | rfl | rfl | rfl | rfl | rfl | rfl | rfl | rfl <;> decide
set_option maxHeartbeats 1000000 in
theorem tape_wild {w : World} {B g : Nat} {o : Option Addr} {n c : Nat} {z : Nat → Int} (h : Tp w B g o n c z) :
    Calls Tryd.prog 46 #[.pointer (some ⟨g, 0, none⟩)] w (GetInt I64 w B g o n c z) := by
  have hgl := h.lt
  have H := Lib.hid h
  go_enter Tryd.func46, Tryd.ntmps46
  go_wp2_with fail
  refine (tape_pick w.heap.size 19 19 wildAt (by omega) (by omega) (h.alloc _) ?_ (by simp) (by omega)).mono ?_
  · intro i hi
    have : i = 0 ∨ i = 1 ∨ i = 2 ∨ i = 3 ∨ i = 4 ∨ i = 5 ∨ i = 6 ∨ i = 7 ∨ i = 8 ∨ i = 9 ∨ i = 10 ∨ i = 11 ∨ i = 12 ∨ i = 13 ∨ i = 14 ∨ i = 15 ∨ i = 16 ∨ i = 17 ∨ i = 18 := by omega
    rcases this with rfl | rfl | rfl | rfl | rfl | rfl | rfl | rfl | rfl | rfl | rfl | rfl | rfl | rfl | rfl | rfl | rfl | rfl | rfl <;> exact Blk.cell (Blk.newAt rfl) _
  rintro e w1 ⟨u, ⟨i, hi, rfl⟩, rfl, ht, hg⟩
  have hfin : GetInt I64 w B g o n c z (.returned (.int .i64 (wildAt i))) w1 := ⟨_, wildAt_bd i hi, rfl, ht, gTr (gBe (bAl (Below.refl _ w) _)) hg⟩
  have HF := Lib.hid hfin
  clear hfin ht hg h
  go_wp2
  go_ret
  exact HF.out
set_option maxHeartbeats 1000000 in
theorem tape_spoil (x : Int) (hx : I64 x) {w : World} {B g : Nat} {o : Option Addr} {n c : Nat} {z : Nat → Int} (h : Tp w B g o n c z) :
    Calls Tryd.prog 17 #[.pointer (some ⟨g, 0, none⟩), .int .i64 x, .int .i64 3] w (GetInt I64 w B g o n c z) := by
  go_enter Tryd.func17, Tryd.ntmps17
  go_wp2_with fail
  refine (tape_one 3 (by omega) (by omega) h).mono ?_
  rintro e w1 ⟨v, rfl, ht, hg⟩
  cases v
  · have hfin : GetInt I64 w B g o n c z (.returned (.int .i64 x)) w1 := ⟨_, hx, rfl, ht, hg⟩
    have HF := Lib.hid hfin
    clear hfin ht hg h
    go_wp2
    go_ret
    exact HF.out
  · have HG := Lib.hid hg
    clear h hg
    go_wp2_with fail
    refine (tape_wild ht).mono ?_
    rintro e w2 ⟨u, hu, rfl, ht2, hg2⟩
    have hfin : GetInt I64 w B g o n c z (.returned (.int .i64 u)) w2 := ⟨_, hu, rfl, ht2, gTr HG.out hg2⟩
    have HF := Lib.hid hfin
    clear hfin ht2 hg2 ht hu
    go_wp2
    go_ret
    exact HF.out
theorem valid_bd {a b : Int} (h : Frac.valid a b = true) : I64 a ∧ I64 b := by
  unfold Frac.valid at h
  simp only [Bool.and_eq_true, decide_eq_true_eq] at h
  unfold I64
  omega
def LooseR (a d : Int) : Prop := I64 a ∧ I64 d
set_option maxRecDepth 100000 in
set_option maxHeartbeats 2000000 in
theorem tape_loose {w : World} {B g : Nat} {o : Option Addr} {n c : Nat} {z : Nat → Int} (h : Tp w B g o n c z) :
    Calls Tryd.prog 6 #[.pointer (some ⟨g, 0, none⟩)] w (GetRat LooseR w B g o n c z) := by
  have hgl := h.lt
  have hne : some w.heap.size ≠ some g := by intro e; cases e; omega
  go_enter Tryd.func6, Tryd.ntmps6
  go_wp2_with fail
  refine (tape_ratio (h.alloc _)).mono ?_
  rintro e w1 ⟨a, d, hv, rfl, ht1, hg1⟩
  have S1 : Aside (Tp w1 B g o n c z ∧ w.grownBy w1 (some g) ∧ Blk w1 w.heap.size 24 #[.int .i64 0, .int .i64 0]) := ⟨ht1, gTr (gBe (bAl (Below.refl _ w) _)) hg1, (Blk.newAt rfl).grown hg1 hne⟩
  have HV : Hid (LooseR a d) := valid_bd hv
  clear ht1 hg1 hv h
  go_wp2_with fail
  refine (tape_one 3 (by omega) (by omega) (S1.out.1.alloc _)).mono ?_
  rintro e w2 ⟨v, rfl, ht2, hg2⟩
  have hne1 : some w1.heap.size ≠ some g := by intro e; cases e; have := S1.out.1.lt; omega
  have S2 : Aside (Tp w2 B g o n c z ∧ w.grownBy w2 (some g) ∧ Blk w2 w.heap.size 24 #[.int .i64 0, .int .i64 0] ∧ Blk w2 w1.heap.size 24 #[.int .i64 a, .int .i64 d]) := ⟨ht2, gTr (gAl S1.out.2.1 _) hg2, (S1.out.2.2.alloc _).grown hg2 hne, (Blk.newAt rfl).grown hg2 hne1⟩
  clear ht2 hg2 S1
  cases v
  · obtain ⟨⟨c0, c1⟩, ⟨f0, f1⟩, k⟩ := S2.out.2.2.1.two
    obtain ⟨⟨c10, c11⟩, ⟨f10, f11⟩, k1⟩ := S2.out.2.2.2.two
    go_wp2
    refine bodyPost_ret (v := .agg #[.int .i64 a, .int .i64 d]) (by simp [results, Tryd.results6, go_sem, c0, c1, k]) rfl ⟨_, _, HV.out, rfl, ?_, ?_⟩
    · exact (S2.out.1.setFar (by exact hgl) _).setFar (by exact hgl) _
    · exact gNew (gNew S2.out.2.1 (Nat.le_refl _) _) (Nat.le_refl _) _
  · go_wp2_with fail
    refine (tape_range (-8) 8 (by omega) (by omega) (by omega) S2.out.1).mono ?_
    rintro e w3 ⟨x, ⟨hx0, hx1⟩, rfl, ht3, hg3⟩
    have G3 := Lib.hid (gTr S2.out.2.1 hg3)
    have B3 := Lib.hid (S2.out.2.2.1.grown hg3 hne)
    clear hg3 S2
    go_wp2_with fail
    refine (tape_spoil x ⟨by omega, by omega⟩ ht3).mono ?_
    rintro e w4 ⟨x', hx', rfl, ht4, hg4⟩
    have G4 := Lib.hid (gTr G3.out hg4)
    have B4 := Lib.hid (B3.out.grown hg4 hne)
    clear hg4 ht3 G3 B3
    have HX := Lib.hid hx'
    clear hx'
    go_wp2_with fail
    refine (tape_range (-1) 8 (by omega) (by omega) (by omega) ht4).mono ?_
    rintro e w5 ⟨y, ⟨hy0, hy1⟩, rfl, ht5, hg5⟩
    have G5 := Lib.hid (gTr G4.out hg5)
    have B5 := Lib.hid (B4.out.grown hg5 hne)
    clear hg5 ht4 G4 B4
    go_wp2_with fail
    refine (tape_spoil y ⟨by omega, by omega⟩ ht5).mono ?_
    rintro e w6 ⟨y', hy', rfl, ht6, hg6⟩
    have G6 := Lib.hid (gTr G5.out hg6)
    have B6 := Lib.hid (B5.out.grown hg6 hne)
    have T6 := Lib.hid ht6
    clear hg6 ht5 G5 B5 ht6
    have HY := Lib.hid hy'
    clear hy'
    obtain ⟨⟨c0, c1⟩, ⟨f0, f1⟩, k⟩ := B6.out.two
    go_wp2
    refine bodyPost_ret (v := .agg #[.int .i64 x', .int .i64 y']) (by simp [results, Tryd.results6, go_sem, c0, c1, k]) rfl ⟨_, _, ⟨HX.out, HY.out⟩, rfl, ?_, ?_⟩
    · exact (T6.out.setFar (by exact hgl) _).setFar (by exact hgl) _
    · exact gNew (gNew G6.out (Nat.le_refl _) _) (Nat.le_refl _) _
/-- what is told of a slice of integers that came in: it is nil, or it leads to a row of c cells, the numbers zs -/
def IsRow (k : IntKind) (w : World) (a : Option Addr) (len cap : Nat) (zs : List Int) : Prop :=
  (a = none ∧ len = 0 ∧ cap = 0 ∧ zs = []) ∨
  ∃ x, a = some x ∧ len ≤ cap ∧ cap ≤ maxLen ∧ zs.length = cap ∧ (∀ i, i < zs.length → w.cell? (x.add i) = some (.int k (zs.getD i 0))) ∧ ∀ n ∈ zs, (Lit.int k n).wf = true
theorem row_of {w : World} {o : Option Addr} {n c : Nat} {zs : List Int} (h : IsRow .i64 w o n c zs) :
    RowB w w.heap.size o n (fun i => zs.getD i 0) ∧ n ≤ c ∧ c ≤ 9223372036854775807 ∧ (o = none → n = 0 ∧ c = 0) := by
  rcases h with ⟨rfl, rfl, rfl, rfl⟩ | ⟨x, rfl, hl, hm, hz, hc, hw⟩
  · exact ⟨fun i hi => absurd hi (by omega), by omega, by omega, fun _ => ⟨rfl, rfl⟩⟩
  · refine ⟨fun i hi => ?_, hl, by unfold maxLen at hm; exact hm, fun h => by cases h⟩
    have hci := hc i (by omega)
    have hc0 := hc 0 (by omega)
    obtain ⟨b, off, spot⟩ := x
    have hs : spot = none := by simpa [Addr.add] using World.cell?_spot hc0
    subst hs
    have hb := World.block_lt_of_cell? w _ hc0
    refine ⟨⟨b, off, rfl, by simpa [Addr.add] using hb, ?_⟩, ?_⟩
    · by_cases h0 : i = 0
      · subst h0; simpa [Addr.add] using hci
      · simpa [Addr.add, h0] using hci
    · have hmem : zs.getD i 0 ∈ zs := by
        rw [List.getD_eq_getElem?_getD, List.getElem?_eq_getElem (by omega)]
        exact List.getElem_mem _
      obtain ⟨a, b⟩ := bounds_i64 (hw _ hmem)
      exact ⟨a, Int.lt_of_le_of_lt b (by omega)⟩
end Go.Proofs.YtjdldkafghblmaaDoor
