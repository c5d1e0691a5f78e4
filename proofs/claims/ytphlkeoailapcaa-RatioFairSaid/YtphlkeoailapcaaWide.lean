/-
  Contracts of the two-word integers of package ratio.
-/
import Derived.Test.YtphlkeoailapcaaNums
import Derived.Test.YtphlkeoailapcaaShelf
import Derived.Shelf.Spec.BitsCarry
import Derived.Deep.RegionHeld3
namespace Go.Proofs.Ytphlkeoailapcaa
open Go.RowKit
set_option linter.unusedVariables false
set_option linter.unusedSimpArgs false

theorem addLays : Lays7.n25 Try.prog ⟨fun | 25 => 73 | n => n, fun | 22 => 56 | n => n, fun | n => n⟩ := {
  mixed := by kernel_rfl
  f25 := Try.func73.trans (congrArg some (by kernel_rfl))
  t22 := Try.underlying56
  a22 := Try.isAgg56
  z22 := Try.sizeOf56
  v22 := Try.zeroValue56
  i22 := by kernel_rfl }
theorem add64 (x y c : Int) (x0 : 0 ≤ x) (y0 : 0 ≤ y) (c0 : 0 ≤ c) (c1 : c ≤ 1) (w : World) :
    (callFunc 73 #[.int .u64 x, .int .u64 y, .int .u64 c]).run Try.prog w = .ok (.value (.tuple #[.int .u64 (Rep.addLo x y c), .int .u64 (Rep.addHi x y c)])) w := by
  obtain ⟨x, rfl⟩ := Int.eq_ofNat_of_zero_le x0
  obtain ⟨y, rfl⟩ := Int.eq_ofNat_of_zero_le y0
  obtain ⟨c, rfl⟩ := Int.eq_ofNat_of_zero_le c0
  have h := Any7.bits_Add64 addLays x y c (by omega) w
  unfold Rep.addLo Rep.addHi
  simpa using h

theorem mul64 (x y : Int) (x0 : 0 ≤ x) (y0 : 0 ≤ y) (x1 : x < 18446744073709551616) (y1 : y < 18446744073709551616) (w : World) :
    Calls Try.prog 79 #[.int .u64 x, .int .u64 y] w fun e w' => e = .returned (.tuple #[.int .u64 (Rep.hi (x * y)), .int .u64 (Rep.lo (x * y))]) ∧ w = w' := by
  obtain ⟨x, rfl⟩ := Int.eq_ofNat_of_zero_le x0
  obtain ⟨y, rfl⟩ := Int.eq_ofNat_of_zero_le y0
  refine (Try.bits_Mul64 x y (by omega) (by omega) w).mono ?_
  rintro e w' ⟨rfl, rfl⟩
  rw [Rep.hi_nat x y (Rep.mul_lt_sq x y (by omega) (by omega)), Rep.lo_nat x y, Int.natCast_mul]
  exact ⟨rfl, rfl⟩

set_option maxHeartbeats 400000 in
theorem times_any (x y : Int) (x0 : 0 ≤ x) (y0 : 0 ≤ y) (x1 : x < 18446744073709551616) (y1 : y < 18446744073709551616) (w : World) :
    Calls Try.prog 72 #[.int .u64 x, .int .u64 y] w fun e w' => e = .returned (.agg #[.int .u64 (Rep.hi (x * y)), .int .u64 (Rep.lo (x * y))]) ∧ Below w.heap.size w w' := by
  go_enter Try.func72, Try.ntmps72
  go_wp2_with (go_at_call 79; refine (mul64 _ _ x0 y0 x1 y1 _).mono ?_; rintro e w' ⟨rfl, rfl⟩)
  refine bodyPost_ret (v := .agg #[.int .u64 (Rep.hi (x * y)), .int .u64 (Rep.lo (x * y))]) (by simp [results, Try.results72, go_sem]) rfl ⟨rfl, ?_⟩
  exact (Below.refl _ _).alloc (Nat.le_refl _) _

set_option maxHeartbeats 400000 in
theorem plus_any (a b c d : Int) (w : World) (a0 : 0 ≤ a) (b0 : 0 ≤ b) (c0 : 0 ≤ c) (d0 : 0 ≤ d) (a1 : a < 18446744073709551616) (b1 : b < 18446744073709551616) (c1 : c < 18446744073709551616) (d1 : d < 18446744073709551616) :
    Calls Try.prog 47 #[.agg #[.int .u64 a, .int .u64 b], .agg #[.int .u64 c, .int .u64 d]] w fun e w' => e = .returned (.agg #[.int .u64 (Rep.hi (Rep.val a b + Rep.val c d)), .int .u64 (Rep.lo (Rep.val a b + Rep.val c d))]) ∧ Below w.heap.size w w' := by
  have hc := Rep.addHi_bd b d 0 b0 d0 (by omega) b1 d1 (by omega)
  have k1 := fun w => add64 b d 0 b0 d0 (by omega) (by omega) w
  have k2 := fun w => add64 a c (Rep.addHi b d 0) a0 c0 hc.1 hc.2 w
  have HL := Lib.hid (Rep.sum_lo a b c d)
  have HH := Lib.hid (Rep.sum_hi a b c d b0 d0)
  clear hc a0 b0 c0 d0 a1 b1 c1 d1
  go_enter Try.func47, Try.ntmps47
  go_wp2
  refine bodyPost_ret (v := .agg #[.int .u64 (Rep.addLo a c (Rep.addHi b d 0)), .int .u64 (Rep.addLo b d 0)]) (by simp [results, Try.results47, go_sem]) rfl ⟨?_, ?_⟩
  · rw [HL.out, HH.out]
  · exact bAl (bAl (bAl (Below.refl _ _) _) _) _

theorem xor_ones (x : Nat) (h : x < 18446744073709551616) : 18446744073709551615 ^^^ x = 18446744073709551615 - x := by
  have e : (BitVec.allOnes 64 ^^^ BitVec.ofNat 64 x).toNat = (~~~(BitVec.ofNat 64 x)).toNat := by rw [BitVec.allOnes_xor]
  rw [BitVec.toNat_xor, BitVec.toNat_not, BitVec.toNat_allOnes, BitVec.toNat_ofNat, Nat.mod_eq_of_lt (by omega)] at e
  exact e
theorem flip_word (x : Int) (h0 : 0 ≤ x) (h1 : x < 18446744073709551616) : bits .xor .u64 IntKind.u64.max x = Rep.flip x := by
  obtain ⟨x, rfl⟩ := Int.eq_ofNat_of_zero_le h0
  have hm : IntKind.u64.max = ((18446744073709551615 : Nat) : Int) := by decide +kernel
  rw [hm, bits_xor_u64_nat _ x (by omega) (by omega), xor_ones x (by omega)]
  unfold Rep.flip
  omega

set_option maxHeartbeats 400000 in
theorem signed_no (a b : Int) (w : World) :
    Calls Try.prog 65 #[.agg #[.int .u64 a, .int .u64 b], .bool false] w fun e w' => e = .returned (.agg #[.int .u64 a, .int .u64 b]) ∧ Below w.heap.size w w' := by
  go_enter Try.func65, Try.ntmps65
  go_wp2
  refine bodyPost_ret (v := .agg #[.int .u64 a, .int .u64 b]) (by simp [results, Try.results65, go_sem]) rfl ⟨rfl, ?_⟩
  exact bAl (bAl (Below.refl _ _) _) _

set_option maxHeartbeats 400000 in
theorem signed_yes (a b : Int) (w : World) (a0 : 0 ≤ a) (b0 : 0 ≤ b) (a1 : a < 18446744073709551616) (b1 : b < 18446744073709551616) :
    Calls Try.prog 65 #[.agg #[.int .u64 a, .int .u64 b], .bool true] w fun e w' => e = .returned (.agg #[.int .u64 (Rep.hi (-(Rep.val a b))), .int .u64 (Rep.lo (-(Rep.val a b)))]) ∧ Below w.heap.size w w' := by
  have ka := flip_word a a0 a1
  have kb := flip_word b b0 b1
  have fa := Rep.flip_bd a a0 a1
  have fb := Rep.flip_bd b b0 b1
  have HH := Lib.hid (Rep.neg_hi' a b)
  have HL := Lib.hid (Rep.neg_lo' a b)
  clear a0 b0 a1 b1
  go_enter Try.func65, Try.ntmps65
  go_wp2_with fail
  refine (plus_any _ _ 0 1 _ fa.1 fb.1 (by omega) (by omega) fa.2 fb.2 (by omega) (by omega)).mono ?_
  rintro e w1 ⟨rfl, hb⟩
  obtain ⟨hc, hf⟩ := bcell hb
  have hz : w.heap.size + 1 < w1.heap.size := by have := hb.size; simp at this; omega
  go_wp2
  refine bodyPost_ret (v := .agg #[.int .u64 (Rep.hi (Rep.val (Rep.flip a) (Rep.flip b) + Rep.val 0 1)), .int .u64 (Rep.lo (Rep.val (Rep.flip a) (Rep.flip b) + Rep.val 0 1))]) (by simp [results, Try.results65, go_sem, hc, hz]) rfl ⟨?_, ?_⟩
  · rw [HH.out, HL.out]
  · exact bSt (bSt (bTr (bAl (bAl (Below.refl _ _) _) _) hb) (by simp) _) (by simp) _

theorem signed_any (s : Bool) (a b : Int) (w : World) (a0 : 0 ≤ a) (b0 : 0 ≤ b) (a1 : a < 18446744073709551616) (b1 : b < 18446744073709551616) :
    Calls Try.prog 65 #[.agg #[.int .u64 a, .int .u64 b], .bool s] w fun e w' => e = .returned (.agg #[.int .u64 (Rep.hi (Rep.sgn s (Rep.val a b))), .int .u64 (Rep.lo (Rep.sgn s (Rep.val a b)))]) ∧ Below w.heap.size w w' := by
  cases s
  · refine (signed_no a b w).mono ?_
    rintro e w' ⟨rfl, hb⟩
    refine ⟨?_, hb⟩
    show _ = Ending.returned (.agg #[.int .u64 (Rep.hi (Rep.val a b)), .int .u64 (Rep.lo (Rep.val a b))])
    rw [Rep.hi_val a b a0 a1 b0 b1, Rep.lo_val a b b0 b1]
  · exact signed_yes a b w a0 b0 a1 b1

set_option maxHeartbeats 400000 in
theorem product_any (a b : Int) (w : World) (a0 : -9223372036854775808 ≤ a) (b0 : -9223372036854775808 ≤ b) (a1 : a < 9223372036854775808) (b1 : b < 9223372036854775808) :
    Calls Try.prog 46 #[.int .i64 a, .int .i64 b] w fun e w' => e = .returned (.agg #[.int .u64 (Rep.hi (a * b)), .int .u64 (Rep.lo (a * b))]) ∧ Below w.heap.size w w' := by
  have hx : (0 : Int) ≤ (a.natAbs : Int) ∧ (a.natAbs : Int) < 18446744073709551616 := by omega
  have hy : (0 : Int) ≤ (b.natAbs : Int) ∧ (b.natAbs : Int) < 18446744073709551616 := by omega
  have hh := Rep.hi_bd ((a.natAbs : Int) * (b.natAbs : Int))
  have hl := Rep.lo_bd ((a.natAbs : Int) * (b.natAbs : Int))
  have HH := Lib.hid ((Rep.hi_congr_sgn (!decide (a < 0) == decide (b < 0)) ((a.natAbs : Int) * (b.natAbs : Int))).trans (by rw [Rep.sgn_prod]))
  have HL := Lib.hid ((Rep.lo_congr_sgn (!decide (a < 0) == decide (b < 0)) ((a.natAbs : Int) * (b.natAbs : Int))).trans (by rw [Rep.sgn_prod]))
  obtain ⟨x, hx'⟩ : ∃ x : Int, x = (a.natAbs : Int) := ⟨_, rfl⟩
  obtain ⟨y, hy'⟩ : ∃ y : Int, y = (b.natAbs : Int) := ⟨_, rfl⟩
  have HX := Lib.hid hx'
  have HY := Lib.hid hy'
  rw [← hx', ← hy'] at hh hl HH HL
  rw [← hx'] at hx
  rw [← hy'] at hy
  clear hx' hy'
  go_enter Try.func46, Try.ntmps46
  go_wp2_with fail
  refine (magnitude_any _ a0 a1 _).mono ?_
  rintro e w1 ⟨rfl, rfl⟩
  rw [← HX.out]
  go_wp2_with fail
  refine (magnitude_any _ b0 b1 _).mono ?_
  rintro e w1 ⟨rfl, rfl⟩
  rw [← HY.out]
  go_wp2_with fail
  refine (times_any _ _ hx.1 hy.1 hx.2 hy.2 _).mono ?_
  rintro e w1 ⟨rfl, hb⟩
  go_wp2_with fail
  refine (signed_any _ _ _ _ hh.1 hl.1 hh.2 hl.2).mono ?_
  rintro e w2 ⟨rfl, hb2⟩
  have hb3 := bTr hb hb2
  clear hb hb2
  obtain ⟨hc, hf⟩ := bcell hb3
  have hz : w.heap.size < w2.heap.size := by have := hb3.size; simp at this; omega
  rw [HH.out, HL.out]
  go_wp2
  refine bodyPost_ret (v := .agg #[.int .u64 (Rep.hi (a * b)), .int .u64 (Rep.lo (a * b))]) (by simp [results, Try.results46, go_sem, hc, hz]) rfl ⟨rfl, ?_⟩
  exact bSt (bSt (bTr (bAl (Below.refl _ _) _) hb3) (by simp) _) (by simp) _

set_option maxHeartbeats 400000 in
theorem negative_any (z : Int) (w : World) (z0 : -170141183460469231731687303715884105728 ≤ z) (z1 : z < 170141183460469231731687303715884105728) :
    Calls Try.prog 74 #[.agg #[.int .u64 (Rep.hi z), .int .u64 (Rep.lo z)]] w fun e w' => e = .returned (.bool (decide (z < 0))) ∧ Below w.heap.size w w' := by
  obtain ⟨h, hh⟩ : ∃ h, h = Rep.hi z := ⟨_, rfl⟩
  have hz' : decide (wrap64 h < 0) = decide (z < 0) := decide_eq_decide.2 (by have := Rep.negative z z0 z1; have := Rep.hi_bd z; rw [hh]; unfold wrap64; omega)
  have HZ := Lib.hid hz'
  rw [← hh]
  clear hh hz'
  go_enter Try.func74, Try.ntmps74
  go_wp2
  go_ret
  exact ⟨ret_bool HZ.out, bAl (Below.refl _ _) _⟩

set_option maxHeartbeats 400000 in
theorem fits_any (a b : Int) (w : World) (a0 : 0 ≤ a) (b0 : 0 ≤ b) :
    Calls Try.prog 76 #[.agg #[.int .u64 a, .int .u64 b]] w fun e w' => e = .returned (.bool (decide (Rep.val a b ≤ 1152921504606846976))) ∧ Below w.heap.size w w' := by
  by_cases ha : a = 0
  · subst ha
    have hz' : decide (b ≤ 1152921504606846976) = decide (Rep.val 0 b ≤ 1152921504606846976) := decide_eq_decide.2 (by unfold Rep.val; omega)
    have HZ := Lib.hid hz'
    clear hz'
    go_enter Try.func76, Try.ntmps76
    go_wp2
    go_ret
    exact ⟨ret_bool HZ.out, bAl (Below.refl _ _) _⟩
  · have hz' : false = decide (Rep.val a b ≤ 1152921504606846976) := (decide_eq_false (by unfold Rep.val; omega)).symm
    have HZ := Lib.hid hz'
    clear hz'
    have hn : (a == 0) = false := by rw [beq_eq_false_iff_ne]; exact ha
    go_enter Try.func76, Try.ntmps76
    go_wp2
    go_ret
    exact ⟨ret_bool HZ.out, bAl (Below.refl _ _) _⟩

def cmpI (x y : Int) : Int := if x < y then -1 else if x > y then 1 else 0
theorem cmp64 (x y : Int) (w : World) : Calls Try.prog 82 #[.int .i64 x, .int .i64 y] w fun e w' => e = .returned (.int .i64 (cmpI x y)) ∧ w = w' := by
  rcases Int.lt_trichotomy x y with h | h | h
  · have H := Lib.hid (show -1 = cmpI x y by unfold cmpI; rw [if_pos h])
    go_enter Try.func82, Try.ntmps82
    go_wp2
    go_ret
    exact ⟨ret_int H.out, rfl⟩
  · subst h
    have H := Lib.hid (show 0 = cmpI x x by unfold cmpI; rw [if_neg (by omega), if_neg (by omega)])
    go_enter Try.func82, Try.ntmps82
    go_wp2
    go_ret
    exact ⟨ret_int H.out, rfl⟩
  · have H := Lib.hid (show 1 = cmpI x y by unfold cmpI; rw [if_neg (by omega), if_pos (by omega)])
    have h' : ¬ x < y := by omega
    go_enter Try.func82, Try.ntmps82
    go_wp2
    go_ret
    exact ⟨ret_int H.out, rfl⟩
theorem cmpu64 (x y : Int) (w : World) : Calls Try.prog 83 #[.int .u64 x, .int .u64 y] w fun e w' => e = .returned (.int .i64 (cmpI x y)) ∧ w = w' := by
  rcases Int.lt_trichotomy x y with h | h | h
  · have H := Lib.hid (show -1 = cmpI x y by unfold cmpI; rw [if_pos h])
    go_enter Try.func83, Try.ntmps83
    go_wp2
    go_ret
    exact ⟨ret_int H.out, rfl⟩
  · subst h
    have H := Lib.hid (show 0 = cmpI x x by unfold cmpI; rw [if_neg (by omega), if_neg (by omega)])
    go_enter Try.func83, Try.ntmps83
    go_wp2
    go_ret
    exact ⟨ret_int H.out, rfl⟩
  · have H := Lib.hid (show 1 = cmpI x y by unfold cmpI; rw [if_neg (by omega), if_pos (by omega)])
    have h' : ¬ x < y := by omega
    go_enter Try.func83, Try.ntmps83
    go_wp2
    go_ret
    exact ⟨ret_int H.out, rfl⟩

def orI (x y : Int) : Int := if x = 0 then y else x
set_option maxHeartbeats 400000 in
theorem or2 (g cap : Nat) (x y : Int) (w : World) (hx : w.cell? ⟨g, 0, none⟩ = some (.int .i64 x)) (hy : w.cell? ⟨g, 1, none⟩ = some (.int .i64 y)) :
    Calls Try.prog 81 #[.slice (some ⟨g, 0, none⟩) 2 cap] w fun e w' => e = .returned (.int .i64 (orI x y)) ∧ w = w' := by
  go_enter Try.func81, Try.ntmps81
  go_wp2
  go_loop [8] (fun i => ∃ k : Nat, k ≤ 2 ∧ i = .int .i64 k ∧ Hid (1 ≤ k → x = 0) ∧ Hid (2 ≤ k → y = 0)) (fun i => 2 - (intOf i).toNat)
  case atStart => exact ⟨0, by omega, rfl, fun h => absurd h (by omega), fun h => absurd h (by omega)⟩
  case round =>
    obtain ⟨k, hk, rfl, H1, H2⟩ := hrel
    have hk3 : k = 0 ∨ k = 1 ∨ k = 2 := by omega
    rcases hk3 with rfl | rfl | rfl
    · by_cases h : x = 0
      · have HX := Lib.hid h
        have hn : (x != 0) = false := by rw [h]; rfl
        clear h
        go_wp2
        go_round
        case rel => exact ⟨1, by omega, rfl, fun _ => HX.out, fun h => absurd h (by omega)⟩
        case measure => simp [intOf]
      · have hn : (x != 0) = true := by rw [bne_iff_ne]; exact h
        go_wp2
        go_ret
        exact ⟨ret_int (by unfold orI; rw [if_neg h]), rfl⟩
    · by_cases h : y = 0
      · have HX := Lib.hid h
        have hn : (y != 0) = false := by rw [h]; rfl
        clear h
        go_wp2
        go_round
        case rel => exact ⟨2, by omega, rfl, fun _ => H1.out (by omega), fun _ => HX.out⟩
        case measure => simp [intOf]
      · have hn : (y != 0) = true := by rw [bne_iff_ne]; exact h
        go_wp2
        go_ret
        exact ⟨ret_int (by unfold orI; rw [if_pos (H1.out (by omega))]), rfl⟩
    · go_wp2
      go_ret
      exact ⟨ret_int (by unfold orI; rw [if_pos (H1.out (by omega)), H2.out (by omega)]), rfl⟩

set_option maxHeartbeats 400000 in
theorem compare_any (a b c d : Int) (w : World) :
    Calls Try.prog 59 #[.agg #[.int .u64 a, .int .u64 b], .agg #[.int .u64 c, .int .u64 d]] w fun e w' => e = .returned (.int .i64 (orI (cmpI (IntKind.i64.wrap a) (IntKind.i64.wrap c)) (cmpI b d))) ∧ Below w.heap.size w w' := by
  go_enter Try.func59, Try.ntmps59
  go_wp2_with fail
  go_region_held3 (fun w' => w'.cell? ⟨w.heap.size, 0, none⟩ = some (.int .u64 a) ∧ w'.cell? ⟨w.heap.size, 1, none⟩ = some (.int .u64 b) ∧ w'.cell? ⟨w.heap.size + 1, 0, none⟩ = some (.int .u64 c) ∧ w'.cell? ⟨w.heap.size + 1, 1, none⟩ = some (.int .u64 d)) (go_keep)
    (first | (go_at_call 82; refine (cmp64 _ _ _).mono ?_; rintro e w' ⟨rfl, rfl⟩) | (go_at_call 83; refine (cmpu64 _ _ _).mono ?_; rintro e w' ⟨rfl, rfl⟩) | (go_at_call 81; refine (or2 _ _ (cmpI (IntKind.i64.wrap a) (IntKind.i64.wrap c)) (cmpI b d) _ ?_ ?_).mono ?_; (simp [go_sem]); (simp [go_sem]); rintro e w' ⟨rfl, rfl⟩))
  go_wp2
  go_ret
  exact ⟨rfl, bD1 (bAl (bAl (bAl (Below.refl _ _) _) _) _)⟩

theorem wrap_sg (x : Int) (h0 : 0 ≤ x) (h1 : x < 18446744073709551616) : IntKind.i64.wrap x = Rep.sg x := by
  rw [IntKind.wrap_i64]; unfold Rep.sg; split <;> omega
theorem orI_cmp (x y : Int) (hx0 : -170141183460469231731687303715884105728 ≤ x) (hx1 : x < 170141183460469231731687303715884105728) (hy0 : -170141183460469231731687303715884105728 ≤ y) (hy1 : y < 170141183460469231731687303715884105728) :
    orI (cmpI (Rep.sg (Rep.hi x)) (Rep.sg (Rep.hi y))) (cmpI (Rep.lo x) (Rep.lo y)) = cmpI x y := by
  have a := Rep.cmp_lt x y hx0 hx1 hy0 hy1
  have b := Rep.cmp_lt y x hy0 hy1 hx0 hx1
  unfold orI cmpI
  omega

set_option maxHeartbeats 400000 in
theorem compare_val (x y : Int) (hx0 : -170141183460469231731687303715884105728 ≤ x) (hx1 : x < 170141183460469231731687303715884105728) (hy0 : -170141183460469231731687303715884105728 ≤ y) (hy1 : y < 170141183460469231731687303715884105728) (w : World) :
    Calls Try.prog 59 #[.agg #[.int .u64 (Rep.hi x), .int .u64 (Rep.lo x)], .agg #[.int .u64 (Rep.hi y), .int .u64 (Rep.lo y)]] w fun e w' => e = .returned (.int .i64 (cmpI x y)) ∧ Below w.heap.size w w' := by
  refine (compare_any _ _ _ _ w).mono ?_
  rintro e w' ⟨rfl, hb⟩
  have h1 := Rep.hi_bd x
  have h2 := Rep.hi_bd y
  rw [wrap_sg _ h1.1 h1.2, wrap_sg _ h2.1 h2.2, orI_cmp x y hx0 hx1 hy0 hy1]
  exact ⟨rfl, hb⟩
end Go.Proofs.Ytphlkeoailapcaa
