/-
  What the statements of this seat need of the fractions: awake_any, tape_new, tape_small, row_of, IsRow, valid_any, less_is, ls_mk, sub_q, small_q, Q.of, q_self, valid_iff.
-/
import Derived.Test.YtajiheohkmjhnaaGreatDoorShelf
import Derived.Test.YtajiheohkmjhnaaGreatDoorMath
import Derived.Test.YtajiheohkmjhnaaGreatDoorMem
import Derived.Test.YtajiheohkmjhnaaGreatDoorNums
import Derived.Test.YtajiheohkmjhnaaGreatDoorTape
import Derived.WalkKit
import Derived.Below
import Derived.Laws.OwnMore
import Derived.Deep.Draws
import Derived.Laws.Rows
import Derived.Lib.Hide
import Derived.WalkLawsBesides
import Derived.WalkSpells
import Derived.BigQuiet
import Derived.Deep.QuietTactic
import Derived.Laws.Bits64
import Derived.Deep.LoopGhost
import Derived.Outline
import Derived.Shelf.Spec.BitsCarry
import Derived.Deep.RegionHeld3
import Derived.Laws.BitsAllLaws
import Derived.RegionTactic
import Derived.Deep.DeepCutAuto
import Derived.Deep.CutBlock
import Derived.Lib.ItoaNum
import Derived.LoopN
import Derived.BigRegion
import Derived.OpenShut
import Derived.Laws.StructEq
namespace Go.Proofs.YtajiheohkmjhnaaGreatDoor
set_option linter.unusedSimpArgs false
set_option linter.unusedVariables false
open Go.RowKit
theorem addLays : Lays7.n25 Tryz.prog ⟨fun | 25 => 43 | n => n, fun | 22 => 42 | n => n, fun | n => n⟩ := {
  mixed := by kernel_rfl
  f25 := Tryz.func43.trans (congrArg some (by kernel_rfl))
  t22 := Tryz.underlying42
  a22 := Tryz.isAgg42
  z22 := Tryz.sizeOf42
  v22 := Tryz.zeroValue42
  i22 := by kernel_rfl }
theorem add64 (x y c : Int) (x0 : 0 ≤ x) (y0 : 0 ≤ y) (c0 : 0 ≤ c) (c1 : c ≤ 1) (w : World) :
    (callFunc 43 #[.int .u64 x, .int .u64 y, .int .u64 c]).run Tryz.prog w = .ok (.value (.tuple #[.int .u64 (Rep.addLo x y c), .int .u64 (Rep.addHi x y c)])) w := by
  obtain ⟨x, rfl⟩ := Int.eq_ofNat_of_zero_le x0
  obtain ⟨y, rfl⟩ := Int.eq_ofNat_of_zero_le y0
  obtain ⟨c, rfl⟩ := Int.eq_ofNat_of_zero_le c0
  have h := Any7.bits_Add64 addLays x y c (by omega) w
  unfold Rep.addLo Rep.addHi
  simpa using h
theorem mul64 (x y : Int) (x0 : 0 ≤ x) (y0 : 0 ≤ y) (x1 : x < 18446744073709551616) (y1 : y < 18446744073709551616) (w : World) :
    Calls Tryz.prog 41 #[.int .u64 x, .int .u64 y] w fun e w' => e = .returned (.tuple #[.int .u64 (Rep.hi (x * y)), .int .u64 (Rep.lo (x * y))]) ∧ w = w' := by
  obtain ⟨x, rfl⟩ := Int.eq_ofNat_of_zero_le x0
  obtain ⟨y, rfl⟩ := Int.eq_ofNat_of_zero_le y0
  refine (Tryz.bits_Mul64 x y (by omega) (by omega) w).mono ?_
  rintro e w' ⟨rfl, rfl⟩
  rw [Rep.hi_nat x y (Rep.mul_lt_sq x y (by omega) (by omega)), Rep.lo_nat x y, Int.natCast_mul]
  exact ⟨rfl, rfl⟩
set_option maxHeartbeats 400000 in
theorem times_any (x y : Int) (x0 : 0 ≤ x) (y0 : 0 ≤ y) (x1 : x < 18446744073709551616) (y1 : y < 18446744073709551616) (w : World) :
    Calls Tryz.prog 20 #[.int .u64 x, .int .u64 y] w fun e w' => e = .returned (.agg #[.int .u64 (Rep.hi (x * y)), .int .u64 (Rep.lo (x * y))]) ∧ Below w.heap.size w w' := by
  go_enter Tryz.func20, Tryz.ntmps20
  go_wp2_with (go_at_call 41; refine (mul64 _ _ x0 y0 x1 y1 _).mono ?_; rintro e w' ⟨rfl, rfl⟩)
  refine bodyPost_ret (v := .agg #[.int .u64 (Rep.hi (x * y)), .int .u64 (Rep.lo (x * y))]) (by simp [results, Tryz.results20, go_sem]) rfl ⟨rfl, ?_⟩
  exact (Below.refl _ _).alloc (Nat.le_refl _) _
set_option maxHeartbeats 400000 in
theorem plus_any (a b c d : Int) (w : World) (a0 : 0 ≤ a) (b0 : 0 ≤ b) (c0 : 0 ≤ c) (d0 : 0 ≤ d) (a1 : a < 18446744073709551616) (b1 : b < 18446744073709551616) (c1 : c < 18446744073709551616) (d1 : d < 18446744073709551616) :
    Calls Tryz.prog 24 #[.agg #[.int .u64 a, .int .u64 b], .agg #[.int .u64 c, .int .u64 d]] w fun e w' => e = .returned (.agg #[.int .u64 (Rep.hi (Rep.val a b + Rep.val c d)), .int .u64 (Rep.lo (Rep.val a b + Rep.val c d))]) ∧ Below w.heap.size w w' := by
  have hc := Rep.addHi_bd b d 0 b0 d0 (by omega) b1 d1 (by omega)
  have k1 := fun w => add64 b d 0 b0 d0 (by omega) (by omega) w
  have k2 := fun w => add64 a c (Rep.addHi b d 0) a0 c0 hc.1 hc.2 w
  have HL := Lib.hid (Rep.sum_lo a b c d)
  have HH := Lib.hid (Rep.sum_hi a b c d b0 d0)
  clear hc a0 b0 c0 d0 a1 b1 c1 d1
  go_enter Tryz.func24, Tryz.ntmps24
  go_wp2
  refine bodyPost_ret (v := .agg #[.int .u64 (Rep.addLo a c (Rep.addHi b d 0)), .int .u64 (Rep.addLo b d 0)]) (by simp [results, Tryz.results24, go_sem]) rfl ⟨?_, ?_⟩
  · rw [HL.out, HH.out]
  · exact bAl (bAl (bAl (Below.refl _ _) _) _) _
theorem xor_ones (x : Nat) (h : x < 18446744073709551616) : 18446744073709551615 ^^^ x = 18446744073709551615 - x := by
  have e : (BitVec.allOnes 64 ^^^ BitVec.ofNat 64 x).toNat = (~~~(BitVec.ofNat 64 x)).toNat := by rw [BitVec.allOnes_xor]
  rw [BitVec.toNat_xor, BitVec.toNat_not, BitVec.toNat_allOnes, BitVec.toNat_ofNat, Nat.mod_eq_of_lt (by omega)] at e
  exact e
theorem flip_word (x : Int) (h0 : 0 ≤ x) (h1 : x < 18446744073709551616) : bits .xor .u64 IntKind.u64.max x = Rep.flip x := by
  obtain ⟨x, rfl⟩ := Int.eq_ofNat_of_zero_le h0
  have hm : IntKind.u64.max = ((18446744073709551615 : Nat) : Int) := by decide +kernel
  rw [hm, bits_xor_u64_nat _ x (by omega) (by omega), xor_ones x (by omega)]
  unfold Rep.flip
  omega
set_option maxHeartbeats 400000 in
theorem signed_no (a b : Int) (w : World) :
    Calls Tryz.prog 17 #[.agg #[.int .u64 a, .int .u64 b], .bool false] w fun e w' => e = .returned (.agg #[.int .u64 a, .int .u64 b]) ∧ Below w.heap.size w w' := by
  go_enter Tryz.func17, Tryz.ntmps17
  go_wp2
  refine bodyPost_ret (v := .agg #[.int .u64 a, .int .u64 b]) (by simp [results, Tryz.results17, go_sem]) rfl ⟨rfl, ?_⟩
  exact bAl (bAl (Below.refl _ _) _) _
set_option maxHeartbeats 400000 in
theorem signed_yes (a b : Int) (w : World) (a0 : 0 ≤ a) (b0 : 0 ≤ b) (a1 : a < 18446744073709551616) (b1 : b < 18446744073709551616) :
    Calls Tryz.prog 17 #[.agg #[.int .u64 a, .int .u64 b], .bool true] w fun e w' => e = .returned (.agg #[.int .u64 (Rep.hi (-(Rep.val a b))), .int .u64 (Rep.lo (-(Rep.val a b)))]) ∧ Below w.heap.size w w' := by
  have ka := flip_word a a0 a1
  have kb := flip_word b b0 b1
  have fa := Rep.flip_bd a a0 a1
  have fb := Rep.flip_bd b b0 b1
  have HH := Lib.hid (Rep.neg_hi' a b)
  have HL := Lib.hid (Rep.neg_lo' a b)
  clear a0 b0 a1 b1
  go_enter Tryz.func17, Tryz.ntmps17
  go_wp2_with fail
  refine (plus_any _ _ 0 1 _ fa.1 fb.1 (by omega) (by omega) fa.2 fb.2 (by omega) (by omega)).mono ?_
  rintro e w1 ⟨rfl, hb⟩
  obtain ⟨hc, hf⟩ := bcell hb
  have hz : w.heap.size + 1 < w1.heap.size := by have := hb.size; simp at this; omega
  go_wp2
  refine bodyPost_ret (v := .agg #[.int .u64 (Rep.hi (Rep.val (Rep.flip a) (Rep.flip b) + Rep.val 0 1)), .int .u64 (Rep.lo (Rep.val (Rep.flip a) (Rep.flip b) + Rep.val 0 1))]) (by simp [results, Tryz.results17, go_sem, hc, hz]) rfl ⟨?_, ?_⟩
  · rw [HH.out, HL.out]
  · exact bSt (bSt (bTr (bAl (bAl (Below.refl _ _) _) _) hb) (by simp) _) (by simp) _
theorem signed_any (s : Bool) (a b : Int) (w : World) (a0 : 0 ≤ a) (b0 : 0 ≤ b) (a1 : a < 18446744073709551616) (b1 : b < 18446744073709551616) :
    Calls Tryz.prog 17 #[.agg #[.int .u64 a, .int .u64 b], .bool s] w fun e w' => e = .returned (.agg #[.int .u64 (Rep.hi (Rep.sgn s (Rep.val a b))), .int .u64 (Rep.lo (Rep.sgn s (Rep.val a b)))]) ∧ Below w.heap.size w w' := by
  cases s
  · refine (signed_no a b w).mono ?_
    rintro e w' ⟨rfl, hb⟩
    refine ⟨?_, hb⟩
    show _ = Ending.returned (.agg #[.int .u64 (Rep.hi (Rep.val a b)), .int .u64 (Rep.lo (Rep.val a b))])
    rw [Rep.hi_val a b a0 a1 b0 b1, Rep.lo_val a b b0 b1]
  · exact signed_yes a b w a0 b0 a1 b1
set_option maxHeartbeats 400000 in
theorem product_any (a b : Int) (w : World) (a0 : -9223372036854775808 ≤ a) (b0 : -9223372036854775808 ≤ b) (a1 : a < 9223372036854775808) (b1 : b < 9223372036854775808) :
    Calls Tryz.prog 46 #[.int .i64 a, .int .i64 b] w fun e w' => e = .returned (.agg #[.int .u64 (Rep.hi (a * b)), .int .u64 (Rep.lo (a * b))]) ∧ Below w.heap.size w w' := by
  have hx : (0 : Int) ≤ (a.natAbs : Int) ∧ (a.natAbs : Int) < 18446744073709551616 := by omega
  have hy : (0 : Int) ≤ (b.natAbs : Int) ∧ (b.natAbs : Int) < 18446744073709551616 := by omega
  have hh := Rep.hi_bd ((a.natAbs : Int) * (b.natAbs : Int))
  have hl := Rep.lo_bd ((a.natAbs : Int) * (b.natAbs : Int))
  have HH := Lib.hid ((Rep.hi_congr_sgn (!decide (a < 0) == decide (b < 0)) ((a.natAbs : Int) * (b.natAbs : Int))).trans (by rw [Rep.sgn_prod]))
  have HL := Lib.hid ((Rep.lo_congr_sgn (!decide (a < 0) == decide (b < 0)) ((a.natAbs : Int) * (b.natAbs : Int))).trans (by rw [Rep.sgn_prod]))
  obtain ⟨x, hx'⟩ : ∃ x : Int, x = (a.natAbs : Int) := ⟨_, rfl⟩
  obtain ⟨y, hy'⟩ : ∃ y : Int, y = (b.natAbs : Int) := ⟨_, rfl⟩
  have HX := Lib.hid hx'
  have HY := Lib.hid hy'
  rw [← hx', ← hy'] at hh hl HH HL
  rw [← hx'] at hx
  rw [← hy'] at hy
  clear hx' hy'
  go_enter Tryz.func46, Tryz.ntmps46
  go_wp2_with fail
  refine (magnitude_any _ a0 a1 _).mono ?_
  rintro e w1 ⟨rfl, rfl⟩
  rw [← HX.out]
  go_wp2_with fail
  refine (magnitude_any _ b0 b1 _).mono ?_
  rintro e w1 ⟨rfl, rfl⟩
  rw [← HY.out]
  go_wp2_with fail
  refine (times_any _ _ hx.1 hy.1 hx.2 hy.2 _).mono ?_
  rintro e w1 ⟨rfl, hb⟩
  go_wp2_with fail
  refine (signed_any _ _ _ _ hh.1 hl.1 hh.2 hl.2).mono ?_
  rintro e w2 ⟨rfl, hb2⟩
  have hb3 := bTr hb hb2
  clear hb hb2
  obtain ⟨hc, hf⟩ := bcell hb3
  have hz : w.heap.size < w2.heap.size := by have := hb3.size; simp at this; omega
  rw [HH.out, HL.out]
  go_wp2
  refine bodyPost_ret (v := .agg #[.int .u64 (Rep.hi (a * b)), .int .u64 (Rep.lo (a * b))]) (by simp [results, Tryz.results46, go_sem, hc, hz]) rfl ⟨rfl, ?_⟩
  exact bSt (bSt (bTr (bAl (Below.refl _ _) _) hb3) (by simp) _) (by simp) _
set_option maxHeartbeats 400000 in
theorem negative_any (z : Int) (w : World) (z0 : -170141183460469231731687303715884105728 ≤ z) (z1 : z < 170141183460469231731687303715884105728) :
    Calls Tryz.prog 38 #[.agg #[.int .u64 (Rep.hi z), .int .u64 (Rep.lo z)]] w fun e w' => e = .returned (.bool (decide (z < 0))) ∧ Below w.heap.size w w' := by
  obtain ⟨h, hh⟩ : ∃ h, h = Rep.hi z := ⟨_, rfl⟩
  have hz' : decide (wrap64 h < 0) = decide (z < 0) := decide_eq_decide.2 (by have := Rep.negative z z0 z1; have := Rep.hi_bd z; rw [hh]; unfold wrap64; omega)
  have HZ := Lib.hid hz'
  rw [← hh]
  clear hh hz'
  go_enter Tryz.func38, Tryz.ntmps38
  go_wp2
  go_ret
  exact ⟨ret_bool HZ.out, bAl (Below.refl _ _) _⟩
set_option maxHeartbeats 400000 in
theorem fits_any (a b : Int) (w : World) (a0 : 0 ≤ a) (b0 : 0 ≤ b) :
    Calls Tryz.prog 40 #[.agg #[.int .u64 a, .int .u64 b]] w fun e w' => e = .returned (.bool (decide (Rep.val a b ≤ 1152921504606846976))) ∧ Below w.heap.size w w' := by
  by_cases ha : a = 0
  · subst ha
    have hz' : decide (b ≤ 1152921504606846976) = decide (Rep.val 0 b ≤ 1152921504606846976) := decide_eq_decide.2 (by unfold Rep.val; omega)
    have HZ := Lib.hid hz'
    clear hz'
    go_enter Tryz.func40, Tryz.ntmps40
    go_wp2
    go_ret
    exact ⟨ret_bool HZ.out, bAl (Below.refl _ _) _⟩
  · have hz' : false = decide (Rep.val a b ≤ 1152921504606846976) := (decide_eq_false (by unfold Rep.val; omega)).symm
    have HZ := Lib.hid hz'
    clear hz'
    have hn : (a == 0) = false := by rw [beq_eq_false_iff_ne]; exact ha
    go_enter Tryz.func40, Tryz.ntmps40
    go_wp2
    go_ret
    exact ⟨ret_bool HZ.out, bAl (Below.refl _ _) _⟩
def cmpI (x y : Int) : Int := if x < y then -1 else if x > y then 1 else 0
theorem cmp64 (x y : Int) (w : World) : Calls Tryz.prog 68 #[.int .i64 x, .int .i64 y] w fun e w' => e = .returned (.int .i64 (cmpI x y)) ∧ w = w' := by
  rcases Int.lt_trichotomy x y with h | h | h
  · have H := Lib.hid (show -1 = cmpI x y by unfold cmpI; rw [if_pos h])
    go_enter Tryz.func68, Tryz.ntmps68
    go_wp2
    go_ret
    exact ⟨ret_int H.out, rfl⟩
  · subst h
    have H := Lib.hid (show 0 = cmpI x x by unfold cmpI; rw [if_neg (by omega), if_neg (by omega)])
    go_enter Tryz.func68, Tryz.ntmps68
    go_wp2
    go_ret
    exact ⟨ret_int H.out, rfl⟩
  · have H := Lib.hid (show 1 = cmpI x y by unfold cmpI; rw [if_neg (by omega), if_pos (by omega)])
    have h' : ¬ x < y := by omega
    go_enter Tryz.func68, Tryz.ntmps68
    go_wp2
    go_ret
    exact ⟨ret_int H.out, rfl⟩
theorem cmpu64 (x y : Int) (w : World) : Calls Tryz.prog 69 #[.int .u64 x, .int .u64 y] w fun e w' => e = .returned (.int .i64 (cmpI x y)) ∧ w = w' := by
  rcases Int.lt_trichotomy x y with h | h | h
  · have H := Lib.hid (show -1 = cmpI x y by unfold cmpI; rw [if_pos h])
    go_enter Tryz.func69, Tryz.ntmps69
    go_wp2
    go_ret
    exact ⟨ret_int H.out, rfl⟩
  · subst h
    have H := Lib.hid (show 0 = cmpI x x by unfold cmpI; rw [if_neg (by omega), if_neg (by omega)])
    go_enter Tryz.func69, Tryz.ntmps69
    go_wp2
    go_ret
    exact ⟨ret_int H.out, rfl⟩
  · have H := Lib.hid (show 1 = cmpI x y by unfold cmpI; rw [if_neg (by omega), if_pos (by omega)])
    have h' : ¬ x < y := by omega
    go_enter Tryz.func69, Tryz.ntmps69
    go_wp2
    go_ret
    exact ⟨ret_int H.out, rfl⟩
def orI (x y : Int) : Int := if x = 0 then y else x
set_option maxHeartbeats 400000 in
theorem or2 (g cap : Nat) (x y : Int) (w : World) (hx : w.cell? ⟨g, 0, none⟩ = some (.int .i64 x)) (hy : w.cell? ⟨g, 1, none⟩ = some (.int .i64 y)) :
    Calls Tryz.prog 67 #[.slice (some ⟨g, 0, none⟩) 2 cap] w fun e w' => e = .returned (.int .i64 (orI x y)) ∧ w = w' := by
  go_enter Tryz.func67, Tryz.ntmps67
  go_wp2
  go_loop [8] (fun i => ∃ k : Nat, k ≤ 2 ∧ i = .int .i64 k ∧ Hid (1 ≤ k → x = 0) ∧ Hid (2 ≤ k → y = 0)) (fun i => 2 - (intOf i).toNat)
  case atStart => exact ⟨0, by omega, rfl, fun h => absurd h (by omega), fun h => absurd h (by omega)⟩
  case round =>
    obtain ⟨k, hk, rfl, H1, H2⟩ := hrel
    have hk3 : k = 0 ∨ k = 1 ∨ k = 2 := by omega
    rcases hk3 with rfl | rfl | rfl
    · by_cases h : x = 0
      · have HX := Lib.hid h
        have hn : (x != 0) = false := by rw [h]; rfl
        clear h
        go_wp2
        go_round
        case rel => exact ⟨1, by omega, rfl, fun _ => HX.out, fun h => absurd h (by omega)⟩
        case measure => simp [intOf]
      · have hn : (x != 0) = true := by rw [bne_iff_ne]; exact h
        go_wp2
        go_ret
        exact ⟨ret_int (by unfold orI; rw [if_neg h]), rfl⟩
    · by_cases h : y = 0
      · have HX := Lib.hid h
        have hn : (y != 0) = false := by rw [h]; rfl
        clear h
        go_wp2
        go_round
        case rel => exact ⟨2, by omega, rfl, fun _ => H1.out (by omega), fun _ => HX.out⟩
        case measure => simp [intOf]
      · have hn : (y != 0) = true := by rw [bne_iff_ne]; exact h
        go_wp2
        go_ret
        exact ⟨ret_int (by unfold orI; rw [if_pos (H1.out (by omega))]), rfl⟩
    · go_wp2
      go_ret
      exact ⟨ret_int (by unfold orI; rw [if_pos (H1.out (by omega)), H2.out (by omega)]), rfl⟩
set_option maxHeartbeats 400000 in
theorem compare_any (a b c d : Int) (w : World) :
    Calls Tryz.prog 47 #[.agg #[.int .u64 a, .int .u64 b], .agg #[.int .u64 c, .int .u64 d]] w fun e w' => e = .returned (.int .i64 (orI (cmpI (IntKind.i64.wrap a) (IntKind.i64.wrap c)) (cmpI b d))) ∧ Below w.heap.size w w' := by
  go_enter Tryz.func47, Tryz.ntmps47
  go_wp2_with fail
  go_region_held3 (fun w' => w'.cell? ⟨w.heap.size, 0, none⟩ = some (.int .u64 a) ∧ w'.cell? ⟨w.heap.size, 1, none⟩ = some (.int .u64 b) ∧ w'.cell? ⟨w.heap.size + 1, 0, none⟩ = some (.int .u64 c) ∧ w'.cell? ⟨w.heap.size + 1, 1, none⟩ = some (.int .u64 d)) (go_keep)
    (first | (go_at_call 68; refine (cmp64 _ _ _).mono ?_; rintro e w' ⟨rfl, rfl⟩) | (go_at_call 69; refine (cmpu64 _ _ _).mono ?_; rintro e w' ⟨rfl, rfl⟩) | (go_at_call 67; refine (or2 _ _ (cmpI (IntKind.i64.wrap a) (IntKind.i64.wrap c)) (cmpI b d) _ ?_ ?_).mono ?_; (simp [go_sem]); (simp [go_sem]); rintro e w' ⟨rfl, rfl⟩))
  go_wp2
  go_ret
  exact ⟨rfl, bD1 (bAl (bAl (bAl (Below.refl _ _) _) _) _)⟩
theorem wrap_sg (x : Int) (h0 : 0 ≤ x) (h1 : x < 18446744073709551616) : IntKind.i64.wrap x = Rep.sg x := by
  rw [IntKind.wrap_i64]; unfold Rep.sg; split <;> omega
theorem orI_cmp (x y : Int) (hx0 : -170141183460469231731687303715884105728 ≤ x) (hx1 : x < 170141183460469231731687303715884105728) (hy0 : -170141183460469231731687303715884105728 ≤ y) (hy1 : y < 170141183460469231731687303715884105728) :
    orI (cmpI (Rep.sg (Rep.hi x)) (Rep.sg (Rep.hi y))) (cmpI (Rep.lo x) (Rep.lo y)) = cmpI x y := by
  have a := Rep.cmp_lt x y hx0 hx1 hy0 hy1
  have b := Rep.cmp_lt y x hy0 hy1 hx0 hx1
  unfold orI cmpI
  omega
set_option maxHeartbeats 400000 in
theorem compare_val (x y : Int) (hx0 : -170141183460469231731687303715884105728 ≤ x) (hx1 : x < 170141183460469231731687303715884105728) (hy0 : -170141183460469231731687303715884105728 ≤ y) (hy1 : y < 170141183460469231731687303715884105728) (w : World) :
    Calls Tryz.prog 47 #[.agg #[.int .u64 (Rep.hi x), .int .u64 (Rep.lo x)], .agg #[.int .u64 (Rep.hi y), .int .u64 (Rep.lo y)]] w fun e w' => e = .returned (.int .i64 (cmpI x y)) ∧ Below w.heap.size w w' := by
  refine (compare_any _ _ _ _ w).mono ?_
  rintro e w' ⟨rfl, hb⟩
  have h1 := Rep.hi_bd x
  have h2 := Rep.hi_bd y
  rw [wrap_sg _ h1.1 h1.2, wrap_sg _ h2.1 h2.2, orI_cmp x y hx0 hx1 hy0 hy1]
  exact ⟨rfl, hb⟩
set_option maxRecDepth 100000 in
set_option maxHeartbeats 1000000 in
theorem div64_zero (l y : Int) (w : World) (l0 : 0 ≤ l) (l1 : l < 18446744073709551616) (y0 : 0 < y) (y1 : y < 18446744073709551616) :
    Calls Tryz.prog 42 #[.int .u64 0, .int .u64 l, .int .u64 y] w fun e w' => e = .returned (.tuple #[.int .u64 (l / y), .int .u64 (l % y)]) ∧ ∃ n, w' = w.drewN n := by
  have e1 : (y == 0) = false := by rw [beq_eq_false_iff_ne]; omega
  have e2 : ¬ y ≤ 0 := by omega
  go_enter Tryz.func42, Tryz.ntmps42
  go_wp2_with fail
  go_quiet (fail)
  go_wp2
  go_ret2
  exact ⟨rfl, _, rfl⟩
/-- what a run of the correcting loop leaves -/
def IsQuo (T v : Int) (s15 : Value) : Prop := s15 = .int .u64 (T / v)
set_option maxRecDepth 100000 in
set_option maxHeartbeats 4000000 in
theorem div64_core (h l y v yn1 yn0 U L un1 un0 q0 r0 : Int) (s : Nat) (w : World) (hh0 : 0 < h) (hh1 : h < y) (y1 : y < 18446744073709551616) (l0 : 0 ≤ l) (l1 : l < 18446744073709551616)
    (hs : Hid (64 - (Lib.bitLen y.toNat : Int) = (s : Int))) (s1 : (s : Int) < 64)
    (rv : IntKind.u64.wrap (y * 2 ^ s) = v) (rv1 : v / 4294967296 = yn1) (rv0 : bits .and .u64 v 4294967295 = yn0)
    (rU : bits .or .u64 (IntKind.u64.wrap (h * 2 ^ s)) (l / 2 ^ (64 - s)) = U) (rL : IntKind.u64.wrap (l * 2 ^ s) = L)
    (rL1 : L / 4294967296 = un1) (rL0 : bits .and .u64 L 4294967295 = un0) (rq : U / yn1 = q0) (rr : U - q0 * yn1 = r0)
    (EV : Hid (v = yn1 * 4294967296 + yn0)) (v0 : 0 < v) (v1 : v < 18446744073709551616) (yn1b : 2147483648 ≤ yn1) (yn1c : yn1 < 4294967296) (yn0a : 0 ≤ yn0) (yn0b : yn0 < 4294967296)
    (U0 : 0 ≤ U) (U1 : U < v) (L0 : 0 ≤ L) (L1 : L < 18446744073709551616) (un1a : 0 ≤ un1) (un1b : un1 < 4294967296) (un0a : 0 ≤ un0) (un0b : un0 < 4294967296)
    (q0a : 0 ≤ q0) (q0b : q0 ≤ 4294967297) (m0 : 0 ≤ q0 * yn1) (m1 : q0 * yn1 ≤ U) (r0a : 0 ≤ r0) (r0b : r0 < yn1) (ER : Hid (q0 * yn1 + r0 = U)) (EQ : Hid ((U * 4294967296 + un1) / v ≤ q0)) :
    Calls Tryz.prog 42 #[.int .u64 h, .int .u64 l, .int .u64 y] w fun e w' => e = .returned (.tuple #[.int .u64 ((U * 4294967296 + un1) / v * 4294967296 + ((U * 4294967296 + un1) % v * 4294967296 + un0) / v), .int .u64 (((U * 4294967296 + un1) % v * 4294967296 + un0) % v / 2 ^ s)]) ∧ w = w' := by
  have e1 : (y == 0) = false := by rw [beq_eq_false_iff_ne]; omega
  have e2 : ¬ y ≤ h := by omega
  have e3 : (h == 0) = false := by rw [beq_eq_false_iff_ne]; omega
  have yz : 0 < yn1 := by omega
  go_enter Tryz.func42, Tryz.ntmps42
  go_wp2_with fail
  refine (Tryz.bits_LeadingZeros64 _ _ (by omega) (by omega)).mono ?_
  rintro e w' ⟨rfl, hw⟩
  rw [hs.out, hw]
  clear hw
  go_upto_block 0 with (fail)
  go_cut [15, 16] (fun a b wc => IsQuo (U * 4294967296 + un1) v a ∧ w = wc)
  case first =>
    go_wp2_with fail
    go_loop [15, 16] (fun a b => ∃ q r : Int, a = .int .u64 q ∧ b = .int .u64 r ∧ 0 ≤ q ∧ q ≤ 4294967297 ∧ 0 ≤ r ∧ r < 4294967296 ∧ Hid (q * yn1 + r = U) ∧ Hid ((U * 4294967296 + un1) / v ≤ q)) (fun a _ => (intOf a).toNat)
    case atStart => exact ⟨q0, r0, by rw [rq], rfl, q0a, q0b, r0a, by omega, ER, EQ⟩
    case round =>
      obtain ⟨q, r, rfl, rfl, qa, qb, ra, rb, HR, HQ⟩ := hrel
      clear rv rv1 rv0 rU rL rL1 rL0 rq rr
      have more : Hid (1 ≤ q → (U * 4294967296 + un1) / v < q → (q - 1) * yn1 + (r + yn1) = U ∧ (U * 4294967296 + un1) / v ≤ q - 1) := fun _ h2 => ⟨by rw [Int.sub_mul]; have := HR.out; omega, by omega⟩
      have last : Hid ((U * 4294967296 + un1) / v < q → 4294967296 ≤ r + yn1 → (U * 4294967296 + un1) / v = q - 1) := fun h2 h3 => by
        have d0 : 0 ≤ (U * 4294967296 + un1) / v := Int.ediv_nonneg (by omega) (by omega)
        refine DivI.stop _ _ _ v0 (by omega) ?_
        rw [EV.out]
        exact DivI.stop_big 4294967296 yn1 yn0 U un1 (q - 1) (r + yn1) (by rw [Int.sub_mul]; have := HR.out; omega) yn0a yn0b (by omega) (by omega) un1a h3
      by_cases hb : 4294967296 ≤ q
      · have t1 : decide (4294967296 ≤ q) = true := decide_eq_true hb
        have h2 : Hid ((U * 4294967296 + un1) / v < q) := by
          have := DivI.quo_lt 4294967296 v U un1 v0 (by omega) un1b U1
          show _ < _
          omega
        by_cases hr : 4294967296 ≤ r + yn1
        · go_wp2_with fail
          go_meet
          exact ⟨by show _ = _; rw [last.out h2.out hr], rfl⟩
        · go_wp2_with fail
          go_round
          case rel => exact ⟨q - 1, r + yn1, rfl, rfl, by omega, by omega, by omega, by omega, (more.out (by omega) h2.out).1, (more.out (by omega) h2.out).2⟩
          case measure => simp [intOf]; omega
      · have t1 : decide (4294967296 ≤ q) = false := decide_eq_false hb
        have m2 : 0 ≤ q * yn0 := Int.mul_nonneg qa yn0a
        have m3 : q * yn0 ≤ 4294967295 * 4294967295 := by
          have a1 : q * yn0 ≤ 4294967295 * yn0 := Int.mul_le_mul_of_nonneg_right (by omega) yn0a
          omega
        have HK := Lib.hid (DivI.key 4294967296 yn1 yn0 U un1 q r HR.out)
        by_cases ht : 4294967296 * r + un1 < q * yn0
        · have q1 : 1 ≤ q := by
            by_cases h : q = 0
            · rw [h, Int.zero_mul] at ht
              omega
            · omega
          have h2 : Hid ((U * 4294967296 + un1) / v < q) := DivI.go_on _ _ _ v0 (by have := HK.out; rw [EV.out]; omega)
          clear HK
          by_cases hr : 4294967296 ≤ r + yn1
          · go_wp2_with fail
            go_meet
            exact ⟨by show _ = _; rw [last.out h2.out hr], rfl⟩
          · go_wp2_with fail
            go_round
            case rel => exact ⟨q - 1, r + yn1, rfl, rfl, by omega, by omega, by omega, by omega, (more.out (by omega) h2.out).1, (more.out (by omega) h2.out).2⟩
            case measure => simp [intOf]; omega
        · have h2 : Hid ((U * 4294967296 + un1) / v = q) := DivI.stop _ _ _ v0 HQ.out (by have := HK.out; rw [EV.out]; omega)
          clear HK
          go_wp2_with fail
          go_meet
          exact ⟨by show _ = _; rw [h2.out], rfl⟩
  case rest =>
    obtain ⟨HQ1, rfl⟩ := hcut
    unfold IsQuo at HQ1
    subst HQ1
    have Q1b := DivI.quo_lt 4294967296 v U un1 v0 (by omega) un1b U1
    have Q1a : 0 ≤ (U * 4294967296 + un1) / v := Int.ediv_nonneg (by omega) (by omega)
    have R1a := Int.emod_nonneg (U * 4294967296 + un1) (by omega : v ≠ 0)
    have R1b := Int.emod_lt_of_pos (U * 4294967296 + un1) v0
    have HW := Lib.hid (DivI.rest_wrap 18446744073709551616 (U * 4294967296 + un1) _ v U (by omega) v0 (by omega) rfl)
    generalize hQ1 : (U * 4294967296 + un1) / v = Q1 at *
    generalize hR1 : (U * 4294967296 + un1) % v = R1 at *
    have HQ1 := Lib.hid hQ1
    have HR1 := Lib.hid hR1
    clear hQ1 hR1 rq rr m0 m1
    have r93 : IntKind.u64.wrap (IntKind.u64.wrap (IntKind.u64.wrap (U * 4294967296) + un1) - IntKind.u64.wrap (Q1 * v)) = R1 := by
      have := HW.out
      simp only [IntKind.wrap_u64]
      omega
    obtain ⟨q2, rq⟩ : ∃ q2, R1 / yn1 = q2 := ⟨_, rfl⟩
    obtain ⟨r2, rr⟩ : ∃ r2, R1 - q2 * yn1 = r2 := ⟨_, rfl⟩
    have d1 := Int.mul_ediv_add_emod R1 yn1
    have r2a := Int.emod_nonneg R1 (by omega : yn1 ≠ 0)
    have r2b := Int.emod_lt_of_pos R1 yz
    rw [rq, Int.mul_comm yn1 q2] at d1
    have r2e : R1 % yn1 = r2 := by omega
    rw [r2e] at r2a r2b
    have q2a : 0 ≤ q2 := by rw [← rq]; exact Int.ediv_nonneg R1a (by omega)
    have q2y : 0 ≤ q2 * yn1 := Int.mul_nonneg q2a (by omega)
    have ER2 : Hid (q2 * yn1 + r2 = R1) := by show _ = _; omega
    have q2b : q2 ≤ 4294967297 := DivI.qhat_le 4294967296 yn1 yn0 R1 q2 r2 ER2.out r2a (by omega) yz yn0b (by have := EV.out; omega)
    have EQ2 : Hid ((R1 * 4294967296 + un0) / v ≤ q2) := by
      show _ ≤ _
      rw [EV.out]
      exact DivI.quo_le 4294967296 yn1 yn0 R1 un0 q2 r2 ER2.out r2b (by omega) un0b yz yn0a q2a
    have m1 : q2 * yn1 ≤ R1 := by omega
    clear d1 r2e
    go_upto_block 2 with (fail)
    go_cut [18, 16] (fun a b wc => IsQuo (R1 * 4294967296 + un0) v a ∧ w = wc)
    case first =>
      go_wp2_with fail
      go_loop [18, 16] (fun a b => ∃ q r : Int, a = .int .u64 q ∧ b = .int .u64 r ∧ 0 ≤ q ∧ q ≤ 4294967297 ∧ 0 ≤ r ∧ r < 4294967296 ∧ Hid (q * yn1 + r = R1) ∧ Hid ((R1 * 4294967296 + un0) / v ≤ q)) (fun a _ => (intOf a).toNat)
      case atStart => exact ⟨q2, r2, by rw [rq], rfl, q2a, q2b, r2a, by omega, ER2, EQ2⟩
      case round =>
        obtain ⟨q, r, rfl, rfl, qa, qb, ra, rb, HR, HQ⟩ := hrel
        clear rv rv1 rv0 rU rL rL1 rL0 rq rr r93
        have more : Hid (1 ≤ q → (R1 * 4294967296 + un0) / v < q → (q - 1) * yn1 + (r + yn1) = R1 ∧ (R1 * 4294967296 + un0) / v ≤ q - 1) := fun _ h2 => ⟨by rw [Int.sub_mul]; have := HR.out; omega, by omega⟩
        have last : Hid ((R1 * 4294967296 + un0) / v < q → 4294967296 ≤ r + yn1 → (R1 * 4294967296 + un0) / v = q - 1) := fun h2 h3 => by
          have d0 : 0 ≤ (R1 * 4294967296 + un0) / v := Int.ediv_nonneg (by omega) (by omega)
          refine DivI.stop _ _ _ v0 (by omega) ?_
          rw [EV.out]
          exact DivI.stop_big 4294967296 yn1 yn0 R1 un0 (q - 1) (r + yn1) (by rw [Int.sub_mul]; have := HR.out; omega) yn0a yn0b (by omega) (by omega) un0a h3
        by_cases hb : 4294967296 ≤ q
        · have t1 : decide (4294967296 ≤ q) = true := decide_eq_true hb
          have h2 : Hid ((R1 * 4294967296 + un0) / v < q) := by
            have := DivI.quo_lt 4294967296 v R1 un0 v0 (by omega) un0b R1b
            show _ < _
            omega
          by_cases hr : 4294967296 ≤ r + yn1
          · go_wp2_with fail
            go_meet
            exact ⟨by show _ = _; rw [last.out h2.out hr], rfl⟩
          · go_wp2_with fail
            go_round
            case rel => exact ⟨q - 1, r + yn1, rfl, rfl, by omega, by omega, by omega, by omega, (more.out (by omega) h2.out).1, (more.out (by omega) h2.out).2⟩
            case measure => simp [intOf]; omega
        · have t1 : decide (4294967296 ≤ q) = false := decide_eq_false hb
          have m2 : 0 ≤ q * yn0 := Int.mul_nonneg qa yn0a
          have m3 : q * yn0 ≤ 4294967295 * 4294967295 := by
            have a1 : q * yn0 ≤ 4294967295 * yn0 := Int.mul_le_mul_of_nonneg_right (by omega) yn0a
            omega
          have HK := Lib.hid (DivI.key 4294967296 yn1 yn0 R1 un0 q r HR.out)
          by_cases ht : 4294967296 * r + un0 < q * yn0
          · have q1 : 1 ≤ q := by
              by_cases h : q = 0
              · rw [h, Int.zero_mul] at ht
                omega
              · omega
            have h2 : Hid ((R1 * 4294967296 + un0) / v < q) := DivI.go_on _ _ _ v0 (by have := HK.out; rw [EV.out]; omega)
            clear HK
            by_cases hr : 4294967296 ≤ r + yn1
            · go_wp2_with fail
              go_meet
              exact ⟨by show _ = _; rw [last.out h2.out hr], rfl⟩
            · go_wp2_with fail
              go_round
              case rel => exact ⟨q - 1, r + yn1, rfl, rfl, by omega, by omega, by omega, by omega, (more.out (by omega) h2.out).1, (more.out (by omega) h2.out).2⟩
              case measure => simp [intOf]; omega
          · have h2 : Hid ((R1 * 4294967296 + un0) / v = q) := DivI.stop _ _ _ v0 HQ.out (by have := HK.out; rw [EV.out]; omega)
            clear HK
            go_wp2_with fail
            go_meet
            exact ⟨by show _ = _; rw [h2.out], rfl⟩
    case rest =>
      obtain ⟨HQ2, rfl⟩ := hcut
      unfold IsQuo at HQ2
      subst HQ2
      have Q2b := DivI.quo_lt 4294967296 v R1 un0 v0 (by omega) un0b R1b
      have Q2a : 0 ≤ (R1 * 4294967296 + un0) / v := Int.ediv_nonneg (by omega) (by omega)
      have R2a := Int.emod_nonneg (R1 * 4294967296 + un0) (by omega : v ≠ 0)
      have R2b := Int.emod_lt_of_pos (R1 * 4294967296 + un0) v0
      have HW2 := Lib.hid (DivI.rest_wrap 18446744073709551616 (R1 * 4294967296 + un0) _ v R1 (by omega) v0 (by omega) rfl)
      generalize hQ2 : (R1 * 4294967296 + un0) / v = Q2 at *
      generalize hR2 : (R1 * 4294967296 + un0) % v = R2 at *
      have HQ2 := Lib.hid hQ2
      have HR2 := Lib.hid hR2
      clear hQ2 hR2 rq rr m1 r93
      have r132 : IntKind.u64.wrap (IntKind.u64.wrap (IntKind.u64.wrap (R1 * 4294967296) + un0) - IntKind.u64.wrap (Q2 * v)) = R2 := by
        have := HW2.out
        simp only [IntKind.wrap_u64]
        omega
      go_wp2
      go_ret2
      exact ⟨by rw [HQ1.out, HR1.out, HQ2.out, HR2.out]; rfl, rfl⟩
theorem shl_join (h l : Int) (s : Nat) (h0 : 0 ≤ h) (l0 : 0 ≤ l) (l1 : l < 18446744073709551616) (hs : s < 64) (hb : h * 2 ^ s < 18446744073709551616) :
    bits .or .u64 (IntKind.u64.wrap (h * 2 ^ s)) (l / 2 ^ (64 - s)) = h * 2 ^ s + l / 2 ^ (64 - s) := by
  have p0 := DivW.pos_pow s
  have q0 := DivW.pos_pow (64 - s)
  have hl := DivW.lt_q l _ _ p0 q0 (DivW.pow_split s (by omega)) l1
  have hp0 : 0 ≤ h * 2 ^ s := Int.mul_nonneg h0 (by omega)
  have hl0 : 0 ≤ l / 2 ^ (64 - s) := Int.ediv_nonneg l0 (by omega)
  have pb : (2 : Int) ^ s ≤ 2 ^ 63 := by
    have : (2 : Nat) ^ s ≤ 2 ^ 63 := Nat.pow_le_pow_right (by omega) (by omega)
    exact_mod_cast this
  rw [IntKind.wrap_u64, Int.emod_eq_of_lt hp0 hb, u64_or _ _ hp0 hb hl0 (by omega), nat_join s _ _ ?_ ?_]
  · omega
  · obtain ⟨h, rfl⟩ := Int.eq_ofNat_of_zero_le h0
    have e : ((h : Int) * 2 ^ s).toNat = h * 2 ^ s := by
      have : ((h : Int) * 2 ^ s) = ((h * 2 ^ s : Nat) : Int) := by simp
      rw [this]; omega
    rw [e, Nat.mul_mod_left]
  · have : ((2 ^ s : Nat) : Int) = (2 : Int) ^ s := by simp
    omega
theorem mask32 (x : Int) (h0 : 0 ≤ x) (h1 : x < 18446744073709551616) : bits .and .u64 x 4294967295 = x % 4294967296 := by
  obtain ⟨x, rfl⟩ := Int.eq_ofNat_of_zero_le h0
  rw [Mul64.maskN x (by omega), Int.natCast_emod]
  rfl
theorem div64_pos (h l y : Int) (w : World) (h0 : 0 < h) (h1 : h < y) (l0 : 0 ≤ l) (l1 : l < 18446744073709551616) (y1 : y < 18446744073709551616) :
    Calls Tryz.prog 42 #[.int .u64 h, .int .u64 l, .int .u64 y] w fun e w' => e = .returned (.tuple #[.int .u64 (Rep.val h l / y), .int .u64 (Rep.val h l % y)]) ∧ w = w' := by
  obtain ⟨k1, k2, k3⟩ := Lib.bitLenAux_bounds 64 y.toNat (by omega) (by omega)
  have hk : Lib.bitLenAux 64 y.toNat = Lib.bitLen y.toNat := rfl
  rw [hk] at k1 k2 k3
  have kl := Any.bitLen_le64 y (by omega) (by omega)
  obtain ⟨s, hs⟩ : ∃ s, 64 - Lib.bitLen y.toNat = s := ⟨_, rfl⟩
  have s1 : s < 64 := by omega
  have p0 := DivW.pos_pow s
  have q0 := DivW.pos_pow (64 - s)
  have hpq := DivW.pow_split s (by omega)
  have yn : ((y.toNat : Nat) : Int) = y := by omega
  have vlo : 9223372036854775808 ≤ y * 2 ^ s := by
    have a : 2 ^ (Lib.bitLen y.toNat - 1) * 2 ^ s ≤ y.toNat * 2 ^ s := Nat.mul_le_mul_right _ k2
    rw [← Nat.pow_add, show Lib.bitLen y.toNat - 1 + s = 63 by omega] at a
    have b : ((y.toNat * 2 ^ s : Nat) : Int) = y * 2 ^ s := by rw [Int.natCast_mul, yn]; simp
    omega
  have vhi : y * 2 ^ s < 18446744073709551616 := by
    have a : y.toNat * 2 ^ s < 2 ^ Lib.bitLen y.toNat * 2 ^ s := Nat.mul_lt_mul_of_pos_right k3 (Nat.pow_pos (by omega))
    rw [← Nat.pow_add, show Lib.bitLen y.toNat + s = 64 by omega] at a
    have b : ((y.toNat * 2 ^ s : Nat) : Int) = y * 2 ^ s := by rw [Int.natCast_mul, yn]; simp
    omega
  have hhi : h * 2 ^ s < 18446744073709551616 := Int.lt_trans (Int.mul_lt_mul_of_pos_right h1 p0) vhi
  have hj := shl_join h l s (by omega) l0 l1 s1 hhi
  have hsh := DivW.shifted h l _ _ p0 q0 hpq l0
  have hlq := DivW.lt_q l _ _ p0 q0 hpq l1
  have hl0 : 0 ≤ l / 2 ^ (64 - s) := Int.ediv_nonneg l0 (by omega)
  have hp0 : 0 ≤ h * 2 ^ s := Int.mul_nonneg (by omega) (by omega)
  obtain ⟨U, hU⟩ : ∃ U, h * 2 ^ s + l / 2 ^ (64 - s) = U := ⟨_, rfl⟩
  obtain ⟨L, hL⟩ : ∃ L, (l * 2 ^ s) % 18446744073709551616 = L := ⟨_, rfl⟩
  obtain ⟨v, hv⟩ : ∃ v, y * 2 ^ s = v := ⟨_, rfl⟩
  have L0 : 0 ≤ L := by omega
  have L1 : L < 18446744073709551616 := by omega
  rw [hU, hL] at hsh
  have U1 := DivW.u_lt h l y _ U L p0 h1 l1 L0 hsh
  rw [hv] at vlo vhi U1
  have U0 : 0 ≤ U := by omega
  obtain ⟨yn1, hy1⟩ : ∃ x, v / 4294967296 = x := ⟨_, rfl⟩
  obtain ⟨yn0, hy0⟩ : ∃ x, v % 4294967296 = x := ⟨_, rfl⟩
  obtain ⟨un1, hu1⟩ : ∃ x, L / 4294967296 = x := ⟨_, rfl⟩
  obtain ⟨un0, hu0⟩ : ∃ x, L % 4294967296 = x := ⟨_, rfl⟩
  have yz : 0 < yn1 := by omega
  obtain ⟨q, hq⟩ : ∃ q, U / yn1 = q := ⟨_, rfl⟩
  have d1 := Int.mul_ediv_add_emod U yn1
  have ra := Int.emod_nonneg U (by omega : yn1 ≠ 0)
  have rb := Int.emod_lt_of_pos U yz
  rw [hq, Int.mul_comm yn1 q] at d1
  have qa : 0 ≤ q := by rw [← hq]; exact Int.ediv_nonneg U0 (by omega)
  have qy : 0 ≤ q * yn1 := Int.mul_nonneg qa (by omega)
  obtain ⟨r, hr⟩ : ∃ r, U - q * yn1 = r := ⟨_, rfl⟩
  have r2e : U % yn1 = r := by omega
  rw [r2e] at ra rb
  have EV : v = yn1 * 4294967296 + yn0 := by omega
  have ER : q * yn1 + r = U := by omega
  have EQ : (U * 4294967296 + un1) / v ≤ q := by rw [EV]; exact DivI.quo_le 4294967296 yn1 yn0 U un1 q r ER rb (by omega) (by omega) yz (by omega) qa
  have qb : q ≤ 4294967297 := DivI.qhat_le 4294967296 yn1 yn0 U q r ER ra (by omega) yz (by omega) (by omega)
  refine (div64_core h l y v yn1 yn0 U L un1 un0 q r s w h0 h1 y1 l0 l1 (by show _ = _; omega) (by omega) (by rw [hv, IntKind.wrap_u64]; omega) hy1 (by rw [mask32 v (by omega) vhi]; exact hy0)
    (by rw [hj]; exact hU) (by rw [IntKind.wrap_u64]; exact hL) hu1 (by rw [mask32 L L0 L1]; exact hu0) hq hr EV (by omega) vhi (by omega) (by omega) (by omega) (by omega) U0 U1 L0 L1 (by omega) (by omega) (by omega) (by omega)
    qa qb qy (by omega) ra rb ER EQ).mono ?_
  rintro e w' ⟨rfl, hw⟩
  have t := DivI.two_steps 4294967296 v U un1 un0 (by omega)
  have hN : (U * 4294967296 + un1) * 4294967296 + un0 = Rep.val h l * 2 ^ s := by
    unfold Rep.val
    rw [← hsh]; omega
  rw [hN, ← hv, DivI.unshift_quo _ _ _ p0] at t
  have t2 : (((U * 4294967296 + un1) % (y * 2 ^ s) * 4294967296 + un0) % (y * 2 ^ s)) / 2 ^ s = Rep.val h l % y := by
    rw [← t.2, DivI.unshift_rem _ _ _ p0]
  rw [← hv, ← t.1, t2]
  exact ⟨rfl, hw⟩
/-- math/bits.Div64 -/
theorem div64_any (h l y : Int) (w : World) (h0 : 0 ≤ h) (h1 : h < y) (l0 : 0 ≤ l) (l1 : l < 18446744073709551616) (y1 : y < 18446744073709551616) :
    Calls Tryz.prog 42 #[.int .u64 h, .int .u64 l, .int .u64 y] w fun e w' => e = .returned (.tuple #[.int .u64 (Rep.val h l / y), .int .u64 (Rep.val h l % y)]) ∧ ∃ n, w' = w.drewN n := by
  by_cases hz : h = 0
  · subst hz
    have e : Rep.val 0 l = l := by unfold Rep.val; omega
    rw [e]
    exact div64_zero l y w l0 l1 h1 y1
  · refine (div64_pos h l y w (by omega) h1 l0 l1 y1).mono ?_
    rintro e w' ⟨rfl, rfl⟩
    exact ⟨rfl, 0, rfl⟩
theorem valid_no (n d : Int) (h : d < 1 ∨ 1152921504606846976 < d ∨ n < -1152921504606846976 ∨ 1152921504606846976 < n) : false = Frac.valid n d := by
  unfold Frac.valid
  rcases h with h | h | h | h
  · rw [decide_eq_false (show ¬ 1 ≤ d by omega)]; rfl
  · rw [decide_eq_false (show ¬ d ≤ 1152921504606846976 by omega)]; simp
  · rw [decide_eq_false (show ¬ -1152921504606846976 ≤ n by omega)]; simp
  · rw [decide_eq_false (show ¬ n ≤ 1152921504606846976 by omega)]; simp
theorem valid_yes (n d : Int) (h1 : 1 ≤ d) (h2 : d ≤ 1152921504606846976) (h3 : -1152921504606846976 ≤ n) (h4 : n ≤ 1152921504606846976) : (((Nat.gcd n.natAbs d.natAbs : Nat) : Int) == 1) = Frac.valid n d := by
  unfold Frac.valid
  rw [decide_eq_true h1, decide_eq_true h2, decide_eq_true h3, decide_eq_true h4, Bool.eq_iff_iff]
  simp only [beq_iff_eq, Bool.true_and]
  omega
set_option maxHeartbeats 1000000 in
theorem valid_any (n d : Int) (n0 : -9223372036854775808 ≤ n) (n1 : n < 9223372036854775808) (d0 : -9223372036854775808 ≤ d) (d1 : d < 9223372036854775808) (w : World) :
    Calls Tryz.prog 18 #[.agg #[.int .i64 n, .int .i64 d]] w fun e w' => e = .returned (.bool (Frac.valid n d)) ∧ Below w.heap.size w w' := by
  by_cases h1 : d < 1
  · have H := Lib.hid (valid_no n d (.inl h1))
    go_enter Tryz.func18, Tryz.ntmps18
    go_wp2
    go_ret
    exact ⟨ret_bool H.out, bAl (Below.refl _ _) _⟩
  by_cases h2 : 1152921504606846976 < d
  · have H := Lib.hid (valid_no n d (.inr (.inl h2)))
    go_enter Tryz.func18, Tryz.ntmps18
    go_wp2
    go_ret
    exact ⟨ret_bool H.out, bAl (Below.refl _ _) _⟩
  by_cases h3 : n < -1152921504606846976
  · have H := Lib.hid (valid_no n d (.inr (.inr (.inl h3))))
    go_enter Tryz.func18, Tryz.ntmps18
    go_wp2
    go_ret
    exact ⟨ret_bool H.out, bAl (Below.refl _ _) _⟩
  by_cases h4 : 1152921504606846976 < n
  · have H := Lib.hid (valid_no n d (.inr (.inr (.inr h4))))
    go_enter Tryz.func18, Tryz.ntmps18
    go_wp2
    go_ret
    exact ⟨ret_bool H.out, bAl (Below.refl _ _) _⟩
  have H := Lib.hid (valid_yes n d (by omega) (by omega) (by omega) (by omega))
  go_enter Tryz.func18, Tryz.ntmps18
  go_wp2_with fail
  go_quiet ((first | (go_at_call 21; exact qSame (magnitude_any _ (by omega) (by omega) _)) | (go_at_call 39; exact Calls.quiet_of (gcd_any _ _ (by omega) (by omega) _))))
  go_wp2
  go_ret
  exact ⟨ret_bool H.out, bDr (bAl (Below.refl _ _) _) _⟩
/-- what Compare answers -/
def cmpR (a b c d : Int) : Int := if Frac.valid a b = true ∧ Frac.valid c d = true then cmpI (a * d) (c * b) else 0
theorem cmpR_no1 (a b c d : Int) (h : Frac.valid a b = false) : 0 = cmpR a b c d := by unfold cmpR; rw [if_neg (by rw [h]; simp)]
theorem cmpR_no2 (a b c d : Int) (h : Frac.valid c d = false) : 0 = cmpR a b c d := by unfold cmpR; rw [if_neg (by rw [h]; simp)]
theorem cmpR_yes (a b c d : Int) (h : Frac.valid a b = true) (h' : Frac.valid c d = true) : cmpI (a * d) (c * b) = cmpR a b c d := by unfold cmpR; rw [if_pos ⟨h, h'⟩]
theorem mul_bd (a b : Int) (a0 : -9223372036854775808 ≤ a) (a1 : a < 9223372036854775808) (b0 : -9223372036854775808 ≤ b) (b1 : b < 9223372036854775808) :
    -170141183460469231731687303715884105728 ≤ a * b ∧ a * b ≤ 85070591730234615865843651857942052864 := by
  have h : a.natAbs * b.natAbs ≤ 9223372036854775808 * 9223372036854775808 := Nat.mul_le_mul (by omega) (by omega)
  rw [← Int.natAbs_mul] at h
  omega
set_option maxHeartbeats 2000000 in
theorem ratio_compare (a b c d : Int) (a0 : -9223372036854775808 ≤ a) (a1 : a < 9223372036854775808) (b0 : -9223372036854775808 ≤ b) (b1 : b < 9223372036854775808)
    (c0 : -9223372036854775808 ≤ c) (c1 : c < 9223372036854775808) (d0 : -9223372036854775808 ≤ d) (d1 : d < 9223372036854775808) (w : World) :
    Calls Tryz.prog 28 #[.agg #[.int .i64 a, .int .i64 b], .agg #[.int .i64 c, .int .i64 d]] w fun e w' => e = .returned (.int .i64 (cmpR a b c d)) ∧ Below w.heap.size w w' := by
  cases hv : Frac.valid a b
  · have H := Lib.hid (cmpR_no1 a b c d hv)
    go_enter Tryz.func28, Tryz.ntmps28
    go_wp2_with fail
    refine (valid_any _ _ a0 a1 b0 b1 _).mono ?_
    rintro e w1 ⟨rfl, hb⟩
    go_wp2
    go_ret
    exact ⟨ret_int H.out, bTr (bAl (bAl (Below.refl _ _) _) _) hb⟩
  cases hv2 : Frac.valid c d
  · have H := Lib.hid (cmpR_no2 a b c d hv2)
    go_enter Tryz.func28, Tryz.ntmps28
    go_wp2_with fail
    refine (valid_any _ _ a0 a1 b0 b1 _).mono ?_
    rintro e w1 ⟨rfl, hb⟩
    obtain ⟨hc, hf⟩ := bcell hb
    have hz : w.heap.size + 1 < w1.heap.size := by have := hb.size; simp at this; omega
    go_wp2_with fail
    refine (valid_any _ _ c0 c1 d0 d1 _).mono ?_
    rintro e w2 ⟨rfl, hb2⟩
    go_wp2
    go_ret
    exact ⟨ret_int H.out, bTr (bTr (bAl (bAl (Below.refl _ _) _) _) hb) hb2⟩
  have H := Lib.hid (cmpR_yes a b c d hv hv2)
  have m1 := mul_bd a d a0 a1 d0 d1
  have m2 := mul_bd c b c0 c1 b0 b1
  go_enter Tryz.func28, Tryz.ntmps28
  go_wp2_with fail
  refine (valid_any _ _ a0 a1 b0 b1 _).mono ?_
  rintro e w1 ⟨rfl, hb⟩
  obtain ⟨hc, hf⟩ := bcell hb
  have hz : w.heap.size + 1 < w1.heap.size := by have := hb.size; simp at this; omega
  go_wp2_with fail
  refine (valid_any _ _ c0 c1 d0 d1 _).mono ?_
  rintro e w2 ⟨rfl, hb2⟩
  have hb3 := bTr hb hb2
  clear hb hb2 hc hf hz
  obtain ⟨hc, hf⟩ := bcell hb3
  have hz : w.heap.size + 1 < w2.heap.size := by have := hb3.size; simp at this; omega
  have e1 : w2.cell? ⟨w.heap.size, 0, none⟩ = some (.int .i64 a) := by rw [hc _ _ (by simp; omega)]; simp [go_sem]
  have e2 : w2.cell? ⟨w.heap.size, 1, none⟩ = some (.int .i64 b) := by rw [hc _ _ (by simp; omega)]; simp [go_sem]
  have e3 : w2.cell? ⟨w.heap.size + 1, 0, none⟩ = some (.int .i64 c) := by rw [hc _ _ (by simp)]; simp [go_sem]
  have e4 : w2.cell? ⟨w.heap.size + 1, 1, none⟩ = some (.int .i64 d) := by rw [hc _ _ (by simp)]; simp [go_sem]
  have HB := Lib.hid (bTr (bAl (bAl (Below.refl _ _) _) _) hb3)
  clear hc hf hb3
  go_wp2_with fail
  go_region_held3 (fun w' => w'.cell? ⟨w.heap.size, 0, none⟩ = some (.int .i64 a) ∧ w'.cell? ⟨w.heap.size, 1, none⟩ = some (.int .i64 b) ∧ w'.cell? ⟨w.heap.size + 1, 0, none⟩ = some (.int .i64 c) ∧ w'.cell? ⟨w.heap.size + 1, 1, none⟩ = some (.int .i64 d)) (first | go_keep | (go_split_ands; refine ⟨?_, ?_, ?_, ?_⟩ <;> (rw [hb.cell (by simp; omega)]; assumption)))
    (first | (go_at_call 46; refine (product_any _ _ _ ?_ ?_ ?_ ?_).mono ?_; (first | assumption); (first | assumption); (first | assumption); (first | assumption); rintro e w' ⟨rfl, hb⟩; have hz := Nat.lt_of_lt_of_le hz hb.size; have HB := Lib.hid (bTr (by first | exact HB.out | exact bD1 HB.out) hb)) | (go_at_call 47; refine (compare_val _ _ ?_ ?_ ?_ ?_ _).mono ?_; (exact m1.1); (omega); (exact m2.1); (omega); rintro e w' ⟨rfl, hb⟩; have HB := Lib.hid (bTr (by first | exact HB.out | exact bD1 HB.out) hb)))
  go_wp2
  go_ret
  exact ⟨ret_int H.out, HB.out⟩
set_option maxHeartbeats 400000 in
theorem ratio_less (a b c d : Int) (a0 : -9223372036854775808 ≤ a) (a1 : a < 9223372036854775808) (b0 : -9223372036854775808 ≤ b) (b1 : b < 9223372036854775808)
    (c0 : -9223372036854775808 ≤ c) (c1 : c < 9223372036854775808) (d0 : -9223372036854775808 ≤ d) (d1 : d < 9223372036854775808) (w : World) :
    Calls Tryz.prog 10 #[.agg #[.int .i64 a, .int .i64 b], .agg #[.int .i64 c, .int .i64 d]] w fun e w' => e = .returned (.bool (decide (cmpR a b c d < 0))) ∧ Below w.heap.size w w' := by
  go_enter Tryz.func10, Tryz.ntmps10
  go_wp2_with fail
  refine (ratio_compare _ _ _ _ a0 a1 b0 b1 c0 c1 d0 d1 _).mono ?_
  rintro e w1 ⟨rfl, hb⟩
  go_wp2
  go_ret
  exact ⟨rfl, bTr (bAl (bAl (Below.refl _ _) _) _) hb⟩
theorem divided_hi (a b y : Int) (y0 : 0 < y) (b0 : 0 ≤ b) (b1 : b < 18446744073709551616) (a0 : 0 ≤ a) (a1 : a < 18446744073709551616) :
    a / y = Rep.hi (Rep.val a b / y) ∧ Rep.val (a % y) b / y = Rep.lo (Rep.val a b / y) ∧ Rep.val (a % y) b % y = Rep.val a b % y := by
  obtain ⟨h1, h2, h3, h4⟩ := DivV.split_ 18446744073709551616 a b y (by omega) y0 b0 b1 a0
  have q0 : 0 ≤ a / y := Int.ediv_nonneg a0 (by omega)
  have q1 : a / y < 18446744073709551616 := Int.lt_of_le_of_lt (Int.ediv_le_self y a0) a1
  obtain ⟨k1, k2⟩ := DivV.hi_lo (a / y) _ q0 q1 h4 h3
  unfold Rep.val Rep.hi Rep.lo
  rw [h1, k1, k2, h2]
  exact ⟨rfl, rfl, rfl⟩
set_option maxHeartbeats 1000000 in
theorem divided_any (a b y : Int) (w : World) (a0 : 0 ≤ a) (b0 : 0 ≤ b) (y0 : 0 < y) (a1 : a < 18446744073709551616) (b1 : b < 18446744073709551616) (y1 : y < 18446744073709551616) :
    Calls Tryz.prog 22 #[.agg #[.int .u64 a, .int .u64 b], .int .u64 y] w fun e w' => e = .returned (.tuple #[.agg #[.int .u64 (Rep.hi (Rep.val a b / y)), .int .u64 (Rep.lo (Rep.val a b / y))], .int .u64 (Rep.val a b % y)]) ∧ Below w.heap.size w w' := by
  obtain ⟨g1, g2, g3⟩ := divided_hi a b y y0 b0 b1 a0 a1
  have H1 := Lib.hid g1
  have H2 := Lib.hid g2
  have H3 := Lib.hid g3
  clear g1 g2 g3
  have m0 := Int.emod_nonneg a (by omega : y ≠ 0)
  have m1 := Int.emod_lt_of_pos a y0
  go_enter Tryz.func22, Tryz.ntmps22
  go_wp2_with fail
  go_quiet ((go_at_call 42; exact Calls.quiet_of (div64_any _ _ _ _ m0 m1 b0 b1 y1)))
  go_wp2
  refine bodyPost_ret (v := .tuple #[.agg #[.int .u64 (a / y), .int .u64 (Rep.val (a % y) b / y)], .int .u64 (Rep.val (a % y) b % y)]) (by simp [results, Tryz.results22, go_sem]) rfl ⟨?_, ?_⟩
  · rw [H1.out, H2.out, H3.out]
  · exact bSt (bSt (bDr (bAl (bAl (Below.refl _ _) _) _) _) (by simp) _) (by simp) _
/-- what a fraction in lowest terms answers: numerator, denominator, code -/
def rnum (neg : Bool) (n d : Nat) : Int := if Frac.fit n d then Frac.num neg n d else 0
def rden (n d : Nat) : Int := if Frac.fit n d then Frac.den n d else 0
def rerr (n d : Nat) : Int := if Frac.fit n d then 0 else 6
theorem quot_fin (n d f c rs A dc : Nat) (hg : Nat.gcd n f = 1) (hc : d.gcd rs = c) (hrs : (n : Int) % (d : Int) = (rs : Int)) (hA : A = n / c) (hd : dc = d / c) :
    n / Nat.gcd n (d * f) = A ∧ d * f / Nat.gcd n (d * f) = dc * f := by
  have e : rs = n % d := by have := Int.natCast_emod n d; omega
  have e2 : c = Nat.gcd n (d * f) := by rw [← hc, e]; exact Frac.gcd_step n d f hg
  rw [hA, hd, e2]
  exact ⟨rfl, (Frac.below n d f hg).symm⟩
theorem r_no (ng : Bool) (n dd : Nat) (h : ¬ (n / Nat.gcd n dd ≤ Frac.M ∧ dd / Nat.gcd n dd ≤ Frac.M)) : 0 = rnum ng n dd ∧ 0 = rden n dd ∧ 6 = rerr n dd := by
  have e : Frac.fit n dd = false := by
    unfold Frac.fit
    cases h1 : decide (n / Nat.gcd n dd ≤ Frac.M)
    · rfl
    · cases h2 : decide (dd / Nat.gcd n dd ≤ Frac.M)
      · rfl
      · exact absurd ⟨of_decide_eq_true h1, of_decide_eq_true h2⟩ h
  unfold rnum rden rerr
  rw [e]
  exact ⟨rfl, rfl, rfl⟩
theorem r_yes (ng : Bool) (n dd : Nat) (h1 : n / Nat.gcd n dd ≤ Frac.M) (h2 : dd / Nat.gcd n dd ≤ Frac.M) : Frac.num ng n dd = rnum ng n dd ∧ Frac.den n dd = rden n dd ∧ 0 = rerr n dd := by
  have e : Frac.fit n dd = true := by unfold Frac.fit; rw [decide_eq_true h1, decide_eq_true h2]; rfl
  unfold rnum rden rerr
  rw [e]
  exact ⟨rfl, rfl, rfl⟩
theorem ret_quot {a b c a' b' c' : Int} (h : a = a' ∧ b = b' ∧ c = c') : Ending.returned (.tuple #[.agg #[.int .i64 a, .int .i64 b], .int .i64 c]) = .returned (.tuple #[.agg #[.int .i64 a', .int .i64 b'], .int .i64 c']) := by
  rw [h.1, h.2.1, h.2.2]
set_option maxRecDepth 100000 in
set_option maxHeartbeats 4000000 in
theorem quotient_any (z : Int) (d f : Nat) (w : World) (z0 : -170141183460469231731687303715884105728 < z) (z1 : z < 170141183460469231731687303715884105728) (d0 : 0 < d) (d1 : d < 18446744073709551616) (f0 : 0 < f) (f1 : f < 18446744073709551616)
    (hg : Nat.gcd z.natAbs f = 1) :
    Calls Tryz.prog 16 #[.agg #[.int .u64 (Rep.hi z), .int .u64 (Rep.lo z)], .int .u64 d, .int .u64 f] w fun e w' => e = .returned (.tuple #[.agg #[.int .i64 (rnum (decide (z < 0)) z.natAbs (d * f)), .int .i64 (rden z.natAbs (d * f))], .int .i64 (rerr z.natAbs (d * f))]) ∧ Below w.heap.size w w' := by
  have hn : Rep.sgn (decide (z < 0)) z = (z.natAbs : Int) := by
    by_cases h : z < 0
    · rw [decide_eq_true h]; show -z = _; omega
    · rw [decide_eq_false h]; show z = _; omega
  have HH := Lib.hid ((Rep.hi_congr_sgn (decide (z < 0)) z).trans (by rw [hn]))
  have HL := Lib.hid ((Rep.lo_congr_sgn (decide (z < 0)) z).trans (by rw [hn]))
  clear hn
  have zh := Rep.hi_bd z
  have zl := Rep.lo_bd z
  obtain ⟨n, hn⟩ : ∃ n : Nat, n = z.natAbs := ⟨_, rfl⟩
  rw [← hn] at HH HL hg ⊢
  have n1 : n < 170141183460469231731687303715884105728 := by omega
  have HN := Lib.hid hn
  have HG := Lib.hid hg
  clear hn hg
  obtain ⟨ng, hng⟩ : ∃ b : Bool, b = decide (z < 0) := ⟨_, rfl⟩
  rw [← hng] at HH HL ⊢
  have HNG := Lib.hid hng
  clear hng
  obtain ⟨nh, hnh⟩ : ∃ x, x = Rep.hi (n : Int) := ⟨_, rfl⟩
  obtain ⟨nl, hnl⟩ : ∃ x, x = Rep.lo (n : Int) := ⟨_, rfl⟩
  have nhb := Rep.hi_bd (n : Int)
  have nlb := Rep.lo_bd (n : Int)
  have VN := Lib.hid (Rep.val_hi_lo (n : Int) (by omega) (by omega))
  rw [← hnh] at nhb HH VN
  rw [← hnl] at nlb HL VN
  clear hnh hnl
  go_enter Tryz.func16, Tryz.ntmps16
  go_wp2_with fail
  refine (negative_any z _ (by omega) z1).mono ?_
  rintro e w1 ⟨rfl, hb1⟩
  rw [← HNG.out]
  have P1 : Aside (Blk w1 w.heap.size 44 #[.int .u64 (Rep.hi z), .int .u64 (Rep.lo z)] ∧ Blk w1 (w.heap.size + 1) 26 #[.int .i64 0, .int .i64 0] ∧ Below w.heap.size w w1) :=
    ⟨((Blk.newAt rfl).alloc _).later hb1, (Blk.newAt (by simp)).later hb1, bTr (bAl (bAl (Below.refl _ _) _) _) hb1⟩
  clear hb1
  obtain ⟨⟨c00, c01⟩, ⟨f00, f01⟩, k0⟩ := P1.out.1.two
  go_wp2_with fail
  refine (signed_any _ _ _ _ zh.1 zl.1 zh.2 zl.2).mono ?_
  rintro e w2 ⟨rfl, hb2⟩
  rw [HH.out, HL.out]
  have P2 : Aside (Blk w2 w.heap.size 44 #[.int .u64 (Rep.hi z), .int .u64 (Rep.lo z)] ∧ Blk w2 (w.heap.size + 1) 26 #[.int .i64 0, .int .i64 0] ∧ Below w.heap.size w w2) :=
    ⟨P1.out.1.later hb2, P1.out.2.1.later hb2, P1.out.2.2.trans (hb2.mono P1.out.2.2.size)⟩
  clear hb2 P1 c00 c01 f00 f01 k0
  obtain ⟨⟨c00, c01⟩, ⟨f00, f01⟩, k0⟩ := P2.out.1.two
  go_wp2_with fail
  refine (divided_any _ _ _ _ nhb.1 nlb.1 (by omega) nhb.2 nlb.2 (by omega)).mono ?_
  rintro e w3 ⟨rfl, hb3⟩
  rw [VN.out]
  have P3 : Aside (Blk w3 w.heap.size 44 #[.int .u64 nh, .int .u64 nl] ∧ Blk w3 (w.heap.size + 1) 26 #[.int .i64 0, .int .i64 0] ∧ Below w.heap.size w w3) :=
    ⟨((P2.out.1.set0 _).set1 _).later hb3, ((P2.out.2.1.off (by omega) _).off (by omega) _).later hb3, (((P2.out.2.2.setCell (by simp) _).setCell (by simp) _)).trans (hb3.mono (by simpa using P2.out.2.2.size))⟩
  clear hb3 P2 c00 c01 f00 f01 k0 zh zl HH HL
  have hq1 := Rep.hi_bd ((n : Int) / (d : Int))
  have hq2 := Rep.lo_bd ((n : Int) / (d : Int))
  generalize Rep.hi ((n : Int) / (d : Int)) = qh at hq1 ⊢
  generalize Rep.lo ((n : Int) / (d : Int)) = ql at hq2 ⊢
  obtain ⟨rs, hrs⟩ : ∃ rs : Nat, (n : Int) % (d : Int) = (rs : Int) := ⟨n % d, (Int.natCast_emod _ _).symm⟩
  have hrsd : rs < d := by have := Int.emod_lt_of_pos (n : Int) (show (0 : Int) < (d : Int) by omega); omega
  have HRS := Lib.hid hrs
  rw [hrs]
  clear hrs
  obtain ⟨⟨c00, c01⟩, ⟨f00, f01⟩, k0⟩ := P3.out.1.two
  go_wp2_with fail
  refine (gcd_any _ _ (by omega) (by omega) _).mono ?_
  rintro e w4 ⟨rfl, n4, rfl⟩
  obtain ⟨c, hc⟩ : ∃ c, d.gcd rs = c := ⟨_, rfl⟩
  have c0 : 0 < c := by rw [← hc]; exact Nat.gcd_pos_of_pos_left _ d0
  have c1 : c ≤ d := by rw [← hc]; exact Nat.gcd_le_left _ d0
  have HC := Lib.hid hc
  rw [hc]
  clear hc
  go_wp2_with fail
  refine (divided_any _ _ _ _ nhb.1 nlb.1 (by omega) nhb.2 nlb.2 (by omega)).mono ?_
  rintro e w5 ⟨rfl, hb5⟩
  rw [VN.out]
  have P5 : Aside (Blk w5 (w.heap.size + 1) 26 #[.int .i64 0, .int .i64 0] ∧ Below w.heap.size w w5) :=
    ⟨(((P3.out.2.1.alloc _).drewN _).later hb5), (bDr (bAl P3.out.2.2 _) _).trans (hb5.mono (by have := P3.out.2.2.size; simp; omega))⟩
  clear hb5 P3 c00 c01 f00 f01 k0
  obtain ⟨A, hA⟩ : ∃ A : Nat, (n : Int) / (c : Int) = (A : Int) := ⟨n / c, (Int.natCast_ediv _ _).symm⟩
  have hAn : A = n / c := by have := Int.natCast_ediv n c; omega
  have hAle : A ≤ n := by rw [hAn]; exact Nat.div_le_self _ _
  have HA := Lib.hid hAn
  rw [hA]
  clear hA hAn
  have VA := Lib.hid (Rep.val_hi_lo (A : Int) (by omega) (by omega))
  have ahb := Rep.hi_bd (A : Int)
  have alb := Rep.lo_bd (A : Int)
  generalize Rep.hi (A : Int) = Ah at VA ahb ⊢
  generalize Rep.lo (A : Int) = Al at VA alb ⊢
  obtain ⟨tt, htt⟩ : ∃ tt, (n : Int) % (c : Int) = tt := ⟨_, rfl⟩
  rw [htt]
  clear htt
  obtain ⟨dc, hdc⟩ : ∃ dc : Nat, (d : Int) / (c : Int) = (dc : Int) := ⟨d / c, (Int.natCast_ediv _ _).symm⟩
  have hdcn : dc = d / c := by have := Int.natCast_ediv d c; omega
  have hdcle : dc ≤ d := by rw [hdcn]; exact Nat.div_le_self _ _
  have HD := Lib.hid hdcn
  clear hdcn
  go_wp2_with fail
  refine (times_any _ _ (by omega) (by omega) (by omega) (by omega) _).mono ?_
  rintro e w6 ⟨rfl, hb6⟩
  have P6 : Aside (Blk w6 w5.heap.size 44 #[.int .u64 Ah, .int .u64 Al] ∧ Blk w6 (w.heap.size + 1) 26 #[.int .i64 0, .int .i64 0] ∧ Below w.heap.size w w6) :=
    ⟨(Blk.newAt rfl).later hb6, (P5.out.1.alloc _).later hb6, (bAl P5.out.2 _).trans (hb6.mono (by have := P5.out.2.size; simp; omega))⟩
  have k56 : w5.heap.size < w6.heap.size := P6.out.1.lt
  clear hb6 P5
  have hBm := Rep.mul_lt_sq dc f (by omega) f1
  have VB := Lib.hid (Rep.val_hi_lo ((dc : Int) * (f : Int)) (by rw [← Int.natCast_mul]; omega) (by rw [← Int.natCast_mul]; omega))
  have bhb := Rep.hi_bd ((dc : Int) * (f : Int))
  have blb := Rep.lo_bd ((dc : Int) * (f : Int))
  generalize Rep.hi ((dc : Int) * (f : Int)) = Bh at VB bhb ⊢
  generalize Rep.lo ((dc : Int) * (f : Int)) = Bl at VB blb ⊢
  obtain ⟨⟨c00, c01⟩, ⟨f00, f01⟩, k0⟩ := P6.out.1.two
  go_wp2_with fail
  refine (fits_any _ _ _ ahb.1 alb.1).mono ?_
  rintro e w7 ⟨rfl, hb7⟩
  rw [VA.out]
  have P7 : Aside (Blk w7 w5.heap.size 44 #[.int .u64 Ah, .int .u64 Al] ∧ Blk w7 w6.heap.size 44 #[.int .u64 Bh, .int .u64 Bl] ∧ Blk w7 (w.heap.size + 1) 26 #[.int .i64 0, .int .i64 0] ∧ Below w.heap.size w w7) :=
    ⟨(P6.out.1.alloc _).later hb7, (Blk.newAt rfl).later hb7, (P6.out.2.1.alloc _).later hb7, (bAl P6.out.2.2 _).trans (hb7.mono (by have := P6.out.2.2.size; simp; omega))⟩
  clear hb7 P6 c00 c01 f00 f01 k0
  obtain ⟨⟨c00, c01⟩, ⟨f00, f01⟩, k0⟩ := P7.out.1.two
  obtain ⟨⟨c10, c11⟩, ⟨f10, f11⟩, k1⟩ := P7.out.2.1.two
  obtain ⟨⟨c20, c21⟩, ⟨f20, f21⟩, k2⟩ := P7.out.2.2.1.two
  have HF := Lib.hid (quot_fin n d f c rs A dc HG.out HC.out HRS.out HA.out HD.out)
  by_cases hA : A ≤ 1152921504606846976
  · have tA : decide ((A : Int) ≤ 1152921504606846976) = true := decide_eq_true (by omega)
    rw [tA]
    go_wp2_with fail
    refine (fits_any _ _ _ bhb.1 blb.1).mono ?_
    rintro e w8 ⟨rfl, hb8⟩
    rw [VB.out]
    have P8 : Aside (Blk w8 w5.heap.size 44 #[.int .u64 Ah, .int .u64 Al] ∧ Blk w8 w6.heap.size 44 #[.int .u64 Bh, .int .u64 Bl] ∧ Blk w8 (w.heap.size + 1) 26 #[.int .i64 0, .int .i64 0] ∧ Below w.heap.size w w8) :=
      ⟨P7.out.1.later hb8, P7.out.2.1.later hb8, P7.out.2.2.1.later hb8, P7.out.2.2.2.trans (hb8.mono P7.out.2.2.2.size)⟩
    clear hb8 P7 c00 c01 f00 f01 k0 c10 c11 f10 f11 k1 c20 c21 f20 f21 k2
    obtain ⟨⟨c00, c01⟩, ⟨f00, f01⟩, k0⟩ := P8.out.1.two
    obtain ⟨⟨c10, c11⟩, ⟨f10, f11⟩, k1⟩ := P8.out.2.1.two
    obtain ⟨⟨c20, c21⟩, ⟨f20, f21⟩, k2⟩ := P8.out.2.2.1.two
    by_cases hB : dc * f ≤ 1152921504606846976
    · have tB : decide ((dc : Int) * (f : Int) ≤ 1152921504606846976) = true := decide_eq_true (by rw [← Int.natCast_mul]; omega)
      rw [tB]
      have HY := Lib.hid (r_yes ng n (d * f) (by rw [HF.out.1]; exact hA) (by rw [HF.out.2]; exact hB))
      have ea : Al = (A : Int) := by have := VA.out; unfold Rep.val at this; omega
      have eb : Bl = ((dc * f : Nat) : Int) := by have := VB.out; unfold Rep.val at this; rw [← Int.natCast_mul] at this; omega
      subst ea
      obtain ⟨BN, hBN⟩ : ∃ BN : Nat, BN = dc * f := ⟨_, rfl⟩
      rw [← hBN] at eb hB
      subst eb
      have HBN := Lib.hid hBN
      clear hBN
      cases ng
      · have HZ : Hid ((A : Int) = Frac.num false n (d * f) ∧ (BN : Int) = Frac.den n (d * f)) := ⟨by unfold Frac.num; rw [HF.out.1]; rfl, by unfold Frac.den; rw [HF.out.2, HBN.out]⟩
        go_wp2
        refine bodyPost_ret (v := .tuple #[.agg #[.int .i64 (A : Int), .int .i64 (BN : Int)], .int .i64 0]) (by simp [results, Tryz.results16, go_sem, c20, c21, k2]) rfl ⟨?_, ?_⟩
        · exact ret_quot ⟨HZ.out.1.trans HY.out.1, HZ.out.2.trans HY.out.2.1, HY.out.2.2⟩
        · exact bAl (bSt (bSt P8.out.2.2.2 (by simp) _) (by simp) _) _
      · have HZ : Hid (-(A : Int) = Frac.num true n (d * f) ∧ (BN : Int) = Frac.den n (d * f)) := ⟨by unfold Frac.num; rw [HF.out.1]; rfl, by unfold Frac.den; rw [HF.out.2, HBN.out]⟩
        go_wp2
        refine bodyPost_ret (v := .tuple #[.agg #[.int .i64 (-(A : Int)), .int .i64 (BN : Int)], .int .i64 0]) (by simp [results, Tryz.results16, go_sem, c20, c21, k2]) rfl ⟨?_, ?_⟩
        · exact ret_quot ⟨HZ.out.1.trans HY.out.1, HZ.out.2.trans HY.out.2.1, HY.out.2.2⟩
        · exact bAl (bSt (bSt P8.out.2.2.2 (by simp) _) (by simp) _) _
    · have tB : decide ((dc : Int) * (f : Int) ≤ 1152921504606846976) = false := decide_eq_false (by rw [← Int.natCast_mul]; omega)
      rw [tB]
      have HY := Lib.hid (r_no ng n (d * f) (fun h => hB (by rw [← HF.out.2]; exact h.2)))
      go_wp2
      refine bodyPost_ret (v := .tuple #[.agg #[.int .i64 0, .int .i64 0], .int .i64 6]) (by simp [results, Tryz.results16, go_sem, c20, c21, k2]) rfl ⟨?_, ?_⟩
      · exact ret_quot HY.out
      · exact bSt (bSt P8.out.2.2.2 (by simp) _) (by simp) _
  · have tA : decide ((A : Int) ≤ 1152921504606846976) = false := decide_eq_false (by omega)
    rw [tA]
    have HY := Lib.hid (r_no ng n (d * f) (fun h => hA (by rw [← HF.out.1]; exact h.1)))
    go_wp2
    refine bodyPost_ret (v := .tuple #[.agg #[.int .i64 0, .int .i64 0], .int .i64 6]) (by simp [results, Tryz.results16, go_sem, c20, c21, k2]) rfl ⟨?_, ?_⟩
    · exact ret_quot HY.out
    · exact bSt (bSt P7.out.2.2.2 (by simp) _) (by simp) _
theorem quiet_add {P : Program} {f : FuncId} {args : Array Value} {w : World} {a n : Nat} {v : Value}
    (h : Calls P f args (w.drewN (a + n)) fun e w' => e = .returned v ∧ ∃ m, w' = (w.drewN (a + n)).drewN m) :
    Calls P f args (w.drewN (a + n)) fun e w'' => e = .returned v ∧ ∃ m, w'' = w.drewN (a + m) :=
  h.mono fun _ _ ⟨he, m, hm⟩ => ⟨he, n + m, by rw [hm, World.drewN_drewN, Nat.add_assoc]⟩
theorem cmpInt (x y : Int) (w : World) : Calls Tryz.prog 73 #[.int .i64 x, .int .i64 y] w fun e w' => e = .returned (.int .i64 (cmpI x y)) ∧ w = w' := by
  rcases Int.lt_trichotomy x y with h | h | h
  · have H := Lib.hid (show -1 = cmpI x y by unfold cmpI; rw [if_pos h])
    go_enter Tryz.func73, Tryz.ntmps73
    go_wp2
    go_ret
    exact ⟨ret_int H.out, rfl⟩
  · subst h
    have H := Lib.hid (show 0 = cmpI x x by unfold cmpI; rw [if_neg (by omega), if_neg (by omega)])
    go_enter Tryz.func73, Tryz.ntmps73
    go_wp2
    go_ret
    exact ⟨ret_int H.out, rfl⟩
  · have H := Lib.hid (show 1 = cmpI x y by unfold cmpI; rw [if_neg (by omega), if_pos (by omega)])
    have h' : ¬ x < y := by omega
    go_enter Tryz.func73, Tryz.ntmps73
    go_wp2
    go_ret
    exact ⟨ret_int H.out, rfl⟩
theorem notShare_no (x : Int) (h0 : 0 ≤ x) (h1 : x ≤ 1073741824) (w : World) : Calls Tryz.prog 49 #[.int .i64 x] w fun e w' => e = .returned (.bool false) ∧ w = w' := by
  have t1 : decide (x < 0) = false := decide_eq_false (by omega)
  have t2 : decide (x > 1073741824) = false := decide_eq_false (by omega)
  have t3 : ¬ 1073741824 < x := by omega
  have t4 : ¬ x < 0 := by omega
  go_enter Tryz.func49, Tryz.ntmps49
  go_wp2
  go_ret
  exact ⟨rfl, rfl⟩
set_option maxHeartbeats 1000000 in
theorem indexFunc_none (b n cap : Nat) (zs : Nat → Int) (w : World) (hn : n ≤ 4611686018427387904) (hc : ∀ i, i < n → w.cell? ⟨b, i, none⟩ = some (.int .i64 (zs i))) (hz : ∀ i, i < n → 0 ≤ zs i ∧ zs i ≤ 1073741824) :
    Calls Tryz.prog 70 #[.slice (some ⟨b, 0, none⟩) n cap, .func (.func 49) #[] #[]] w fun e w' => e = .returned (.int .i64 (-1)) ∧ w = w' := by
  have HC := Lib.hid hc
  clear hc
  go_enter Tryz.func70, Tryz.ntmps70
  go_wp2
  go_loop [8] (fun i => ∃ k : Nat, k ≤ n ∧ i = .int .i64 k) (fun i => n - (intOf i).toNat)
  case atStart => exact ⟨0, by omega, rfl⟩
  case round =>
    obtain ⟨k, hk, rfl⟩ := hrel
    by_cases hlt : k < n
    · have c0 := HC.out k hlt
      obtain ⟨z0, z1⟩ := hz k hlt
      have hlt' : (k : Int) < (n : Int) := by omega
      go_wp2_with fail
      refine (notShare_no _ z0 z1 _).mono ?_
      rintro e w' ⟨rfl, rfl⟩
      go_wp2
      go_round
      case rel => exact ⟨k + 1, by omega, by go_num⟩
      case measure => simp [intOf]; omega
    · have hlt' : ¬ (k : Int) < (n : Int) := by omega
      go_wp2
      go_ret
      exact ⟨rfl, rfl⟩
set_option maxHeartbeats 1000000 in
theorem closure_any (rv rb n cap : Nat) (i k : Nat) (x y : Int) (w : World) (h0 : w.cell? ⟨rv, 0, none⟩ = some (.slice (some ⟨rb, 0, none⟩) n cap)) (hi : i < n) (hk : k < n)
    (h1 : w.cell? ⟨rb, i, none⟩ = some (.int .i64 x)) (h2 : w.cell? ⟨rb, k, none⟩ = some (.int .i64 y)) :
    Calls Tryz.prog 72 #[.int .i64 i, .int .i64 k, .pointer (some ⟨rv, 0, none⟩)] w fun e w' => e = .returned (.int .i64 (cmpI y x)) ∧ ∃ n, w' = w.drewN n := by
  have i0 : (0 : Int) ≤ (i : Int) := by omega
  have i1 : (i : Int) < (n : Int) := by omega
  have k0 : (0 : Int) ≤ (k : Int) := by omega
  have k1 : (k : Int) < (n : Int) := by omega
  go_enter Tryz.func72, Tryz.ntmps72
  go_wp2_with fail
  go_quiet ((go_at_call 73; exact qSame (cmpInt _ _ _)))
  go_wp2
  go_ret
  exact ⟨rfl, _, rfl⟩
set_option maxHeartbeats 1000000 in
theorem insertion_three (ob rv rb : Nat) (w : World) (h0 : w.cell? ⟨rv, 0, none⟩ = some (.slice (some ⟨rb, 0, none⟩) 3 3))
    (r0 : w.cell? ⟨rb, 0, none⟩ = some (.int .i64 7)) (r1 : w.cell? ⟨rb, 1, none⟩ = some (.int .i64 1)) (r2 : w.cell? ⟨rb, 2, none⟩ = some (.int .i64 0))
    (o0 : w.cell? ⟨ob, 0, none⟩ = some (.int .i64 0)) (o1 : w.cell? ⟨ob, 1, none⟩ = some (.int .i64 1)) (o2 : w.cell? ⟨ob, 2, none⟩ = some (.int .i64 2)) :
    Calls Tryz.prog 99 #[.slice (some ⟨ob, 0, none⟩) 3 3, .int .i64 0, .int .i64 3, .func (.func 72) #[] #[.pointer (some ⟨rv, 0, none⟩)]] w fun e w' => e = .returned (.tuple #[]) ∧ ∃ n, w' = w.drewN n := by
  go_enter Tryz.func99, Tryz.ntmps99
  go_wp2_with fail
  refine wp_loop_rounds 3 ?_
  rw [rounds_succ]
  go_wp2_with fail
  refine wp_loop_rounds 1 ?_
  rw [rounds_succ]
  go_wp2_with fail
  go_quiet ((go_at_call 72; first | exact Calls.quiet_of (closure_any rv rb 3 3 1 0 1 7 _ (by simp [go_sem, h0]) (by omega) (by omega) (by simp [go_sem, r1]) (by simp [go_sem, r0])) | exact Calls.quiet_of (closure_any rv rb 3 3 2 1 0 1 _ (by simp [go_sem, h0]) (by omega) (by omega) (by simp [go_sem, r2]) (by simp [go_sem, r1]))))
  go_wp2_with fail
  rw [rounds_succ]
  go_wp2_with fail
  refine wp_loop_rounds 1 ?_
  rw [rounds_succ]
  go_wp2_with fail
  rename_i nq _
  go_quiet ((go_at_call 72; first | exact Calls.quiet_of (closure_any rv rb 3 3 1 0 1 7 _ (by simp [go_sem, h0]) (by omega) (by omega) (by simp [go_sem, r1]) (by simp [go_sem, r0])) | exact Calls.quiet_of (closure_any rv rb 3 3 2 1 0 1 _ (by simp [go_sem, h0]) (by omega) (by omega) (by simp [go_sem, r2]) (by simp [go_sem, r1])) | exact quiet_add (closure_any rv rb 3 3 2 1 0 1 _ (by simp [go_sem, h0]) (by omega) (by omega) (by simp [go_sem, r2]) (by simp [go_sem, r1]))))
  go_wp2_with fail
  rw [rounds_succ]
  go_wp2
  go_end0
  exact ⟨rfl, _, rfl⟩
set_option maxHeartbeats 1000000 in
theorem stable_three (ob rv rb : Nat) (w : World) (h0 : w.cell? ⟨rv, 0, none⟩ = some (.slice (some ⟨rb, 0, none⟩) 3 3))
    (r0 : w.cell? ⟨rb, 0, none⟩ = some (.int .i64 7)) (r1 : w.cell? ⟨rb, 1, none⟩ = some (.int .i64 1)) (r2 : w.cell? ⟨rb, 2, none⟩ = some (.int .i64 0))
    (o0 : w.cell? ⟨ob, 0, none⟩ = some (.int .i64 0)) (o1 : w.cell? ⟨ob, 1, none⟩ = some (.int .i64 1)) (o2 : w.cell? ⟨ob, 2, none⟩ = some (.int .i64 2)) :
    Calls Tryz.prog 88 #[.slice (some ⟨ob, 0, none⟩) 3 3, .int .i64 3, .func (.func 72) #[] #[.pointer (some ⟨rv, 0, none⟩)]] w fun e w' => e = .returned (.tuple #[]) ∧ ∃ n, w' = w.drewN n := by
  go_enter Tryz.func88, Tryz.ntmps88
  go_wp2_with fail
  refine wp_loop_rounds 1 ?_
  rw [rounds_succ]
  go_wp2_with fail
  refine (insertion_three ob rv rb _ h0 r0 r1 r2 o0 o1 o2).mono ?_
  rintro e w' ⟨rfl, n1, rfl⟩
  go_wp2_with fail
  refine wp_loop_rounds 1 ?_
  rw [rounds_succ]
  go_wp2
  go_end0
  exact ⟨rfl, _, rfl⟩
set_option maxHeartbeats 1000000 in
theorem sort_three (ob rv rb : Nat) (w : World) (h0 : w.cell? ⟨rv, 0, none⟩ = some (.slice (some ⟨rb, 0, none⟩) 3 3))
    (r0 : w.cell? ⟨rb, 0, none⟩ = some (.int .i64 7)) (r1 : w.cell? ⟨rb, 1, none⟩ = some (.int .i64 1)) (r2 : w.cell? ⟨rb, 2, none⟩ = some (.int .i64 0))
    (o0 : w.cell? ⟨ob, 0, none⟩ = some (.int .i64 0)) (o1 : w.cell? ⟨ob, 1, none⟩ = some (.int .i64 1)) (o2 : w.cell? ⟨ob, 2, none⟩ = some (.int .i64 2)) :
    Calls Tryz.prog 71 #[.slice (some ⟨ob, 0, none⟩) 3 3, .func (.func 72) #[] #[.pointer (some ⟨rv, 0, none⟩)]] w fun e w' => e = .returned (.tuple #[]) ∧ ∃ n, w' = w.drewN n := by
  go_enter Tryz.func71, Tryz.ntmps71
  go_wp2_with fail
  refine (stable_three ob rv rb _ h0 r0 r1 r2 o0 o1 o2).mono ?_
  rintro e w' ⟨rfl, n1, rfl⟩
  go_wp2
  go_end0
  exact ⟨rfl, _, rfl⟩
set_option maxRecDepth 100000 in
set_option maxHeartbeats 4000000 in
theorem apportioned_three (b : Nat) (w : World) (w0 : w.cell? ⟨b, 0, none⟩ = some (.int .i64 5)) (w1 : w.cell? ⟨b, 1, none⟩ = some (.int .i64 3)) (w2 : w.cell? ⟨b, 2, none⟩ = some (.int .i64 0)) (hb : b < w.heap.size) :
    Calls Tryz.prog 50 #[.int .i64 3, .int .i64 8, .slice (some ⟨b, 0, none⟩) 3 3] w fun e w' => e = .returned (.slice (some ⟨w.heap.size, 0, none⟩) 3 3) ∧
      (w'.cell? ⟨w.heap.size, 0, none⟩ = some (.int .i64 2) ∧ w'.cell? ⟨w.heap.size, 1, none⟩ = some (.int .i64 1) ∧ w'.cell? ⟨w.heap.size, 2, none⟩ = some (.int .i64 0)) ∧ Below w.heap.size w w' := by
  have b1 : b < w.heap.size + 1 := by omega
  have b2 : b < w.heap.size + 1 + 1 := by omega
  have b3 : b < w.heap.size + 1 + 1 + 1 := by omega
  have hmk : ∀ w, (Instr.makeSlice 22 (.int .i64 3) (.int .i64 3)).run Tryz.prog w = .ok (.slice (some ⟨w.heap.size, 0, none⟩) 3 3) (w.alloc (.cells #[.int .i64 0, .int .i64 0, .int .i64 0] 3)) := fun _ => by kernel_rfl
  go_enter Tryz.func50, Tryz.ntmps50
  go_wp2_with fail
  refine wp_loop_rounds 4 ?_
  rw [rounds_succ]
  go_wp2_with fail
  go_region
  go_wp2_with fail
  rw [rounds_succ]
  go_wp2_with fail
  go_region
  go_wp2_with fail
  rw [rounds_succ]
  go_wp2_with fail
  go_region
  go_wp2_with fail
  rw [rounds_succ]
  go_wp2_with fail
  refine (sort_three (w.heap.size + 1 + 1 + 1) (w.heap.size + 1 + 1) (w.heap.size + 1) _ (by simp [go_sem]) (by simp [go_sem]) (by simp [go_sem]) (by simp [go_sem]) (by simp [go_sem]) (by simp [go_sem]) (by simp [go_sem])).mono ?_
  rintro e w' ⟨rfl, n1, rfl⟩
  go_wp2_with fail
  refine wp_loop_rounds 2 ?_
  rw [rounds_succ]
  go_wp2_with fail
  rw [rounds_succ]
  go_wp2
  go_ret
  refine ⟨rfl, ⟨?_, ?_, ?_⟩, ?_⟩
  · exact Blk.cell ((((((Blk.newAt rfl).alloc _).alloc _).alloc _).drewN _).set_ 0 _) 0
  · exact Blk.cell ((((((Blk.newAt rfl).alloc _).alloc _).alloc _).drewN _).set_ 0 _) 1
  · exact Blk.cell ((((((Blk.newAt rfl).alloc _).alloc _).alloc _).drewN _).set_ 0 _) 2
  · exact bSt (bDr (bAl (bAl (bAl (bAl (Below.refl _ _) _) _) _) _) _) (Nat.le_refl _) _
/-- the sign of a quotient -/
def sgnOf (n d : Int) : Bool := decide (n < 0) != decide (d < 0)
theorem sgn_spell (n d : Int) : (!decide (n < 0) == decide (d < 0)) = sgnOf n d := by unfold sgnOf; cases decide (n < 0) <;> cases decide (d < 0) <;> rfl
def newNum (n d : Int) : Int := if d = 0 then 0 else rnum (sgnOf n d) n.natAbs d.natAbs
def newDen (n d : Int) : Int := if d = 0 then 0 else rden n.natAbs d.natAbs
def newErr (n d : Int) : Int := if d = 0 then 2 else rerr n.natAbs d.natAbs
theorem rnum_zero (b c : Bool) (d : Nat) : rnum b 0 d = rnum c 0 d := by
  unfold rnum Frac.num
  rw [Nat.zero_div]
  cases b <;> cases c <;> rfl
theorem sgn_abs (s : Bool) (n : Nat) : (Rep.sgn s (n : Int)).natAbs = n := by
  cases s
  · show ((n : Int)).natAbs = n; omega
  · show (-(n : Int)).natAbs = n; omega
theorem sgn_rnum (s : Bool) (n d : Nat) : rnum (decide (Rep.sgn s (n : Int) < 0)) n d = rnum s n d := by
  by_cases h : n = 0
  · subst h; exact rnum_zero _ _ _
  · congr 1
    cases s
    · show decide ((n : Int) < 0) = false; exact decide_eq_false (by omega)
    · show decide (-(n : Int) < 0) = true; exact decide_eq_true (by omega)
set_option maxHeartbeats 2000000 in
theorem ratio_new (n d : Int) (n0 : -9223372036854775808 ≤ n) (n1 : n < 9223372036854775808) (d0 : -9223372036854775808 ≤ d) (d1 : d < 9223372036854775808) (w : World) :
    Calls Tryz.prog 29 #[.int .i64 n, .int .i64 d] w fun e w' => e = .returned (.tuple #[.agg #[.int .i64 (newNum n d), .int .i64 (newDen n d)], .int .i64 (newErr n d)]) ∧ Below w.heap.size w w' := by
  by_cases hd : d = 0
  · subst hd
    have HX : Hid ((0 : Int) = newNum n 0 ∧ (0 : Int) = newDen n 0 ∧ (2 : Int) = newErr n 0) := by
      unfold newNum newDen newErr
      exact ⟨rfl, rfl, rfl⟩
    go_enter Tryz.func29, Tryz.ntmps29
    go_wp2
    refine bodyPost_ret (v := .tuple #[.agg #[.int .i64 0, .int .i64 0], .int .i64 2]) (by simp [results, Tryz.results29, go_sem]) rfl ⟨ret_quot HX.out, ?_⟩
    exact bAl (Below.refl _ _) _
  have hn : (0 : Int) ≤ (n.natAbs : Int) ∧ (n.natAbs : Int) < 18446744073709551616 := by omega
  obtain ⟨m, hm⟩ : ∃ m : Nat, n.natAbs = m := ⟨_, rfl⟩
  obtain ⟨y, hy⟩ : ∃ y : Nat, d.natAbs = y := ⟨_, rfl⟩
  have y0 : 0 < y := by omega
  have y1 : y < 18446744073709551616 := by omega
  have HX : Hid (rnum (decide (Rep.sgn (sgnOf n d) (m : Int) < 0)) (Rep.sgn (sgnOf n d) (m : Int)).natAbs (y * 1) = newNum n d ∧ rden (Rep.sgn (sgnOf n d) (m : Int)).natAbs (y * 1) = newDen n d ∧ rerr (Rep.sgn (sgnOf n d) (m : Int)).natAbs (y * 1) = newErr n d) := by
    unfold newNum newDen newErr
    rw [if_neg hd, if_neg hd, if_neg hd, sgn_abs, sgn_rnum, Nat.mul_one, hm, hy]
    exact ⟨rfl, rfl, rfl⟩
  rw [hm] at hn
  have HM := Lib.hid hm
  have HY := Lib.hid hy
  clear hm hy
  have hdz : (d == 0) = false := by rw [beq_eq_false_iff_ne]; exact hd
  have hzl : -170141183460469231731687303715884105728 < Rep.sgn (sgnOf n d) (m : Int) ∧ Rep.sgn (sgnOf n d) (m : Int) < 170141183460469231731687303715884105728 := by
    cases sgnOf n d
    · show _ < (m : Int) ∧ (m : Int) < _; omega
    · show _ < -(m : Int) ∧ -(m : Int) < _; omega
  have HV : Hid (Rep.val 0 (m : Int) = (m : Int)) := by show _ = _; unfold Rep.val; omega
  have HS := Lib.hid (sgn_spell n d)
  go_enter Tryz.func29, Tryz.ntmps29
  go_wp2_with fail
  refine (magnitude_any _ n0 n1 _).mono ?_
  rintro e w1 ⟨rfl, rfl⟩
  rw [HM.out]
  go_wp2_with fail
  refine (signed_any _ 0 _ _ (by omega) hn.1 (by omega) hn.2).mono ?_
  rintro e w1 ⟨rfl, hb⟩
  rw [HV.out, HS.out]
  have P1 : Aside (Blk w1 w.heap.size 26 #[.int .i64 0, .int .i64 0] ∧ Below w.heap.size w w1) := ⟨(Blk.newAt rfl).later hb, bTr (bAl (Below.refl _ _) _) hb⟩
  clear hb
  generalize Rep.sgn (sgnOf n d) (m : Int) = z at HX hzl ⊢
  have kR : w.heap.size < w1.heap.size := P1.out.1.lt
  go_wp2_with fail
  go_region_held3 (fun w' => w'.cell? ⟨w1.heap.size, 0, none⟩ = some (.int .u64 (Rep.hi z)) ∧ w'.cell? ⟨w1.heap.size, 1, none⟩ = some (.int .u64 (Rep.lo z))) (first | go_keep | (go_split_ands; refine ⟨?_, ?_⟩ <;> (first | (rw [hb.cell (by simp)]; assumption) | (rw [World.cell?_setCell_other _ _ _ _ (by first | (simp; done) | (simp; omega)), World.cell?_setCell_other _ _ _ _ (by first | (simp; done) | (simp; omega))]; assumption))))
    (first | (go_at_call 21; refine (magnitude_any _ d0 d1 _).mono ?_; rintro e w' ⟨rfl, rfl⟩; rw [HY.out]) | (go_at_call 16; refine (quotient_any z y 1 _ hzl.1 hzl.2 y0 y1 (by omega) (by omega) (Nat.gcd_one_right _)).mono ?_; rintro e w' ⟨rfl, hb⟩; have PB := Blk.later (by first | exact Blk.drew (Blk.alloc P1.out.1 _) | exact Blk.alloc P1.out.1 _) hb; obtain ⟨⟨r0, r1⟩, ⟨g0, g1⟩, gk⟩ := PB.two; clear PB; have HB := Lib.hid (Below.trans (by first | exact bD1 (bAl P1.out.2 _) | exact bAl P1.out.2 _) (hb.mono (by have := P1.out.2.size; simp; omega)))))
  go_wp2
  refine bodyPost_ret (v := .tuple #[.agg #[.int .i64 (rnum (decide (z < 0)) z.natAbs (y * 1)), .int .i64 (rden z.natAbs (y * 1))], .int .i64 (rerr z.natAbs (y * 1))]) (by simp [results, Tryz.results29, go_sem, r0, r1, gk]) rfl ⟨ret_quot HX.out, ?_⟩
  exact bSt (bSt HB.out (by simp) _) (by simp) _
set_option maxHeartbeats 1000000 in
theorem containsFunc_none (b n cap : Nat) (zs : Nat → Int) (w : World) (hn : n ≤ 4611686018427387904) (hc : ∀ i, i < n → w.cell? ⟨b, i, none⟩ = some (.int .i64 (zs i))) (hz : ∀ i, i < n → 0 ≤ zs i ∧ zs i ≤ 1073741824) :
    Calls Tryz.prog 48 #[.slice (some ⟨b, 0, none⟩) n cap, .func (.func 49) #[] #[]] w fun e w' => e = .returned (.bool false) ∧ w = w' := by
  have HI := Lib.hid (indexFunc_none b n cap zs w hn hc hz)
  clear hc hz
  go_enter Tryz.func48, Tryz.ntmps48
  go_wp2_with fail
  refine HI.out.mono ?_
  rintro e w' ⟨rfl, rfl⟩
  go_wp2
  go_ret
  exact ⟨rfl, rfl⟩
set_option maxRecDepth 100000 in
set_option maxHeartbeats 2000000 in
theorem apportion_three (b : Nat) (w : World) (w0 : w.cell? ⟨b, 0, none⟩ = some (.int .i64 5)) (w1 : w.cell? ⟨b, 1, none⟩ = some (.int .i64 3)) (w2 : w.cell? ⟨b, 2, none⟩ = some (.int .i64 0)) (hb : b < w.heap.size) :
    Calls Tryz.prog 30 #[.int .i64 3, .slice (some ⟨b, 0, none⟩) 3 3] w fun e w' => e = .returned (.tuple #[.slice (some ⟨w.heap.size, 0, none⟩) 3 3, .int .i64 0]) ∧
      (w'.cell? ⟨w.heap.size, 0, none⟩ = some (.int .i64 2) ∧ w'.cell? ⟨w.heap.size, 1, none⟩ = some (.int .i64 1) ∧ w'.cell? ⟨w.heap.size, 2, none⟩ = some (.int .i64 0)) ∧ Below w.heap.size w w' := by
  have hc : ∀ i, i < 3 → w.cell? ⟨b, i, none⟩ = some (.int .i64 ((fun i => if i = 0 then 5 else if i = 1 then 3 else 0) i)) := by
    intro i hi
    have : i = 0 ∨ i = 1 ∨ i = 2 := by omega
    rcases this with rfl | rfl | rfl
    · exact w0
    · exact w1
    · exact w2
  have hz : ∀ i, i < 3 → 0 ≤ (fun i : Nat => if i = 0 then (5 : Int) else if i = 1 then 3 else 0) i ∧ (fun i : Nat => if i = 0 then (5 : Int) else if i = 1 then 3 else 0) i ≤ 1073741824 := by
    intro i hi
    have : i = 0 ∨ i = 1 ∨ i = 2 := by omega
    rcases this with rfl | rfl | rfl <;> simp
  have HI := Lib.hid (containsFunc_none b 3 3 _ w (by omega) hc hz)
  have HA := Lib.hid (apportioned_three b w w0 w1 w2 hb)
  clear hc hz
  go_enter Tryz.func30, Tryz.ntmps30
  go_wp2_with fail
  refine HI.out.mono ?_
  rintro e w' ⟨rfl, rfl⟩
  go_wp2_with fail
  refine wp_loop_rounds 4 ?_
  rw [rounds_succ]
  go_wp2_with fail
  rw [rounds_succ]
  go_wp2_with fail
  rw [rounds_succ]
  go_wp2_with fail
  rw [rounds_succ]
  go_wp2_with fail
  refine HA.out.mono ?_
  rintro e w' ⟨rfl, hc, hb⟩
  go_wp2
  go_ret2
  exact ⟨rfl, hc, hb⟩
theorem new_six : newNum 6 (-4) = -3 ∧ newDen 6 (-4) = 2 ∧ newErr 6 (-4) = 0 := by decide +kernel
set_option maxRecDepth 100000 in
set_option maxHeartbeats 2000000 in
theorem awake_any (w : World) :
    Calls Tryz.prog 11 #[] w fun e w' => e = .returned (.bool true) ∧ Below w.heap.size w w' := by
  go_enter Tryz.func11, Tryz.ntmps11
  go_wp2_with fail
  refine (ratio_new 6 (-4) (by omega) (by omega) (by omega) (by omega) _).mono ?_
  rintro e w1 ⟨rfl, hb1⟩
  rw [new_six.1, new_six.2.1, new_six.2.2]
  go_wp2_with fail
  refine (apportion_three _ _ ?_ ?_ ?_ ?_).mono ?_
  · simp [go_sem]
  · simp [go_sem]
  · simp [go_sem]
  · simp
  rintro e w2 ⟨rfl, ⟨p0, p1, p2⟩, hb2⟩
  have PA := (((Blk.newAt (w := w1) (t := 26) (cs := #[.int .i64 (-3), .int .i64 2]) rfl).alloc _).later hb2)
  obtain ⟨⟨c0, c1⟩, ⟨f0, f1⟩, k⟩ := PA.two
  have HB := Lib.hid (bTr (bAl (bAl hb1 _) _) hb2)
  clear PA hb1 hb2
  simp only [World.size_alloc] at p0 p1 p2
  go_wp2
  go_ret
  exact ⟨rfl, HB.out⟩
set_option maxHeartbeats 1000000 in
theorem r_divide_small (b d : Int) (w : World) (b0 : 0 ≤ b) (d0 : 0 < d) (b1 : b < 18446744073709551616) (d1 : d < 18446744073709551616) :
    Calls Tryz.prog 52 #[.agg #[.int .u64 0, .int .u64 b], .agg #[.int .u64 0, .int .u64 d]] w fun e w' => e = .returned (.tuple #[.agg #[.int .u64 0, .int .u64 (b / d)], .agg #[.int .u64 0, .int .u64 (b % d)]]) ∧ Below w.heap.size w w' := by
  go_enter Tryz.func52, Tryz.ntmps52
  go_wp2
  go_region
  go_wp2
  refine bodyPost_ret (v := .tuple #[.agg #[.int .u64 0, .int .u64 (b / d)], .agg #[.int .u64 0, .int .u64 (b % d)]]) (by simp [results, Tryz.results52, go_sem]) rfl ⟨rfl, ?_⟩
  exact bD1 (bAl (bAl (bAl (bAl (Below.refl _ _) _) _) _) _)
/-- the memory of the reference's divisor: its two numbers and its result -/
def DivS (w : World) (i j : Nat) (wr : World) : Prop :=
  Blk wr w.heap.size 62 #[.int .u64 0, .int .u64 i] ∧ Blk wr (w.heap.size + 1) 62 #[.int .u64 0, .int .u64 j] ∧
  Blk wr (w.heap.size + 1 + 1) 62 #[.int .u64 0, .int .u64 0] ∧ Below w.heap.size w wr
theorem divS_step {w w1 : World} {i j : Nat} (S : DivS w i j w1) (m : Nat) (x : Int) (hx : x = (m : Int)) (o1 o2 : Obj) :
    DivS w j m (((((((w1.setCell ⟨w.heap.size, 0, none⟩ (.int .u64 0)).setCell ⟨w.heap.size, 1, none⟩ (.int .u64 (j : Int))).setCell ⟨w.heap.size + 1, 0, none⟩ (.int .u64 0)).setCell ⟨w.heap.size + 1, 1, none⟩ (.int .u64 x)).alloc o1).alloc o2).drew) := by
  subst hx
  obtain ⟨h0, h1, h2, h3⟩ := S
  refine ⟨?_, ?_, ?_, ?_⟩
  · exact ((((((h0.set0 _).set1 _).off (by omega) _).off (by omega) _).alloc _).alloc _).drew
  · exact ((((((h1.off (by omega) _).off (by omega) _).set0 _).set1 _).alloc _).alloc _).drew
  · exact ((((((h2.off (by omega) _).off (by omega) _).off (by omega) _).off (by omega) _).alloc _).alloc _).drew
  · exact bD1 (bAl (bAl (bSt (bSt (bSt (bSt h3 (by simp) _) (by simp) _) (by simp) _) (by simp) _) _) _)
set_option maxHeartbeats 1000000 in
theorem r_divisor_small (a b : Nat) (w : World) (ha : a < 18446744073709551616) (hb : b < 18446744073709551616) :
    Calls Tryz.prog 51 #[.agg #[.int .u64 0, .int .u64 a], .agg #[.int .u64 0, .int .u64 b]] w fun e w' => e = .returned (.agg #[.int .u64 0, .int .u64 (Nat.gcd a b : Nat)]) ∧ Below w.heap.size w w' := by
  go_enter Tryz.func51, Tryz.ntmps51
  go_wp2
  have S0 : Aside (DivS w a b ((((w.alloc (Obj.cells #[Value.int IntKind.u64 0, Value.int IntKind.u64 ↑a] 62)).alloc (Obj.cells #[Value.int IntKind.u64 0, Value.int IntKind.u64 ↑b] 62)).alloc (Obj.cells #[Value.int IntKind.u64 0, Value.int IntKind.u64 0] 62)))) :=
    ⟨((Blk.newAt rfl).alloc _).alloc _, (Blk.newAt (by simp)).alloc _, Blk.newAt (by simp), bAl (bAl (bAl (Below.refl _ _) _) _) _⟩
  generalize (((w.alloc (Obj.cells #[Value.int IntKind.u64 0, Value.int IntKind.u64 ↑a] 62)).alloc (Obj.cells #[Value.int IntKind.u64 0, Value.int IntKind.u64 ↑b] 62)).alloc (Obj.cells #[Value.int IntKind.u64 0, Value.int IntKind.u64 0] 62)) = W at S0 ⊢
  go_loopg [7] b (fun g x wr => ∃ i j : Nat, i < 18446744073709551616 ∧ j < 18446744073709551616 ∧ j ≤ g ∧ Aside (Nat.gcd i j = Nat.gcd a b) ∧ Aside (DivS w i j wr))
  case atStart => exact ⟨a, b, ha, hb, Nat.le_refl _, rfl, S0⟩
  case round =>
    clear S0
    obtain ⟨i, j, hi, hj, hjg, HG, S1⟩ := hrel
    obtain ⟨⟨c00, c01⟩, ⟨f00, f01⟩, k0⟩ := S1.out.1.two
    obtain ⟨⟨c10, c11⟩, ⟨f10, f11⟩, k1⟩ := S1.out.2.1.two
    obtain ⟨⟨c20, c21⟩, ⟨f20, f21⟩, k2⟩ := S1.out.2.2.1.two
    by_cases hz : j = 0
    · subst hz
      have HE : Hid (Nat.gcd a b = i) := by
        show _ = _
        rw [← HG.out, Nat.gcd_zero_right]
      go_wp2
      refine bodyPost_ret (v := .agg #[.int .u64 0, .int .u64 (i : Int)]) (by simp [results, Tryz.results51, go_sem, c20, c21, k2]) rfl ⟨?_, ?_⟩
      · rw [HE.out]
      · exact bSt (bSt S1.out.2.2.2 (by simp; omega) _) (by simp; omega) _
    · have hjp : (0 : Int) < (j : Int) := by omega
      have hml : i % j < j := Nat.mod_lt i (by omega)
      go_wp2_with fail
      refine (r_divide_small _ _ _ (by omega) hjp (by omega) (by omega)).mono ?_
      rintro e w1 ⟨rfl, hb1⟩
      have S2 : Aside (DivS w i j w1) := ⟨S1.out.1.later hb1, S1.out.2.1.later hb1, S1.out.2.2.1.later hb1, S1.out.2.2.2.trans (hb1.mono (by omega))⟩
      clear hb1 S1 c00 c01 f00 f01 k0 c10 c11 f10 f11 k1 c20 c21 f20 f21 k2
      obtain ⟨⟨c00, c01⟩, ⟨f00, f01⟩, k0⟩ := S2.out.1.two
      obtain ⟨⟨c10, c11⟩, ⟨f10, f11⟩, k1⟩ := S2.out.2.1.two
      go_wp2
      go_region
      have S3 : Aside (DivS w j (i % j) (((((((w1.setCell ⟨w.heap.size, 0, none⟩ (.int .u64 0)).setCell ⟨w.heap.size, 1, none⟩ (.int .u64 (j : Int))).setCell ⟨w.heap.size + 1, 0, none⟩ (.int .u64 0)).setCell ⟨w.heap.size + 1, 1, none⟩ (.int .u64 ((i : Int) % (j : Int)))).alloc (.cells #[.int .u64 0, .int .u64 ((i : Int) / (j : Int))] 62)).alloc (.cells #[.int .u64 0, .int .u64 ((i : Int) % (j : Int))] 62)).drew)) := divS_step S2.out (i % j) _ (Int.natCast_emod _ _).symm _ _
      clear S2 c00 c01 f00 f01 k0 c10 c11 f10 f11 k1
      generalize ((((((w1.setCell ⟨w.heap.size, 0, none⟩ (.int .u64 0)).setCell ⟨w.heap.size, 1, none⟩ (.int .u64 (j : Int))).setCell ⟨w.heap.size + 1, 0, none⟩ (.int .u64 0)).setCell ⟨w.heap.size + 1, 1, none⟩ (.int .u64 ((i : Int) % (j : Int)))).alloc (.cells #[.int .u64 0, .int .u64 ((i : Int) / (j : Int))] 62)).alloc (.cells #[.int .u64 0, .int .u64 ((i : Int) % (j : Int))] 62)).drew = w3 at S3 ⊢
      go_wp2
      go_roundg (i % j)
      case measure => omega
      case rel => exact ⟨j, i % j, hj, by omega, Nat.le_refl _, (by show _ = _; rw [← HG.out, Nat.gcd_comm i j, Nat.gcd_rec j i, Nat.gcd_comm]), S3⟩
set_option maxRecDepth 100000 in
set_option maxHeartbeats 4000000 in
theorem r_reduce_small (ng : Bool) (n d : Nat) (w : World) (n1 : n < 18446744073709551616) (d0 : 0 < d) (d1 : d < 18446744073709551616) :
    Calls Tryz.prog 31 #[.bool ng, .agg #[.int .u64 0, .int .u64 n], .agg #[.int .u64 0, .int .u64 d]] w fun e w' => e = .returned (.tuple #[.agg #[.int .i64 (rnum ng n d), .int .i64 (rden n d)], .int .i64 (rerr n d)]) ∧ Below w.heap.size w w' := by
  obtain ⟨g, hg⟩ : ∃ g, Nat.gcd n d = g := ⟨_, rfl⟩
  have g0 : 0 < g := by rw [← hg]; exact Nat.gcd_pos_of_pos_right _ d0
  have g1 : g ≤ d := by rw [← hg]; exact Nat.gcd_le_right _ d0
  have HG := Lib.hid hg
  clear hg
  obtain ⟨A, hA⟩ : ∃ A : Nat, (n : Int) / (g : Int) = (A : Int) := ⟨n / g, (Int.natCast_ediv _ _).symm⟩
  have hAn : A = n / g := by have := Int.natCast_ediv n g; omega
  have hAle : A ≤ n := by rw [hAn]; exact Nat.div_le_self _ _
  obtain ⟨C, hC⟩ : ∃ C : Nat, (d : Int) / (g : Int) = (C : Int) := ⟨d / g, (Int.natCast_ediv _ _).symm⟩
  have hCn : C = d / g := by have := Int.natCast_ediv d g; omega
  have hCle : C ≤ d := by rw [hCn]; exact Nat.div_le_self _ _
  have HF : Hid (n / Nat.gcd n d = A ∧ d / Nat.gcd n d = C) := ⟨by rw [HG.out, hAn], by rw [HG.out, hCn]⟩
  have HA := Lib.hid hA
  have HC := Lib.hid hC
  clear hA hC hAn hCn
  go_enter Tryz.func31, Tryz.ntmps31
  go_wp2_with fail
  refine (r_divisor_small n d _ n1 d1).mono ?_
  rintro e w1 ⟨rfl, hb⟩
  rw [HG.out]
  have P1 : Aside (Blk w1 w.heap.size 62 #[.int .u64 0, .int .u64 n] ∧ Blk w1 (w.heap.size + 1) 62 #[.int .u64 0, .int .u64 d] ∧ Blk w1 (w.heap.size + 1 + 1) 26 #[.int .i64 0, .int .i64 0] ∧ Below w.heap.size w w1) :=
    ⟨(((Blk.newAt rfl).alloc _).alloc _).later hb, ((Blk.newAt (by simp)).alloc _).later hb, (Blk.newAt (by simp)).later hb, bTr (bAl (bAl (bAl (Below.refl _ _) _) _) _) hb⟩
  clear hb
  obtain ⟨⟨c00, c01⟩, ⟨f00, f01⟩, k0⟩ := P1.out.1.two
  go_wp2_with fail
  refine (r_divide_small (n : Int) (g : Int) _ (by omega) (by omega) (by omega) (by omega)).mono ?_
  rintro e w2 ⟨rfl, hb⟩
  rw [HA.out]
  have P2 : Aside (Blk w2 w1.heap.size 62 #[.int .u64 0, .int .u64 g] ∧ Blk w2 (w.heap.size + 1) 62 #[.int .u64 0, .int .u64 d] ∧ Blk w2 (w.heap.size + 1 + 1) 26 #[.int .i64 0, .int .i64 0] ∧ Below w.heap.size w w2) :=
    ⟨(Blk.newAt rfl).later hb, (P1.out.2.1.alloc _).later hb, (P1.out.2.2.1.alloc _).later hb, (bAl P1.out.2.2.2 _).trans (hb.mono (by have := P1.out.2.2.2.size; simp; omega))⟩
  clear hb P1 c00 c01 f00 f01 k0
  obtain ⟨t1, ht1⟩ : ∃ t, (n : Int) % (g : Int) = t := ⟨_, rfl⟩
  rw [ht1]
  clear ht1
  obtain ⟨⟨c00, c01⟩, ⟨f00, f01⟩, k0⟩ := P2.out.1.two
  obtain ⟨⟨c10, c11⟩, ⟨f10, f11⟩, k1⟩ := P2.out.2.1.two
  have k2 : w1.heap.size < w2.heap.size + 1 := by omega
  have k3 : w.heap.size + 1 < w2.heap.size + 1 := by omega
  go_wp2_with fail
  refine (r_divide_small (d : Int) (g : Int) _ (by omega) (by omega) (by omega) (by omega)).mono ?_
  rintro e w3 ⟨rfl, hb⟩
  rw [HC.out]
  have P3 : Aside (Blk w3 w2.heap.size 62 #[.int .u64 0, .int .u64 A] ∧ Blk w3 (w.heap.size + 1 + 1) 26 #[.int .i64 0, .int .i64 0] ∧ Below w.heap.size w w3) :=
    ⟨((Blk.newAt rfl).alloc _).later hb, ((P2.out.2.2.1.alloc _).alloc _).later hb, (bAl (bAl P2.out.2.2.2 _) _).trans (hb.mono (by have := P2.out.2.2.2.size; simp; omega))⟩
  clear hb P2 c00 c01 f00 f01 k0 c10 c11 f10 f11 k1 k2 k3
  obtain ⟨t2, ht2⟩ : ∃ t, (d : Int) % (g : Int) = t := ⟨_, rfl⟩
  rw [ht2]
  clear ht2
  obtain ⟨⟨c00, c01⟩, ⟨f00, f01⟩, k0⟩ := P3.out.1.two
  obtain ⟨⟨c10, c11⟩, ⟨f10, f11⟩, k1⟩ := P3.out.2.1.two
  have k4 : w2.heap.size < w3.heap.size + 1 := by omega
  have k5 : w.heap.size + 1 + 1 < w3.heap.size + 1 := by omega
  have k6 : w2.heap.size < w3.heap.size + 1 + 1 := by omega
  have k7 : w.heap.size + 1 + 1 < w3.heap.size + 1 + 1 := by omega
  by_cases hA : A ≤ 1152921504606846976
  · have tA : decide ((A : Int) > 1152921504606846976) = false := decide_eq_false (by omega)
    by_cases hB : C ≤ 1152921504606846976
    · have tB : decide ((C : Int) > 1152921504606846976) = false := decide_eq_false (by omega)
      have HY := Lib.hid (r_yes ng n d (by rw [HF.out.1]; exact hA) (by rw [HF.out.2]; exact hB))
      cases ng
      · have HZ : Hid ((A : Int) = Frac.num false n d ∧ (C : Int) = Frac.den n d) := ⟨by unfold Frac.num; rw [HF.out.1]; rfl, by unfold Frac.den; rw [HF.out.2]⟩
        go_wp2
        refine bodyPost_ret (v := .tuple #[.agg #[.int .i64 (A : Int), .int .i64 (C : Int)], .int .i64 0]) (by simp [results, Tryz.results31, go_sem, c10, c11, k1, k5, k7]) rfl ⟨?_, ?_⟩
        · exact ret_quot ⟨HZ.out.1.trans HY.out.1, HZ.out.2.trans HY.out.2.1, HY.out.2.2⟩
        · exact bAl (bAl (bAl (bSt (bSt P3.out.2.2 (by simp; omega) _) (by simp; omega) _) _) _) _
      · have HZ : Hid (-(A : Int) = Frac.num true n d ∧ (C : Int) = Frac.den n d) := ⟨by unfold Frac.num; rw [HF.out.1]; rfl, by unfold Frac.den; rw [HF.out.2]⟩
        go_wp2
        refine bodyPost_ret (v := .tuple #[.agg #[.int .i64 (-(A : Int)), .int .i64 (C : Int)], .int .i64 0]) (by simp [results, Tryz.results31, go_sem, c10, c11, k1, k5, k7]) rfl ⟨?_, ?_⟩
        · exact ret_quot ⟨HZ.out.1.trans HY.out.1, HZ.out.2.trans HY.out.2.1, HY.out.2.2⟩
        · exact bAl (bAl (bAl (bSt (bSt P3.out.2.2 (by simp; omega) _) (by simp; omega) _) _) _) _
    · have tB : decide ((C : Int) > 1152921504606846976) = true := decide_eq_true (by omega)
      have HY := Lib.hid (r_no ng n d (fun h => hB (by rw [← HF.out.2]; exact h.2)))
      go_wp2
      refine bodyPost_ret (v := .tuple #[.agg #[.int .i64 0, .int .i64 0], .int .i64 6]) (by simp [results, Tryz.results31, go_sem, c10, c11, k1, k5, k7]) rfl ⟨?_, ?_⟩
      · exact ret_quot HY.out
      · exact bAl (bAl (bSt (bSt P3.out.2.2 (by simp; omega) _) (by simp; omega) _) _) _
  · have tA : decide ((A : Int) > 1152921504606846976) = true := decide_eq_true (by omega)
    have HY := Lib.hid (r_no ng n d (fun h => hA (by rw [← HF.out.1]; exact h.1)))
    go_wp2
    refine bodyPost_ret (v := .tuple #[.agg #[.int .i64 0, .int .i64 0], .int .i64 6]) (by simp [results, Tryz.results31, go_sem, c10, c11, k1, k5, k7]) rfl ⟨?_, ?_⟩
    · exact ret_quot HY.out
    · exact bAl (bAl (bSt (bSt P3.out.2.2 (by simp; omega) _) (by simp; omega) _) _) _
set_option maxHeartbeats 2000000 in
theorem r_new (n d : Int) (n0 : -9223372036854775808 ≤ n) (n1 : n < 9223372036854775808) (d0 : -9223372036854775808 ≤ d) (d1 : d < 9223372036854775808) (w : World) :
    Calls Tryz.prog 12 #[.int .i64 n, .int .i64 d] w fun e w' => e = .returned (.tuple #[.agg #[.int .i64 (newNum n d), .int .i64 (newDen n d)], .int .i64 (newErr n d)]) ∧ Below w.heap.size w w' := by
  by_cases hd : d = 0
  · subst hd
    have HX : Hid ((0 : Int) = newNum n 0 ∧ (0 : Int) = newDen n 0 ∧ (2 : Int) = newErr n 0) := by
      unfold newNum newDen newErr
      exact ⟨rfl, rfl, rfl⟩
    go_enter Tryz.func12, Tryz.ntmps12
    go_wp2
    refine bodyPost_ret (v := .tuple #[.agg #[.int .i64 0, .int .i64 0], .int .i64 2]) (by simp [results, Tryz.results12, go_sem]) rfl ⟨ret_quot HX.out, ?_⟩
    exact bAl (Below.refl _ _) _
  have HX : Hid (rnum (sgnOf n d) n.natAbs d.natAbs = newNum n d ∧ rden n.natAbs d.natAbs = newDen n d ∧ rerr n.natAbs d.natAbs = newErr n d) := by
    unfold newNum newDen newErr
    rw [if_neg hd, if_neg hd, if_neg hd]
    exact ⟨rfl, rfl, rfl⟩
  have hdz : (d == 0) = false := by rw [beq_eq_false_iff_ne]; exact hd
  have HS := Lib.hid (sgn_spell n d)
  go_enter Tryz.func12, Tryz.ntmps12
  go_wp2_with fail
  refine (size_any _ n0 n1 _).mono ?_
  rintro e w1 ⟨rfl, rfl⟩
  go_wp2_with fail
  refine (size_any _ d0 d1 _).mono ?_
  rintro e w1 ⟨rfl, rfl⟩
  go_wp2_with fail
  rw [HS.out]
  refine (r_reduce_small (sgnOf n d) n.natAbs d.natAbs _ (by omega) (by omega) (by omega)).mono ?_
  rintro e w1 ⟨rfl, hb⟩
  rw [HX.out.1, HX.out.2.1, HX.out.2.2]
  have PB := (Blk.newAt (w := w) (t := 26) (cs := #[.int .i64 0, .int .i64 0]) rfl).later hb
  obtain ⟨⟨c0, c1⟩, ⟨f0, f1⟩, k⟩ := PB.two
  have HB := Lib.hid (bTr (bAl (Below.refl _ _) _) hb)
  clear PB hb
  go_wp2
  refine bodyPost_ret (v := .tuple #[.agg #[.int .i64 (newNum n d), .int .i64 (newDen n d)], .int .i64 (newErr n d)]) (by simp [results, Tryz.results12, go_sem, c0, c1, k]) rfl ⟨rfl, ?_⟩
  exact bSt (bSt HB.out (by simp) _) (by simp) _
theorem gNew {a b : World} {row : Option Nat} (h : a.grownBy b row) {p : Addr} (hp : a.heap.size ≤ p.block) (v : Value) : a.grownBy (b.setCell p v) row :=
  ⟨h.os, h.tape, h.output, by simpa using h.size, fun j hj hn => (Below.heap_setCell b p v j (by omega)).trans (h.block j hj hn)⟩
theorem gAl {a b : World} {row : Option Nat} (h : a.grownBy b row) (o : Obj) : a.grownBy (b.alloc o) row :=
  ⟨h.os, h.tape, h.output, by have := h.size; simp; omega, fun j hj hn => (Below.heap_alloc b o j (Nat.lt_of_lt_of_le hj h.size)).trans (h.block j hj hn)⟩
theorem Tp.setFar {w : World} {B g : Nat} {o : Option Addr} {n c : Nat} {z : Nat → Int} (h : Tp w B g o n c z) {p : Addr} (hp : g < p.block) (v : Value) : Tp (w.setCell p v) B g o n c z := by
  obtain ⟨k, hk, hB⟩ := h.blk
  exact ⟨h.row.keep fun j hj => Below.heap_setCell w p v j (by have := h.bg; omega), h.bg, h.few, k, hk, hB.far (by omega) v⟩
def GetRat (P : Int → Int → Prop) (w : World) (B g : Nat) (o : Option Addr) (n c : Nat) (z : Nat → Int) (e : Ending) (w' : World) : Prop :=
  ∃ a d, P a d ∧ e = .returned (.agg #[.int .i64 a, .int .i64 d]) ∧ Tp w' B g o n c z ∧ w.grownBy w' (some g)
def SmallR (a d : Int) : Prop := ∃ x y : Int, -30 ≤ x ∧ x ≤ 30 ∧ 1 ≤ y ∧ y ≤ 12 ∧ a = newNum x y ∧ d = newDen x y
set_option maxHeartbeats 2000000 in
theorem tape_small {w : World} {B g : Nat} {o : Option Addr} {n c : Nat} {z : Nat → Int} (h : Tp w B g o n c z) :
    Calls Tryz.prog 5 #[.pointer (some ⟨g, 0, none⟩)] w (GetRat SmallR w B g o n c z) := by
  have hgl := h.lt
  have hne : some w.heap.size ≠ some g := by intro e; cases e; omega
  go_enter Tryz.func5, Tryz.ntmps5
  go_wp2_with fail
  refine (tape_range (-30) 30 (by omega) (by omega) (by omega) (h.alloc _)).mono ?_
  rintro e w1 ⟨x, ⟨hx0, hx1⟩, rfl, ht1, hg1⟩
  have B1 := Lib.hid ((Blk.newAt (w := w) (t := 26) (cs := #[.int .i64 0, .int .i64 0]) rfl).grown hg1 hne)
  have G1 := Lib.hid (gTr (gBe (bAl (Below.refl _ w) _)) hg1)
  clear hg1 h
  go_wp2_with fail
  refine (tape_range 1 12 (by omega) (by omega) (by omega) ht1).mono ?_
  rintro e w2 ⟨y, ⟨hy0, hy1⟩, rfl, ht2, hg2⟩
  have B2 := Lib.hid (B1.out.grown hg2 hne)
  have G2 := Lib.hid (gTr G1.out hg2)
  clear hg2 ht1 B1 G1
  go_wp2_with fail
  refine (r_new x y (by omega) (by omega) (by omega) (by omega) _).mono ?_
  rintro e w3 ⟨rfl, hb3⟩
  have B3 := Lib.hid (B2.out.later hb3)
  have G3 := Lib.hid (gTr G2.out (gBe hb3))
  have T3 := Lib.hid (ht2.later hb3)
  clear hb3 ht2 B2 G2
  obtain ⟨⟨c0, c1⟩, ⟨f0, f1⟩, k⟩ := B3.out.two
  have hP : Hid (SmallR (newNum x y) (newDen x y)) := ⟨x, y, hx0, hx1, hy0, hy1, rfl, rfl⟩
  go_wp2
  refine bodyPost_ret (v := .agg #[.int .i64 (newNum x y), .int .i64 (newDen x y)]) (by simp [results, Tryz.results5, go_sem, c0, c1, k]) rfl ⟨_, _, hP.out, rfl, ?_, ?_⟩
  · exact ((T3.out.setFar (by exact hgl) _).setFar (by exact hgl) _).alloc _
  · exact gAl (gNew (gNew G3.out (Nat.le_refl _) _) (Nat.le_refl _) _) _
/-- the fraction N / D in lowest terms: numerator, denominator, code -/
def qn (N D : Int) : Int := rnum (decide (N < 0)) N.natAbs D.natAbs
def qd (N D : Int) : Int := rden N.natAbs D.natAbs
def qe (N D : Int) : Int := rerr N.natAbs D.natAbs
theorem q_scale (k N D : Int) (hk : 0 < k) : qn (k * N) (k * D) = qn N D ∧ qd (k * N) (k * D) = qd N D ∧ qe (k * N) (k * D) = qe N D := by
  have hk' : 0 < k.natAbs := by omega
  have hs : decide (k * N < 0) = decide (N < 0) := by
    by_cases h : N < 0
    · rw [decide_eq_true h, decide_eq_true (Int.mul_neg_of_pos_of_neg hk h)]
    · rw [decide_eq_false h, decide_eq_false (by have := Int.mul_nonneg (Int.le_of_lt hk) (show 0 ≤ N by omega); omega)]
  unfold qn qd qe rnum rden rerr
  rw [hs, Int.natAbs_mul, Int.natAbs_mul, Frac.num_scale _ _ _ _ hk', Frac.den_scale _ _ _ hk', Frac.fit_scale _ _ _ hk']
  exact ⟨rfl, rfl, rfl⟩
theorem valid_iff (n d : Int) : Frac.valid n d = true ↔ 1 ≤ d ∧ d ≤ 1152921504606846976 ∧ -1152921504606846976 ≤ n ∧ n ≤ 1152921504606846976 ∧ Nat.gcd n.natAbs d.natAbs = 1 := by
  unfold Frac.valid
  simp only [Bool.and_eq_true, decide_eq_true_eq, beq_iff_eq]
  constructor
  · rintro ⟨⟨⟨⟨a, b⟩, c⟩, d⟩, e⟩; exact ⟨a, b, c, d, e⟩
  · rintro ⟨a, b, c, d, e⟩; exact ⟨⟨⟨⟨a, b⟩, c⟩, d⟩, e⟩
/-- where it fits: the fraction is valid, and it denotes N / D -/
theorem q_ok (N D : Int) (hD : 0 < D) (he : qe N D = 0) : Frac.valid (qn N D) (qd N D) = true ∧ qn N D * D = N * qd N D := by
  unfold qe rerr at he
  unfold qn qd rnum rden
  have hf : Frac.fit N.natAbs D.natAbs = true := by
    by_cases h : Frac.fit N.natAbs D.natAbs = true
    · exact h
    · rw [if_neg h] at he; omega
  rw [if_pos hf, if_pos hf]
  unfold Frac.fit at hf
  simp only [Bool.and_eq_true, decide_eq_true_eq] at hf
  unfold Frac.M at hf
  obtain ⟨g, hg⟩ : ∃ g, Nat.gcd N.natAbs D.natAbs = g := ⟨_, rfl⟩
  have g0 : 0 < g := by rw [← hg]; exact Nat.gcd_pos_of_pos_right _ (by omega)
  obtain ⟨x, hx⟩ : g ∣ N.natAbs := by rw [← hg]; exact Nat.gcd_dvd_left _ _
  obtain ⟨y, hy⟩ : g ∣ D.natAbs := by rw [← hg]; exact Nat.gcd_dvd_right _ _
  have hc : Nat.gcd x y = 1 := by
    have h1 : Nat.gcd (g * x) (g * y) = g := by rw [← hx, ← hy]; exact hg
    rw [Nat.gcd_mul_left] at h1
    exact Nat.eq_of_mul_eq_mul_left g0 (by omega)
  have hnx : N.natAbs / g = x := by rw [hx]; exact Nat.mul_div_cancel_left _ g0
  have hny : D.natAbs / g = y := by rw [hy]; exact Nat.mul_div_cancel_left _ g0
  rw [hg, hnx, hny] at hf
  have y0 : 0 < y := by
    rcases Nat.eq_zero_or_pos y with h | h
    · subst h; omega
    · exact h
  unfold Frac.num Frac.den
  rw [hg, hnx, hny]
  have hDg : D = (g : Int) * (y : Int) := by rw [← Int.natCast_mul, ← hy]; omega
  by_cases hn : N < 0
  · rw [decide_eq_true hn]
    simp only [if_true]
    have hNg : N = -((g : Int) * (x : Int)) := by rw [← Int.natCast_mul, ← hx]; omega
    refine ⟨(valid_iff _ _).2 ⟨by omega, by omega, by omega, by omega, ?_⟩, ?_⟩
    · rw [Int.natAbs_neg, Int.natAbs_natCast, Int.natAbs_natCast]; exact hc
    · rw [hDg, hNg]
      simp only [Int.neg_mul]
      rw [← Int.mul_assoc, Int.mul_comm (x : Int) (g : Int)]
  · rw [decide_eq_false hn]
    simp only [Bool.false_eq_true, if_false]
    have hNg : N = ((g : Int) * (x : Int)) := by rw [← Int.natCast_mul, ← hx]; omega
    refine ⟨(valid_iff _ _).2 ⟨by omega, by omega, by omega, by omega, ?_⟩, ?_⟩
    · rw [Int.natAbs_natCast, Int.natAbs_natCast]; exact hc
    · rw [hDg, hNg]
      rw [← Int.mul_assoc, Int.mul_comm (x : Int) (g : Int)]
theorem q_fits (N D : Int) (h0 : -1152921504606846976 ≤ N) (h1 : N ≤ 1152921504606846976) (h2 : D ≤ 1152921504606846976) (h3 : 0 < D) : qe N D = 0 := by
  unfold qe rerr
  have a := Nat.div_le_self N.natAbs (Nat.gcd N.natAbs D.natAbs)
  have b := Nat.div_le_self D.natAbs (Nat.gcd N.natAbs D.natAbs)
  rw [if_pos]
  unfold Frac.fit Frac.M
  rw [decide_eq_true (show N.natAbs / Nat.gcd N.natAbs D.natAbs ≤ 1152921504606846976 by omega), decide_eq_true (show D.natAbs / Nat.gcd N.natAbs D.natAbs ≤ 1152921504606846976 by omega)]
  rfl
theorem coprime_eq {a b c d : Nat} (h1 : Nat.gcd a b = 1) (h2 : Nat.gcd c d = 1) (hb : 0 < b) (hd : 0 < d) (h : a * d = c * b) : a = c ∧ b = d := by
  have k1 : b ∣ d := (Nat.Coprime.symm (show Nat.Coprime a b from h1)).dvd_of_dvd_mul_left (by rw [h]; exact Nat.dvd_mul_left _ _)
  have k2 : d ∣ b := (Nat.Coprime.symm (show Nat.Coprime c d from h2)).dvd_of_dvd_mul_left (by rw [← h]; exact Nat.dvd_mul_left _ _)
  have e : b = d := Nat.dvd_antisymm k1 k2
  subst e
  exact ⟨Nat.eq_of_mul_eq_mul_right hb h, rfl⟩
/-- valid fractions that denote one number are one fraction -/
theorem valid_eq {a b c d : Int} (h1 : Frac.valid a b = true) (h2 : Frac.valid c d = true) (h : a * d = c * b) : a = c ∧ b = d := by
  obtain ⟨b1, -, -, -, g1⟩ := (valid_iff a b).1 h1
  obtain ⟨d1, -, -, -, g2⟩ := (valid_iff c d).1 h2
  have hn : a.natAbs * d.natAbs = c.natAbs * b.natAbs := by rw [← Int.natAbs_mul, ← Int.natAbs_mul, h]
  obtain ⟨e1, e2⟩ := coprime_eq g1 g2 (by omega) (by omega) hn
  have e3 : b = d := by omega
  subst e3
  exact ⟨Int.eq_of_mul_eq_mul_right (by omega) h, rfl⟩
/-- a valid fraction is its own lowest terms -/
theorem q_self {a b : Int} (h : Frac.valid a b = true) : qn a b = a ∧ qd a b = b ∧ qe a b = 0 := by
  obtain ⟨b1, b2, a1, a2, g⟩ := (valid_iff a b).1 h
  have he := q_fits a b a1 a2 b2 (by omega)
  obtain ⟨v, e⟩ := q_ok a b (by omega) he
  obtain ⟨x, y⟩ := valid_eq v h e
  exact ⟨x, y, he⟩
/-- the value decides: two spellings of one number -/
theorem q_congr {N D N' D' : Int} (hD : 0 < D) (hD' : 0 < D') (h : N * D' = N' * D) : qn N D = qn N' D' ∧ qd N D = qd N' D' ∧ qe N D = qe N' D' := by
  obtain ⟨a1, a2, a3⟩ := q_scale D' N D hD'
  obtain ⟨b1, b2, b3⟩ := q_scale D N' D' hD
  have e1 : D' * N = D * N' := by rw [Int.mul_comm D' N, h, Int.mul_comm]
  have e2 : D' * D = D * D' := Int.mul_comm _ _
  rw [e1, e2] at a1 a2 a3
  exact ⟨a1.symm.trans b1, a2.symm.trans b2, a3.symm.trans b3⟩
/-- the numerator over the least common multiple has no divisor in common with the factor -/
theorem add_coprime (a b c d g : Int) (hab : Nat.gcd a.natAbs b.natAbs = 1) (hb : 0 < b) (hd : 0 < d) (hg : (Nat.gcd b.natAbs d.natAbs : Int) = g) :
    Nat.gcd (a * (d / g) + c * (b / g)).natAbs (b / g).natAbs = 1 := by
  have g0 : 0 < g := by rw [← hg]; have := Nat.gcd_pos_of_pos_left d.natAbs (show 0 < b.natAbs by omega); omega
  obtain ⟨y, hy⟩ : g ∣ d := by rw [← hg]; exact Int.ofNat_dvd_left.2 (Nat.gcd_dvd_right _ _)
  obtain ⟨x, hx⟩ : g ∣ b := by rw [← hg]; exact Int.ofNat_dvd_left.2 (Nat.gcd_dvd_left _ _)
  have ex : b / g = x := by rw [hx]; exact Int.mul_ediv_cancel_left _ (by omega)
  have ey : d / g = y := by rw [hy]; exact Int.mul_ediv_cancel_left _ (by omega)
  rw [ex, ey]
  have hxy : Nat.gcd x.natAbs y.natAbs = 1 := by
    have h1 : Nat.gcd (g.natAbs * x.natAbs) (g.natAbs * y.natAbs) = g.natAbs := by rw [← Int.natAbs_mul, ← Int.natAbs_mul, ← hx, ← hy]; omega
    rw [Nat.gcd_mul_left] at h1
    exact Nat.eq_of_mul_eq_mul_left (show 0 < g.natAbs by omega) (by omega)
  have hax : Nat.gcd a.natAbs x.natAbs = 1 := by
    have : x.natAbs ∣ b.natAbs := by rw [hx, Int.natAbs_mul]; exact Nat.dvd_mul_left _ _
    exact Nat.Coprime.coprime_dvd_right this hab
  have hay : Nat.gcd (a * y).natAbs x.natAbs = 1 := by
    rw [Int.natAbs_mul]
    exact Nat.Coprime.mul_left hax (Nat.Coprime.symm hxy)
  have h : Int.gcd (a * y + c * x) x = 1 := by
    rw [Int.gcd_add_mul_right_left]; exact hay
  exact h
theorem add_scale (a b c d g : Int) (hb : 0 < b) (hd : 0 < d) (hg : (Nat.gcd b.natAbs d.natAbs : Int) = g) :
    g * (a * (d / g) + c * (b / g)) = a * d + c * b ∧ g * (d * (b / g)) = b * d ∧ 0 < g ∧ 0 < b / g ∧ b / g ≤ b ∧ 0 < d / g ∧ d / g ≤ d := by
  have g0 : 0 < g := by rw [← hg]; have := Nat.gcd_pos_of_pos_left d.natAbs (show 0 < b.natAbs by omega); omega
  obtain ⟨y, hy⟩ : g ∣ d := by rw [← hg]; exact Int.ofNat_dvd_left.2 (Nat.gcd_dvd_right _ _)
  obtain ⟨x, hx⟩ : g ∣ b := by rw [← hg]; exact Int.ofNat_dvd_left.2 (Nat.gcd_dvd_left _ _)
  have ex : b / g = x := by rw [hx]; exact Int.mul_ediv_cancel_left _ (by omega)
  have ey : d / g = y := by rw [hy]; exact Int.mul_ediv_cancel_left _ (by omega)
  have x0 : 0 < x := by
    rcases Int.lt_or_le 0 x with h | h
    · exact h
    · have := Int.mul_nonpos_of_nonneg_of_nonpos (Int.le_of_lt g0) h; omega
  have y0 : 0 < y := by
    rcases Int.lt_or_le 0 y with h | h
    · exact h
    · have := Int.mul_nonpos_of_nonneg_of_nonpos (Int.le_of_lt g0) h; omega
  rw [ex, ey]
  refine ⟨?_, ?_, g0, x0, ?_, y0, ?_⟩
  · rw [hx, hy, Int.mul_add, ← Int.mul_assoc, ← Int.mul_assoc, Int.mul_comm g a, Int.mul_comm g c, Int.mul_assoc, Int.mul_assoc]
  · rw [hx, hy]; simp only [Int.mul_comm, Int.mul_left_comm]
  · have := Int.mul_le_mul_of_nonneg_right (show (1:Int) ≤ g by omega) (Int.le_of_lt x0); rw [hx]; omega
  · have := Int.mul_le_mul_of_nonneg_right (show (1:Int) ≤ g by omega) (Int.le_of_lt y0); rw [hy]; omega
/-- the valid fraction p / q denotes N / D, and how great N and D may be -/
structure Q (p q N D : Int) (A B : Nat) : Prop where
  v : Frac.valid p q = true
  e : p * D = N * q
  d : 0 < D
  n : N.natAbs ≤ A
  m : D.natAbs ≤ B
theorem q_le {N D : Int} (hD : 0 < D) (he : qe N D = 0) : (qn N D).natAbs ≤ N.natAbs ∧ (qd N D).natAbs ≤ D.natAbs := by
  have hf : Frac.fit N.natAbs D.natAbs = true := by
    unfold qe rerr at he
    by_cases h : Frac.fit N.natAbs D.natAbs = true
    · exact h
    · rw [if_neg h] at he; omega
  unfold qn qd rnum rden Frac.num Frac.den
  rw [if_pos hf, if_pos hf]
  have a := Nat.div_le_self N.natAbs (Nat.gcd N.natAbs D.natAbs)
  have b := Nat.div_le_self D.natAbs (Nat.gcd N.natAbs D.natAbs)
  generalize N.natAbs / Nat.gcd N.natAbs D.natAbs = x at a ⊢
  generalize D.natAbs / Nat.gcd N.natAbs D.natAbs = y at b ⊢
  refine ⟨?_, by omega⟩
  split <;> omega
theorem Q.of {N D : Int} {A B : Nat} (d : 0 < D) (n : N.natAbs ≤ A) (m : D.natAbs ≤ B) (hA : A ≤ 1152921504606846976) (hB : B ≤ 1152921504606846976) : Q (qn N D) (qd N D) N D A B ∧ qe N D = 0 := by
  have he := q_fits N D (by omega) (by omega) (by omega) d
  obtain ⟨v, e⟩ := q_ok N D d he
  exact ⟨⟨v, e, d, n, m⟩, he⟩
theorem Q.den {p q N D : Int} {A B : Nat} (h : Q p q N D A B) : 0 < q := by have := ((valid_iff p q).1 h.v).1; omega
theorem abs_mul_le {x y : Int} {A B : Nat} (hx : x.natAbs ≤ A) (hy : y.natAbs ≤ B) : (x * y).natAbs ≤ A * B := by rw [Int.natAbs_mul]; exact Nat.mul_le_mul hx hy
theorem Q.add {p q N D p' q' N' D' : Int} {A B A' B' : Nat} (h : Q p q N D A B) (k : Q p' q' N' D' A' B') (hA : A * B' + A' * B ≤ 1152921504606846976) (hB : B * B' ≤ 1152921504606846976) :
    Q (qn (p * q' + p' * q) (q * q')) (qd (p * q' + p' * q) (q * q')) (N * D' + N' * D) (D * D') (A * B' + A' * B) (B * B') ∧ qe (p * q' + p' * q) (q * q') = 0 := by
  have h1 := h.e
  have k1 := k.e
  obtain ⟨e1, e2, e3⟩ := q_congr (N := p * q' + p' * q) (D := q * q') (N' := N * D' + N' * D) (D' := D * D') (Int.mul_pos h.den k.den) (Int.mul_pos h.d k.d) (by grind)
  rw [e1, e2, e3]
  refine Q.of (Int.mul_pos h.d k.d) ?_ (abs_mul_le h.m k.m) hA hB
  have a := abs_mul_le h.n k.m
  have b := abs_mul_le k.n h.m
  omega
theorem Q.sub {p q N D p' q' N' D' : Int} {A B A' B' : Nat} (h : Q p q N D A B) (k : Q p' q' N' D' A' B') (hA : A * B' + A' * B ≤ 1152921504606846976) (hB : B * B' ≤ 1152921504606846976) :
    Q (qn (p * q' + -p' * q) (q * q')) (qd (p * q' + -p' * q) (q * q')) (N * D' - N' * D) (D * D') (A * B' + A' * B) (B * B') ∧ qe (p * q' + -p' * q) (q * q') = 0 := by
  have h1 := h.e
  have k1 := k.e
  obtain ⟨e1, e2, e3⟩ := q_congr (N := p * q' + -p' * q) (D := q * q') (N' := N * D' - N' * D) (D' := D * D') (Int.mul_pos h.den k.den) (Int.mul_pos h.d k.d) (by grind)
  rw [e1, e2, e3]
  refine Q.of (Int.mul_pos h.d k.d) ?_ (abs_mul_le h.m k.m) hA hB
  have a := abs_mul_le h.n k.m
  have b := abs_mul_le k.n h.m
  omega
/-- Valid of the opposite, and of the reciprocal -/
theorem valid_neg {a b : Int} (h : Frac.valid a b = true) : Frac.valid (-a) b = true := by
  obtain ⟨h1, h2, h3, h4, h5⟩ := (valid_iff a b).1 h
  exact (valid_iff _ _).2 ⟨h1, h2, by omega, by omega, by rw [Int.natAbs_neg]; exact h5⟩
theorem wrap_i64 (g : Int) (h0 : 0 ≤ g) (h1 : g ≤ 1152921504606846976) : wrap64 g = g := by unfold wrap64; omega
theorem Blk.newD (w : World) (t : TypeId) (cs : Array Value) : Blk (w.drew.alloc (.cells cs t)) w.heap.size t cs := Blk.new w.drew t cs
/-- a struct of two words made since world w3, all that lay there as it was -/
def NumP (w3 : World) (t : TypeId) (x y : Value) (s : Value) (wx : World) : Prop := ∃ g : Nat, s = .pointer (some ⟨g, 0, none⟩) ∧ w3.heap.size ≤ g ∧ Blk wx g t #[x, y] ∧ Below w3.heap.size w3 wx
theorem bSt2 {a w : World} {B : Nat} (h : Below B a w) {p q : Addr} (hp : B ≤ p.block) (hq : B ≤ q.block) (u v : Value) : Below B a ((w.setCell p u).setCell q v) := (h.setCell hp u).setCell hq v
theorem quot_q (z d f : Int) (h0 : 0 < d) (h1 : 0 < f) : rnum (decide (z < 0)) z.natAbs (d.natAbs * f.natAbs) = qn z (d * f) ∧ rden z.natAbs (d.natAbs * f.natAbs) = qd z (d * f) ∧ rerr z.natAbs (d.natAbs * f.natAbs) = qe z (d * f) := by
  unfold qn qd qe
  rw [Int.natAbs_mul]
  exact ⟨rfl, rfl, rfl⟩
set_option maxRecDepth 100000 in
set_option maxHeartbeats 4000000 in
theorem add_yes (a b c d : Int) (hv : Frac.valid a b = true) (hv2 : Frac.valid c d = true) (w : World) :
    Calls Tryz.prog 27 #[.agg #[.int .i64 a, .int .i64 b], .agg #[.int .i64 c, .int .i64 d]] w fun e w' => e = .returned (.tuple #[.agg #[.int .i64 (qn (a * d + c * b) (b * d)), .int .i64 (qd (a * d + c * b) (b * d))], .int .i64 (qe (a * d + c * b) (b * d))]) ∧ Below w.heap.size w w' := by
  obtain ⟨b0, b1, a0, a1, hab⟩ := (valid_iff a b).1 hv
  obtain ⟨d0, d1, c0, c1, hcd⟩ := (valid_iff c d).1 hv2
  obtain ⟨g, hg⟩ : ∃ g : Int, ((Nat.gcd b.natAbs d.natAbs : Nat) : Int) = g := ⟨_, rfl⟩
  obtain ⟨s1, s2, g0, x0, x1, y0, y1⟩ := add_scale a b c d g (by omega) (by omega) hg
  have hco := add_coprime a b c d g hab (by omega) (by omega) hg
  go_enter Tryz.func27, Tryz.ntmps27
  go_wp2_with fail
  refine (valid_any _ _ (by omega) (by omega) (by omega) (by omega) _).mono ?_
  rintro e w1 ⟨rfl, hb⟩
  rw [hv]
  obtain ⟨hc, hf⟩ := bcell hb
  have hz : w.heap.size + 1 + 1 < w1.heap.size := by have := hb.size; simp at this; omega
  go_wp2_with fail
  refine (valid_any _ _ (by omega) (by omega) (by omega) (by omega) _).mono ?_
  rintro e w2 ⟨rfl, hb2⟩
  rw [hv2]
  have hb3 := bTr hb hb2
  have P2 := Lib.hid (And.intro ((((Blk.newAt (w := w) (t := 26) (cs := #[.int .i64 a, .int .i64 b]) rfl).alloc _).alloc _).later hb3) (And.intro (((Blk.newAt (w := w.alloc (.cells #[.int .i64 a, .int .i64 b] 26)) (n := w.heap.size + 1) (t := 26) (cs := #[.int .i64 c, .int .i64 d]) (by simp)).alloc _).later hb3) (And.intro ((Blk.newAt (w := (w.alloc (.cells #[.int .i64 a, .int .i64 b] 26)).alloc (.cells #[.int .i64 c, .int .i64 d] 26)) (n := w.heap.size + 1 + 1) (t := 26) (cs := #[.int .i64 0, .int .i64 0]) (by simp)).later hb3) (bTr (bAl (bAl (bAl (Below.refl _ _) _) _) _) hb3))))
  clear hb hb2 hb3 hc hf hz
  obtain ⟨⟨e1, e2⟩, -, hz⟩ := P2.out.1.two
  obtain ⟨⟨e3, e4⟩, -, hz2⟩ := P2.out.2.1.two
  have hgb : g ≤ b := by rw [← hg]; have := Nat.gcd_le_left d.natAbs (show 0 < b.natAbs by omega); omega
  have hgw : wrap64 g = g := wrap_i64 g (by omega) (by omega)
  have HG := Lib.hid hg
  have HW := Lib.hid hgw
  have HCO := Lib.hid hco
  have HQ : Hid (rnum (decide (a * (d / g) + c * (b / g) < 0)) (a * (d / g) + c * (b / g)).natAbs (d.natAbs * (b / g).natAbs) = qn (a * d + c * b) (b * d) ∧ rden (a * (d / g) + c * (b / g)).natAbs (d.natAbs * (b / g).natAbs) = qd (a * d + c * b) (b * d) ∧ rerr (a * (d / g) + c * (b / g)).natAbs (d.natAbs * (b / g).natAbs) = qe (a * d + c * b) (b * d)) := by
    obtain ⟨q1, q2, q3⟩ := quot_q (a * (d / g) + c * (b / g)) d (b / g) (by omega) (by omega)
    obtain ⟨t1, t2, t3⟩ := q_scale g (a * (d / g) + c * (b / g)) (d * (b / g)) g0
    rw [s1, s2] at t1 t2 t3
    exact ⟨q1.trans t1.symm, q2.trans t2.symm, q3.trans t3.symm⟩
  clear hg hgw hco s1 s2 hab hcd
  go_wp2_with fail
  go_quiet ((first | (go_at_call 21; exact qSame (magnitude_any _ (by omega) (by omega) _)) | (go_at_call 39; exact Calls.quiet_of (gcd_any _ _ (by omega) (by omega) _))))
  rw [HG.out, HW.out]
  have P3 := Lib.hid (And.intro (P2.out.1.drewN nq) (And.intro (P2.out.2.1.drewN nq) (And.intro (P2.out.2.2.1.drewN nq) (bDr P2.out.2.2.2 nq))))
  clear e1 e2 e3 e4 hz hz2 P2
  generalize w2.drewN nq = w3 at P3 ⊢
  have KEEP := Lib.hid (show ∀ W, Below w3.heap.size w3 W → _ from fun W hW => show (W.cell? ⟨w.heap.size, 0, none⟩ = some (.int .i64 a) ∧ W.cell? ⟨w.heap.size, 1, none⟩ = some (.int .i64 b) ∧ W.cell? ⟨w.heap.size + 1, 0, none⟩ = some (.int .i64 c) ∧ W.cell? ⟨w.heap.size + 1, 1, none⟩ = some (.int .i64 d)) from ⟨((P3.out.1.later hW).two).1.1, ((P3.out.1.later hW).two).1.2, ((P3.out.2.1.later hW).two).1.1, ((P3.out.2.1.later hW).two).1.2⟩)
  obtain ⟨⟨e1, e2⟩, -, hz⟩ := P3.out.1.two
  obtain ⟨⟨e3, e4⟩, -, hz2⟩ := P3.out.2.1.two
  have HX := Lib.hid (Below.refl w3.heap.size w3)
  have hgn : ¬ g = 0 := by omega
  have hx := Rep.hi_bd (a * (d / g))
  have hy := Rep.lo_bd (a * (d / g))
  have kx := Rep.hi_bd (c * (b / g))
  have ky := Rep.lo_bd (c * (b / g))
  have HH := Lib.hid (Rep.hi_congr_add (a * (d / g)) (c * (b / g)))
  have HL := Lib.hid (Rep.lo_congr_add (a * (d / g)) (c * (b / g)))
  have pb : -9223372036854775808 ≤ d / g ∧ d / g < 9223372036854775808 ∧ -9223372036854775808 ≤ b / g ∧ b / g < 9223372036854775808 ∧ -9223372036854775808 ≤ a ∧ a < 9223372036854775808 ∧ -9223372036854775808 ≤ c ∧ c < 9223372036854775808 := by omega
  obtain ⟨pb1, pb2, pb3, pb4, pb5, pb6, pb7, pb8⟩ := pb
  have t1 : IntKind.i64.wrap (d.tdiv g) = d / g := IntWalk.i64_quo d g ⟨by omega, by omega, by omega⟩
  have t2 : IntKind.i64.wrap (b.tdiv g) = b / g := IntWalk.i64_quo b g ⟨by omega, by omega, by omega⟩
  have hzl : -170141183460469231731687303715884105728 < a * (d / g) + c * (b / g) ∧ a * (d / g) + c * (b / g) < 170141183460469231731687303715884105728 := by
    have u1 := abs_mul_le (x := a) (y := d / g) (A := 1152921504606846976) (B := 1152921504606846976) (by omega) (by omega)
    have u2 := abs_mul_le (x := c) (y := b / g) (A := 1152921504606846976) (B := 1152921504606846976) (by omega) (by omega)
    omega
  go_upto_region 4 with (fail)
  go_cut [7] (fun s7 wx => NumP w3 44 (.int .u64 (Rep.hi (a * (d / g) + c * (b / g)))) (.int .u64 (Rep.lo (a * (d / g) + c * (b / g)))) s7 wx)
  case first =>
    go_wp2_with fail
    go_region_held3 (fun w' => w'.cell? ⟨w.heap.size, 0, none⟩ = some (.int .i64 a) ∧ w'.cell? ⟨w.heap.size, 1, none⟩ = some (.int .i64 b) ∧ w'.cell? ⟨w.heap.size + 1, 0, none⟩ = some (.int .i64 c) ∧ w'.cell? ⟨w.heap.size + 1, 1, none⟩ = some (.int .i64 d)) (first | exact KEEP.out _ HX.out | exact KEEP.out _ (bD1 HX.out) | exact KEEP.out _ (bAl HX.out _) | exact KEEP.out _ (bAl (bD1 HX.out) _) | exact KEEP.out _ (bD1 (bAl HX.out _)) | exact KEEP.out _ (bSt2 HX.out PN.out.2 PN.out.2 _ _) | exact KEEP.out _ (bD1 (bSt2 HX.out PN.out.2 PN.out.2 _ _)) | go_keep)
      (first | (go_at_call 46; refine (product_any _ _ _ ?_ ?_ ?_ ?_).mono ?_; (assumption); (assumption); (assumption); (assumption); rintro e w' ⟨rfl, hb⟩; (first | (have PN := Lib.hid (And.intro (Blk.later (Blk.newD _ _ _) hb) HX.out.size)) | (have PN := Lib.hid (And.intro (Blk.later (Blk.new _ _ _) hb) HX.out.size)) | (have PN := Lib.hid (And.intro (Blk.later PN.out.1 hb) PN.out.2)) | skip); (first | (obtain ⟨⟨n0, n1⟩, ⟨m0, m1⟩, nk⟩ := PN.out.1.two) | skip); have HX := Lib.hid (bTr (by first | exact HX.out | exact bD1 HX.out | exact bAl HX.out _ | exact bD1 (bAl HX.out _) | exact bAl (bD1 HX.out) _) hb)) | (go_at_call 24; refine (plus_any _ _ _ _ _ hx.1 hy.1 kx.1 ky.1 hx.2 hy.2 kx.2 ky.2).mono ?_; rintro e w' ⟨rfl, hb⟩; rw [HH.out, HL.out]; (first | (have PN := Lib.hid (And.intro (Blk.later (Blk.newD _ _ _) hb) HX.out.size)) | (have PN := Lib.hid (And.intro (Blk.later (Blk.new _ _ _) hb) HX.out.size)) | (have PN := Lib.hid (And.intro (Blk.later PN.out.1 hb) PN.out.2)) | skip); (first | (obtain ⟨⟨n0, n1⟩, ⟨m0, m1⟩, nk⟩ := PN.out.1.two) | skip); have HX := Lib.hid (bTr (by first | exact HX.out | exact bD1 HX.out | exact bAl HX.out _ | exact bD1 (bAl HX.out _) | exact bAl (bD1 HX.out) _) hb)))
    all_goals (go_wp2_with fail; go_meet)
    all_goals (first | exact ⟨_, rfl, HX.out.size, Blk.new _ _ _, bAl HX.out _⟩ | exact ⟨_, rfl, PN.out.2, (PN.out.1.set0 _).set1 _, bSt2 HX.out PN.out.2 PN.out.2 _ _⟩)
  case rest =>
    have hgr0 := P3.out.2.2.1.lt
    clear HX
    obtain ⟨g7, rfl, hg7, hn7, hx7⟩ := hcut
    have P4 := Lib.hid (And.intro (P3.out.1.later hx7) (And.intro (P3.out.2.1.later hx7) (And.intro (P3.out.2.2.1.later hx7) (And.intro (bTr P3.out.2.2.2 hx7) hn7))))
    have hgr : w.heap.size + 1 + 1 < g7 := by omega
    clear P3 KEEP hn7 hx7 e1 e2 e3 e4 hz hz2
    have pd : -9223372036854775808 ≤ d ∧ d < 9223372036854775808 := by omega
    obtain ⟨pd1, pd2⟩ := pd
    have hdp : 0 < d.natAbs := by omega
    have hdq : d.natAbs < 18446744073709551616 := by omega
    have hfp : 0 < (b / g).natAbs := by omega
    have hfq : (b / g).natAbs < 18446744073709551616 := by omega
    have KEEP := Lib.hid (show ∀ W, Below wc.heap.size wc W → _ from fun W hW => show (W.cell? ⟨w.heap.size, 1, none⟩ = some (.int .i64 b) ∧ W.cell? ⟨w.heap.size + 1, 1, none⟩ = some (.int .i64 d) ∧ W.cell? ⟨g7, 0, none⟩ = some (.int .u64 (Rep.hi (a * (d / g) + c * (b / g)))) ∧ W.cell? ⟨g7, 1, none⟩ = some (.int .u64 (Rep.lo (a * (d / g) + c * (b / g))))) from ⟨((P4.out.1.later hW).two).1.2, ((P4.out.2.1.later hW).two).1.2, ((P4.out.2.2.2.2.later hW).two).1.1, ((P4.out.2.2.2.2.later hW).two).1.2⟩)
    obtain ⟨k1, k2, k3, k4⟩ := KEEP.out _ (Below.refl _ _)
    have HX := Lib.hid (Below.refl wc.heap.size wc)
    obtain ⟨⟨r0, r1⟩, ⟨q0, q1⟩, hzr⟩ := P4.out.2.2.1.two
    go_wp2_with fail
    go_region_held3 (fun w' => w'.cell? ⟨w.heap.size, 1, none⟩ = some (.int .i64 b) ∧ w'.cell? ⟨w.heap.size + 1, 1, none⟩ = some (.int .i64 d) ∧ w'.cell? ⟨g7, 0, none⟩ = some (.int .u64 (Rep.hi (a * (d / g) + c * (b / g)))) ∧ w'.cell? ⟨g7, 1, none⟩ = some (.int .u64 (Rep.lo (a * (d / g) + c * (b / g))))) (first | exact KEEP.out _ HX.out | exact KEEP.out _ (bD1 HX.out) | (go_split_ands; refine ⟨?_, ?_, ?_, ?_⟩ <;> (rw [World.cell?_setCell_other _ _ _ _ (by first | (simp; done) | (simp; omega)), World.cell?_setCell_other _ _ _ _ (by first | (simp; done) | (simp; omega))]; assumption)) | go_keep)
      (first | (go_at_call 21; refine (magnitude_any _ (by assumption) (by assumption) _).mono ?_; rintro e w' ⟨rfl, rfl⟩) | (go_at_call 16; refine (quotient_any _ _ _ _ hzl.1 hzl.2 hdp hdq hfp hfq HCO.out).mono ?_; rintro e w' ⟨rfl, hb⟩; (first | (have PN := Lib.hid (And.intro (Blk.later (Blk.newD _ _ _) hb) HX.out.size)) | (have PN := Lib.hid (And.intro (Blk.later (Blk.new _ _ _) hb) HX.out.size)) | (have PN := Lib.hid (And.intro (Blk.later PN.out.1 hb) PN.out.2)) | skip); (first | (obtain ⟨⟨n0, n1⟩, ⟨m0, m1⟩, nk⟩ := PN.out.1.two) | skip); have HX := Lib.hid (bTr (by first | exact HX.out | exact bD1 HX.out | exact bAl HX.out _ | exact bD1 (bAl HX.out _) | exact bAl (bD1 HX.out) _) hb); have PR := P4.out.2.2.1.later HX.out; obtain ⟨⟨r0, r1⟩, ⟨q0, q1⟩, hzr⟩ := PR.two; clear PR))
    go_wp2
    refine bodyPost_ret (v := .tuple #[.agg #[.int .i64 (rnum (decide (a * (d / g) + c * (b / g) < 0)) (a * (d / g) + c * (b / g)).natAbs (d.natAbs * (b / g).natAbs)), .int .i64 (rden (a * (d / g) + c * (b / g)).natAbs (d.natAbs * (b / g).natAbs))], .int .i64 (rerr (a * (d / g) + c * (b / g)).natAbs (d.natAbs * (b / g).natAbs))]) (by simp [results, Tryz.results27, go_sem, r0, r1, hzr]) rfl ⟨ret_quot HQ.out, ?_⟩
    exact bSt (bSt (bTr P4.out.2.2.2.1 HX.out) (by simp; omega) _) (by simp; omega) _
set_option maxHeartbeats 2000000 in
theorem sub_yes (a b c d : Int) (hv : Frac.valid a b = true) (hv2 : Frac.valid c d = true) (w : World) :
    Calls Tryz.prog 9 #[.agg #[.int .i64 a, .int .i64 b], .agg #[.int .i64 c, .int .i64 d]] w fun e w' => e = .returned (.tuple #[.agg #[.int .i64 (qn (a * d + -c * b) (b * d)), .int .i64 (qd (a * d + -c * b) (b * d))], .int .i64 (qe (a * d + -c * b) (b * d))]) ∧ Below w.heap.size w w' := by
  obtain ⟨b0, b1, a0, a1, hab⟩ := (valid_iff a b).1 hv
  obtain ⟨d0, d1, c0, c1, hcd⟩ := (valid_iff c d).1 hv2
  clear hab hcd
  go_enter Tryz.func9, Tryz.ntmps9
  go_wp2_with fail
  refine (valid_any _ _ (by omega) (by omega) (by omega) (by omega) _).mono ?_
  rintro e w1 ⟨rfl, hb⟩
  rw [hv2]
  have P1 := Lib.hid (And.intro ((((Blk.newAt (w := w) (t := 26) (cs := #[.int .i64 a, .int .i64 b]) rfl).alloc _).alloc _).later hb) (And.intro (((Blk.newAt (w := w.alloc (.cells #[.int .i64 a, .int .i64 b] 26)) (n := w.heap.size + 1) (t := 26) (cs := #[.int .i64 c, .int .i64 d]) (by simp)).alloc _).later hb) (And.intro ((Blk.newAt (w := (w.alloc (.cells #[.int .i64 a, .int .i64 b] 26)).alloc (.cells #[.int .i64 c, .int .i64 d] 26)) (n := w.heap.size + 1 + 1) (t := 26) (cs := #[.int .i64 0, .int .i64 0]) (by simp)).later hb) (bTr (bAl (bAl (bAl (Below.refl _ _) _) _) _) hb))))
  clear hb
  obtain ⟨⟨e1, e2⟩, -, hz⟩ := P1.out.1.two
  obtain ⟨⟨e3, e4⟩, -, hz2⟩ := P1.out.2.1.two
  obtain ⟨⟨r0, r1⟩, ⟨q0, q1⟩, hzr⟩ := P1.out.2.2.1.two
  go_wp2_with fail
  refine (add_yes a b (-c) d hv (valid_neg hv2) _).mono ?_
  rintro e w2 ⟨rfl, hb2⟩
  have PR := P1.out.2.2.1.later hb2
  clear r0 r1 q0 q1 hzr
  obtain ⟨⟨r0, r1⟩, ⟨q0, q1⟩, hzr⟩ := PR.two
  have HB2 := Lib.hid (bTr P1.out.2.2.2 hb2)
  clear PR hb2
  go_wp2
  refine bodyPost_ret (v := .tuple #[.agg #[.int .i64 (qn (a * d + -c * b) (b * d)), .int .i64 (qd (a * d + -c * b) (b * d))], .int .i64 (qe (a * d + -c * b) (b * d))]) (by simp [results, Tryz.results9, go_sem, r0, r1, hzr]) rfl ⟨rfl, ?_⟩
  exact bSt (bSt HB2.out (by simp; omega) _) (by simp; omega) _
/-- what is told of a slice of integers that came in: it is nil, or it leads to a row of c cells, the numbers zs -/
def IsRow (k : IntKind) (w : World) (a : Option Addr) (len cap : Nat) (zs : List Int) : Prop :=
  (a = none ∧ len = 0 ∧ cap = 0 ∧ zs = []) ∨
  ∃ x, a = some x ∧ len ≤ cap ∧ cap ≤ maxLen ∧ zs.length = cap ∧ (∀ i, i < zs.length → w.cell? (x.add i) = some (.int k (zs.getD i 0))) ∧ ∀ n ∈ zs, (Lit.int k n).wf = true
theorem row_of {w : World} {o : Option Addr} {n c : Nat} {zs : List Int} (h : IsRow .i64 w o n c zs) :
    RowB w w.heap.size o n (fun i => zs.getD i 0) ∧ n ≤ c ∧ c ≤ 9223372036854775807 ∧ (o = none → n = 0 ∧ c = 0) := by
  rcases h with ⟨rfl, rfl, rfl, rfl⟩ | ⟨x, rfl, hl, hm, hz, hc, hw⟩
  · exact ⟨fun i hi => absurd hi (by omega), by omega, by omega, fun _ => ⟨rfl, rfl⟩⟩
  · refine ⟨fun i hi => ?_, hl, by unfold maxLen at hm; exact hm, fun h => by cases h⟩
    have hci := hc i (by omega)
    have hc0 := hc 0 (by omega)
    obtain ⟨b, off, spot⟩ := x
    have hs : spot = none := by simpa [Addr.add] using World.cell?_spot hc0
    subst hs
    have hb := World.block_lt_of_cell? w _ hc0
    refine ⟨⟨b, off, rfl, by simpa [Addr.add] using hb, ?_⟩, ?_⟩
    · by_cases h0 : i = 0
      · subst h0; simpa [Addr.add] using hci
      · simpa [Addr.add, h0] using hci
    · have hmem : zs.getD i 0 ∈ zs := by
        rw [List.getD_eq_getElem?_getD, List.getElem?_eq_getElem (by omega)]
        exact List.getElem_mem _
      obtain ⟨a, b⟩ := bounds_i64 (hw _ hmem)
      exact ⟨a, Int.lt_of_le_of_lt b (by omega)⟩
def Held (w : World) (l : List (Nat × Int × Int)) : Prop := ∀ x ∈ l, Blk w x.1 26 #[.int .i64 x.2.1, .int .i64 x.2.2]
theorem Held.nil (w : World) : Held w [] := fun x hx => by cases hx
theorem Held.later {w w' : World} {l : List (Nat × Int × Int)} (h : Held w l) (hb : Below w.heap.size w w') : Held w' l := fun x hx => (h x hx).later hb
theorem Held.add {w : World} {l : List (Nat × Int × Int)} (h : Held w l) (p q : Int) : Held (w.alloc (.cells #[.int .i64 p, .int .i64 q] 26)) ((w.heap.size, p, q) :: l) := fun x hx => by
  rcases List.mem_cons.1 hx with rfl | hx
  · exact Blk.new _ _ _
  · exact (h x hx).alloc _
theorem Held.alloc {w : World} {l : List (Nat × Int × Int)} (h : Held w l) (o : Obj) : Held (w.alloc o) l := fun x hx => (h x hx).alloc o
theorem Held.grown {w w' : World} {l : List (Nat × Int × Int)} {g : Nat} (h : Held w l) (hg : w.grownBy w' (some g)) (hn : ∀ x ∈ l, x.1 ≠ g) : Held w' l := fun x hx => (h x hx).grown hg (fun e => hn x hx (by injection e))
theorem Q.self {p q : Int} {A B : Nat} (h : Frac.valid p q = true) (hA : p.natAbs ≤ A) (hB : q.natAbs ≤ B) : Q p q p q A B := ⟨h, rfl, by have := ((valid_iff p q).1 h).1; omega, hA, hB⟩
theorem small_q {a d : Int} (h : SmallR a d) : Q a d a d 30 12 := by
  obtain ⟨x, y, hx0, hx1, hy0, hy1, rfl, rfl⟩ := h
  have e1 : newNum x y = qn x y := by
    unfold newNum qn sgnOf
    rw [if_neg (by omega), decide_eq_false (show ¬ y < 0 by omega), Bool.bne_false]
  have e2 : newDen x y = qd x y := by
    unfold newDen qd
    rw [if_neg (by omega)]
  have he := q_fits x y (by omega) (by omega) (by omega) (by omega)
  obtain ⟨hv, -⟩ := q_ok x y (by omega) he
  obtain ⟨h1, h2⟩ := q_le (show 0 < y by omega) he
  rw [e1, e2]
  exact Q.self hv (by omega) (by omega)
/-- an operation's answer that is told: a fraction, no error -/
def RetQ (N D : Int) (A B : Nat) (w : World) (e : Ending) (w' : World) : Prop :=
  ∃ x y, Q x y N D A B ∧ e = .returned (.tuple #[.agg #[.int .i64 x, .int .i64 y], .int .i64 0]) ∧ Below w.heap.size w w'
theorem retq {x y z N D : Int} {A B : Nat} {w w' : World} {e : Ending} (h : Q x y N D A B ∧ z = 0) (k : e = .returned (.tuple #[.agg #[.int .i64 x, .int .i64 y], .int .i64 z]) ∧ Below w.heap.size w w') : RetQ N D A B w e w' := by
  obtain ⟨h1, rfl⟩ := h
  exact ⟨x, y, h1, k⟩
section
variable {p q N D p' q' N' D' : Int} {A B A' B' : Nat} (h : Q p q N D A B) (k : Q p' q' N' D' A' B')
include h k
theorem sub_q (hA : A * B' + A' * B ≤ 1152921504606846976) (hB : B * B' ≤ 1152921504606846976) (w : World) :
    Calls Tryz.prog 9 #[.agg #[.int .i64 p, .int .i64 q], .agg #[.int .i64 p', .int .i64 q']] w (RetQ (N * D' - N' * D) (D * D') (A * B' + A' * B) (B * B') w) :=
  (sub_yes p q p' q' h.v k.v w).mono fun _ _ r => retq (h.sub k hA hB) r
end
theorem Held.lt {w : World} {l : List (Nat × Int × Int)} (h : Held w l) {g : Nat} {p q : Int} (hm : (g, p, q) ∈ l) : g < w.heap.size := (h _ hm).lt
theorem cmpI_lt (x y : Int) : cmpI x y < 0 ↔ x < y := by unfold cmpI; split <;> (try split) <;> omega
def HB (w : World) (l : List (Nat × Int × Int)) (wx : World) : Prop := Held wx l ∧ Below w.heap.size w wx
theorem HB.add {w wx : World} {l : List (Nat × Int × Int)} (h : HB w l wx) (p q : Int) : HB w ((wx.heap.size, p, q) :: l) (wx.alloc (.cells #[.int .i64 p, .int .i64 q] 26)) := ⟨h.1.add p q, bAl h.2 _⟩
def LsIs (a b c d : Int) (v : Bool) : Prop := Frac.valid a b = true ∧ Frac.valid c d = true ∧ decide (cmpR a b c d < 0) = v
theorem less_is {a b c d : Int} {v : Bool} (h : LsIs a b c d v) (w : World) :
    Calls Tryz.prog 10 #[.agg #[.int .i64 a, .int .i64 b], .agg #[.int .i64 c, .int .i64 d]] w fun e w' => e = .returned (.bool v) ∧ Below w.heap.size w w' := by
  obtain ⟨h1, h2, rfl⟩ := h
  obtain ⟨b0, b1, a0, a1, -⟩ := (valid_iff a b).1 h1
  obtain ⟨d0, d1, c0, c1, -⟩ := (valid_iff c d).1 h2
  exact ratio_less a b c d (by omega) (by omega) (by omega) (by omega) (by omega) (by omega) (by omega) (by omega) w
theorem ls_mk {a b c d : Int} {v : Bool} (h1 : Frac.valid a b = true) (h2 : Frac.valid c d = true) (h : decide (a * d < c * b) = v) : LsIs a b c d v := by
  refine ⟨h1, h2, ?_⟩
  rw [← cmpR_yes a b c d h1 h2, ← h]
  by_cases k : a * d < c * b
  · rw [decide_eq_true k, decide_eq_true ((cmpI_lt _ _).2 k)]
  · rw [decide_eq_false k, decide_eq_false (fun e => k ((cmpI_lt _ _).1 e))]
end Go.Proofs.YtajiheohkmjhnaaGreatDoor
