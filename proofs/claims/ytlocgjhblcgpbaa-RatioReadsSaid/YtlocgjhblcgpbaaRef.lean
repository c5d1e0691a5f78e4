/-
  Contracts of the reference's natural numbers of two words.
-/
import Derived.Test.YtlocgjhblcgpbaaWide
import Derived.Laws.BitsAllLaws
import Derived.RegionTactic
import Derived.BigRegion
namespace Go.Proofs.Ytlocgjhblcgpbaa
open Go.RowKit
set_option linter.unusedSimpArgs false
set_option linter.unusedVariables false

theorem subLays : Lays7.n26 Try.prog ⟨fun | 26 => 94 | n => n, fun | 22 => 56 | n => n, fun | n => n⟩ := {
  mixed := by kernel_rfl
  f26 := Try.func94.trans (congrArg some (by kernel_rfl))
  t22 := Try.underlying56
  a22 := Try.isAgg56
  z22 := Try.sizeOf56
  v22 := Try.zeroValue56
  i22 := by kernel_rfl }
theorem sub64 (x y c : Int) (x0 : 0 ≤ x) (y0 : 0 ≤ y) (y1 : y < 18446744073709551616) (c0 : 0 ≤ c) (c1 : c ≤ 1) (w : World) :
    (callFunc 94 #[.int .u64 x, .int .u64 y, .int .u64 c]).run Try.prog w = .ok (.value (.tuple #[.int .u64 (Rep.subLo x y c), .int .u64 (Rep.subHi x y c)])) w := by
  obtain ⟨x, rfl⟩ := Int.eq_ofNat_of_zero_le x0
  obtain ⟨y, rfl⟩ := Int.eq_ofNat_of_zero_le y0
  obtain ⟨c, rfl⟩ := Int.eq_ofNat_of_zero_le c0
  have h := Any7.bits_Sub64 subLays x y c (by omega) w
  have e1 : Rep.subLo x y c = (((x + 18446744073709551616 - y - c) % 18446744073709551616 : Nat) : Int) := by unfold Rep.subLo; omega
  have e2 : Rep.subHi x y c = ((if x < y + c then 1 else 0 : Nat) : Int) := by unfold Rep.subHi; split <;> split <;> omega
  rw [e1, e2]
  exact h

set_option maxHeartbeats 400000 in
theorem r_product (x y : Int) (x0 : 0 ≤ x) (y0 : 0 ≤ y) (x1 : x < 18446744073709551616) (y1 : y < 18446744073709551616) (w : World) :
    Calls Try.prog 51 #[.int .u64 x, .int .u64 y] w fun e w' => e = .returned (.agg #[.int .u64 (Rep.hi (x * y)), .int .u64 (Rep.lo (x * y))]) ∧ Below w.heap.size w w' := by
  go_enter Try.func51, Try.ntmps51
  go_wp2_with (go_at_call 79; refine (mul64 _ _ x0 y0 x1 y1 _).mono ?_; rintro e w' ⟨rfl, rfl⟩)
  refine bodyPost_ret (v := .agg #[.int .u64 (Rep.hi (x * y)), .int .u64 (Rep.lo (x * y))]) (by simp [results, Try.results51, go_sem]) rfl ⟨rfl, ?_⟩
  exact (Below.refl _ _).alloc (Nat.le_refl _) _

set_option maxHeartbeats 400000 in
theorem r_plus (a b c d : Int) (w : World) (a0 : 0 ≤ a) (b0 : 0 ≤ b) (c0 : 0 ≤ c) (d0 : 0 ≤ d) (a1 : a < 18446744073709551616) (b1 : b < 18446744073709551616) (c1 : c < 18446744073709551616) (d1 : d < 18446744073709551616) :
    Calls Try.prog 68 #[.agg #[.int .u64 a, .int .u64 b], .agg #[.int .u64 c, .int .u64 d]] w fun e w' => e = .returned (.agg #[.int .u64 (Rep.hi (Rep.val a b + Rep.val c d)), .int .u64 (Rep.lo (Rep.val a b + Rep.val c d))]) ∧ Below w.heap.size w w' := by
  have hc := Rep.addHi_bd b d 0 b0 d0 (by omega) b1 d1 (by omega)
  have k1 := fun w => add64 b d 0 b0 d0 (by omega) (by omega) w
  have k2 := fun w => add64 a c (Rep.addHi b d 0) a0 c0 hc.1 hc.2 w
  have HL := Lib.hid (Rep.sum_lo a b c d)
  have HH := Lib.hid (Rep.sum_hi a b c d b0 d0)
  clear hc a0 b0 c0 d0 a1 b1 c1 d1
  go_enter Try.func68, Try.ntmps68
  go_wp2
  refine bodyPost_ret (v := .agg #[.int .u64 (Rep.addLo a c (Rep.addHi b d 0)), .int .u64 (Rep.addLo b d 0)]) (by simp [results, Try.results68, go_sem]) rfl ⟨?_, ?_⟩
  · rw [HL.out, HH.out]
  · exact bAl (bAl (bAl (Below.refl _ _) _) _) _

set_option maxHeartbeats 400000 in
theorem r_minus (a b c d : Int) (w : World) (a0 : 0 ≤ a) (b0 : 0 ≤ b) (c0 : 0 ≤ c) (d0 : 0 ≤ d) (a1 : a < 18446744073709551616) (b1 : b < 18446744073709551616) (c1 : c < 18446744073709551616) (d1 : d < 18446744073709551616) :
    Calls Try.prog 78 #[.agg #[.int .u64 a, .int .u64 b], .agg #[.int .u64 c, .int .u64 d]] w fun e w' => e = .returned (.agg #[.int .u64 (Rep.hi (Rep.val a b - Rep.val c d)), .int .u64 (Rep.lo (Rep.val a b - Rep.val c d))]) ∧ Below w.heap.size w w' := by
  have hc := Rep.subHi_bd b d 0
  have k1 := fun w => sub64 b d 0 b0 d0 d1 (by omega) (by omega) w
  have k2 := fun w => sub64 a c (Rep.subHi b d 0) a0 c0 c1 hc.1 hc.2 w
  have HL := Lib.hid (Rep.dif_lo a b c d)
  have HH := Lib.hid (Rep.dif_hi a b c d b0 b1 d0 d1)
  clear hc a0 b0 c0 d0 a1 b1 c1 d1
  go_enter Try.func78, Try.ntmps78
  go_wp2
  refine bodyPost_ret (v := .agg #[.int .u64 (Rep.subLo a c (Rep.subHi b d 0)), .int .u64 (Rep.subLo b d 0)]) (by simp [results, Try.results78, go_sem]) rfl ⟨?_, ?_⟩
  · rw [HL.out, HH.out]
  · exact bAl (bAl (bAl (Below.refl _ _) _) _) _

set_option maxHeartbeats 400000 in
theorem r_order (a b c d : Int) (w : World) (a0 : 0 ≤ a) (b0 : 0 ≤ b) (c0 : 0 ≤ c) (d0 : 0 ≤ d) (a1 : a < 18446744073709551616) (b1 : b < 18446744073709551616) (c1 : c < 18446744073709551616) (d1 : d < 18446744073709551616) :
    Calls Try.prog 77 #[.agg #[.int .u64 a, .int .u64 b], .agg #[.int .u64 c, .int .u64 d]] w fun e w' => e = .returned (.int .i64 (cmpI (Rep.val a b) (Rep.val c d))) ∧ Below w.heap.size w w' := by
  rcases Int.lt_trichotomy a c with h | h | h
  · have H := Lib.hid (show -1 = cmpI (Rep.val a b) (Rep.val c d) by unfold cmpI Rep.val; rw [if_pos (by omega)])
    go_enter Try.func77, Try.ntmps77
    go_wp2
    go_ret
    exact ⟨ret_int H.out, bAl (bAl (Below.refl _ _) _) _⟩
  · subst h
    rcases Int.lt_trichotomy b d with h | h | h
    · have H := Lib.hid (show -1 = cmpI (Rep.val a b) (Rep.val a d) by unfold cmpI Rep.val; rw [if_pos (by omega)])
      go_enter Try.func77, Try.ntmps77
      go_wp2
      go_ret
      exact ⟨ret_int H.out, bAl (bAl (Below.refl _ _) _) _⟩
    · subst h
      have H := Lib.hid (show 0 = cmpI (Rep.val a b) (Rep.val a b) by unfold cmpI; rw [if_neg (by omega), if_neg (by omega)])
      go_enter Try.func77, Try.ntmps77
      go_wp2
      go_ret
      exact ⟨ret_int H.out, bAl (bAl (Below.refl _ _) _) _⟩
    · have H := Lib.hid (show 1 = cmpI (Rep.val a b) (Rep.val a d) by unfold cmpI Rep.val; rw [if_neg (by omega), if_pos (by omega)])
      have hn : ¬ b < d := by omega
      have he : (b == d) = false := by rw [beq_eq_false_iff_ne]; omega
      go_enter Try.func77, Try.ntmps77
      go_wp2
      go_ret
      exact ⟨ret_int H.out, bAl (bAl (Below.refl _ _) _) _⟩
  · have H := Lib.hid (show 1 = cmpI (Rep.val a b) (Rep.val c d) by unfold cmpI Rep.val; rw [if_neg (by omega), if_pos (by omega)])
    have hn : ¬ a < c := by omega
    have he : (a == c) = false := by rw [beq_eq_false_iff_ne]; omega
    go_enter Try.func77, Try.ntmps77
    go_wp2
    go_ret
    exact ⟨ret_int H.out, bAl (bAl (Below.refl _ _) _) _⟩

theorem twice_or (a b : Int) (a0 : 0 ≤ a) (a1 : a < 18446744073709551616) (b0 : 0 ≤ b) (b1 : b < 18446744073709551616) :
    bits .or .u64 (IntKind.u64.wrap (a * 2)) (b / 9223372036854775808) = Rep.hi (2 * Rep.val a b) := by
  rw [IntKind.wrap_u64, u64_or _ _ (by omega) (by omega) (by omega) (by omega), nat_join 1 _ _ (by omega) (by omega)]
  unfold Rep.hi Rep.val
  omega
theorem twice_lo (a b : Int) : IntKind.u64.wrap (b * 2) = Rep.lo (2 * Rep.val a b) := by
  rw [IntKind.wrap_u64]; unfold Rep.lo Rep.val; omega
set_option maxHeartbeats 400000 in
theorem r_twice (a b : Int) (w : World) (a0 : 0 ≤ a) (b0 : 0 ≤ b) (a1 : a < 18446744073709551616) (b1 : b < 18446744073709551616) :
    Calls Try.prog 80 #[.agg #[.int .u64 a, .int .u64 b]] w fun e w' => e = .returned (.agg #[.int .u64 (Rep.hi (2 * Rep.val a b)), .int .u64 (Rep.lo (2 * Rep.val a b))]) ∧ Below w.heap.size w w' := by
  have H1 := Lib.hid (twice_or a b a0 a1 b0 b1)
  have H2 := Lib.hid (twice_lo a b)
  go_enter Try.func80, Try.ntmps80
  go_wp2
  refine bodyPost_ret (v := .agg #[.int .u64 (bits .or .u64 (IntKind.u64.wrap (a * 2)) (b / 9223372036854775808)), .int .u64 (IntKind.u64.wrap (b * 2))]) (by simp [results, Try.results80, go_sem]) rfl ⟨?_, ?_⟩
  · rw [H1.out, H2.out]
  · exact bAl (bAl (Below.refl _ _) _) _

set_option maxHeartbeats 1000000 in
theorem r_divide_small (b d : Int) (w : World) (b0 : 0 ≤ b) (d0 : 0 < d) (b1 : b < 18446744073709551616) (d1 : d < 18446744073709551616) :
    Calls Try.prog 57 #[.agg #[.int .u64 0, .int .u64 b], .agg #[.int .u64 0, .int .u64 d]] w fun e w' => e = .returned (.tuple #[.agg #[.int .u64 0, .int .u64 (b / d)], .agg #[.int .u64 0, .int .u64 (b % d)]]) ∧ Below w.heap.size w w' := by
  go_enter Try.func57, Try.ntmps57
  go_wp2
  go_region
  go_wp2
  refine bodyPost_ret (v := .tuple #[.agg #[.int .u64 0, .int .u64 (b / d)], .agg #[.int .u64 0, .int .u64 (b % d)]]) (by simp [results, Try.results57, go_sem]) rfl ⟨rfl, ?_⟩
  exact bD1 (bAl (bAl (bAl (bAl (Below.refl _ _) _) _) _) _)

/-- the memory of the reference's divisor: its two numbers and its result -/
def DivS (w : World) (i j : Nat) (wr : World) : Prop :=
  Blk wr w.heap.size 65 #[.int .u64 0, .int .u64 i] ∧ Blk wr (w.heap.size + 1) 65 #[.int .u64 0, .int .u64 j] ∧
  Blk wr (w.heap.size + 1 + 1) 65 #[.int .u64 0, .int .u64 0] ∧ Below w.heap.size w wr
theorem divS_step {w w1 : World} {i j : Nat} (S : DivS w i j w1) (m : Nat) (x : Int) (hx : x = (m : Int)) (o1 o2 : Obj) :
    DivS w j m (((((((w1.setCell ⟨w.heap.size, 0, none⟩ (.int .u64 0)).setCell ⟨w.heap.size, 1, none⟩ (.int .u64 (j : Int))).setCell ⟨w.heap.size + 1, 0, none⟩ (.int .u64 0)).setCell ⟨w.heap.size + 1, 1, none⟩ (.int .u64 x)).alloc o1).alloc o2).drew) := by
  subst hx
  obtain ⟨h0, h1, h2, h3⟩ := S
  refine ⟨?_, ?_, ?_, ?_⟩
  · exact ((((((h0.set0 _).set1 _).off (by omega) _).off (by omega) _).alloc _).alloc _).drew
  · exact ((((((h1.off (by omega) _).off (by omega) _).set0 _).set1 _).alloc _).alloc _).drew
  · exact ((((((h2.off (by omega) _).off (by omega) _).off (by omega) _).off (by omega) _).alloc _).alloc _).drew
  · exact bD1 (bAl (bAl (bSt (bSt (bSt (bSt h3 (by simp) _) (by simp) _) (by simp) _) (by simp) _) _) _)
set_option maxHeartbeats 1000000 in
theorem r_divisor_small (a b : Nat) (w : World) (ha : a < 18446744073709551616) (hb : b < 18446744073709551616) :
    Calls Try.prog 58 #[.agg #[.int .u64 0, .int .u64 a], .agg #[.int .u64 0, .int .u64 b]] w fun e w' => e = .returned (.agg #[.int .u64 0, .int .u64 (Nat.gcd a b : Nat)]) ∧ Below w.heap.size w w' := by
  go_enter Try.func58, Try.ntmps58
  go_wp2
  have S0 : Aside (DivS w a b ((((w.alloc (Obj.cells #[Value.int IntKind.u64 0, Value.int IntKind.u64 ↑a] 65)).alloc (Obj.cells #[Value.int IntKind.u64 0, Value.int IntKind.u64 ↑b] 65)).alloc (Obj.cells #[Value.int IntKind.u64 0, Value.int IntKind.u64 0] 65)))) :=
    ⟨((Blk.newAt rfl).alloc _).alloc _, (Blk.newAt (by simp)).alloc _, Blk.newAt (by simp), bAl (bAl (bAl (Below.refl _ _) _) _) _⟩
  generalize (((w.alloc (Obj.cells #[Value.int IntKind.u64 0, Value.int IntKind.u64 ↑a] 65)).alloc (Obj.cells #[Value.int IntKind.u64 0, Value.int IntKind.u64 ↑b] 65)).alloc (Obj.cells #[Value.int IntKind.u64 0, Value.int IntKind.u64 0] 65)) = W at S0 ⊢
  go_loopg [7] b (fun g x wr => ∃ i j : Nat, i < 18446744073709551616 ∧ j < 18446744073709551616 ∧ j ≤ g ∧ Aside (Nat.gcd i j = Nat.gcd a b) ∧ Aside (DivS w i j wr))
  case atStart => exact ⟨a, b, ha, hb, Nat.le_refl _, rfl, S0⟩
  case round =>
    clear S0
    obtain ⟨i, j, hi, hj, hjg, HG, S1⟩ := hrel
    obtain ⟨⟨c00, c01⟩, ⟨f00, f01⟩, k0⟩ := S1.out.1.two
    obtain ⟨⟨c10, c11⟩, ⟨f10, f11⟩, k1⟩ := S1.out.2.1.two
    obtain ⟨⟨c20, c21⟩, ⟨f20, f21⟩, k2⟩ := S1.out.2.2.1.two
    by_cases hz : j = 0
    · subst hz
      have HE : Hid (Nat.gcd a b = i) := by
        show _ = _
        rw [← HG.out, Nat.gcd_zero_right]
      go_wp2
      refine bodyPost_ret (v := .agg #[.int .u64 0, .int .u64 (i : Int)]) (by simp [results, Try.results58, go_sem, c20, c21, k2]) rfl ⟨?_, ?_⟩
      · rw [HE.out]
      · exact bSt (bSt S1.out.2.2.2 (by simp; omega) _) (by simp; omega) _
    · have hjp : (0 : Int) < (j : Int) := by omega
      have hml : i % j < j := Nat.mod_lt i (by omega)
      go_wp2_with fail
      refine (r_divide_small _ _ _ (by omega) hjp (by omega) (by omega)).mono ?_
      rintro e w1 ⟨rfl, hb1⟩
      have S2 : Aside (DivS w i j w1) := ⟨S1.out.1.later hb1, S1.out.2.1.later hb1, S1.out.2.2.1.later hb1, S1.out.2.2.2.trans (hb1.mono (by omega))⟩
      clear hb1 S1 c00 c01 f00 f01 k0 c10 c11 f10 f11 k1 c20 c21 f20 f21 k2
      obtain ⟨⟨c00, c01⟩, ⟨f00, f01⟩, k0⟩ := S2.out.1.two
      obtain ⟨⟨c10, c11⟩, ⟨f10, f11⟩, k1⟩ := S2.out.2.1.two
      go_wp2
      go_region
      have S3 : Aside (DivS w j (i % j) (((((((w1.setCell ⟨w.heap.size, 0, none⟩ (.int .u64 0)).setCell ⟨w.heap.size, 1, none⟩ (.int .u64 (j : Int))).setCell ⟨w.heap.size + 1, 0, none⟩ (.int .u64 0)).setCell ⟨w.heap.size + 1, 1, none⟩ (.int .u64 ((i : Int) % (j : Int)))).alloc (.cells #[.int .u64 0, .int .u64 ((i : Int) / (j : Int))] 65)).alloc (.cells #[.int .u64 0, .int .u64 ((i : Int) % (j : Int))] 65)).drew)) := divS_step S2.out (i % j) _ (Int.natCast_emod _ _).symm _ _
      clear S2 c00 c01 f00 f01 k0 c10 c11 f10 f11 k1
      generalize ((((((w1.setCell ⟨w.heap.size, 0, none⟩ (.int .u64 0)).setCell ⟨w.heap.size, 1, none⟩ (.int .u64 (j : Int))).setCell ⟨w.heap.size + 1, 0, none⟩ (.int .u64 0)).setCell ⟨w.heap.size + 1, 1, none⟩ (.int .u64 ((i : Int) % (j : Int)))).alloc (.cells #[.int .u64 0, .int .u64 ((i : Int) / (j : Int))] 65)).alloc (.cells #[.int .u64 0, .int .u64 ((i : Int) % (j : Int))] 65)).drew = w3 at S3 ⊢
      go_wp2
      go_roundg (i % j)
      case measure => omega
      case rel => exact ⟨j, i % j, hj, by omega, Nat.le_refl _, (by show _ = _; rw [← HG.out, Nat.gcd_comm i j, Nat.gcd_rec j i, Nat.gcd_comm]), S3⟩
end Go.Proofs.Ytlocgjhblcgpbaa
