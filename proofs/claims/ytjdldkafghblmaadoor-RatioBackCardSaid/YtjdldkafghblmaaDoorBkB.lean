/-
  What the statements of this seat need of the fractions: divide_w.
-/
import Derived.Test.YtjdldkafghblmaaDoorBkA
import Derived.Test.YtjdldkafghblmaaDoorMath
import Derived.Test.YtjdldkafghblmaaDoorMem
import Derived.Test.YtjdldkafghblmaaDoorNums
import Derived.Test.YtjdldkafghblmaaDoorTape
import Derived.WalkKit
import Derived.Below
import Derived.Laws.OwnMore
import Derived.Deep.Draws
import Derived.Laws.Rows
import Derived.Lib.Hide
import Derived.WalkLawsBesides
import Derived.WalkSpells
import Derived.BigQuiet
import Derived.Deep.QuietTactic
import Derived.Laws.Bits64
import Derived.Deep.LoopGhost
import Derived.Outline
import Derived.Shelf.Spec.BitsCarry
import Derived.Deep.RegionHeld3
import Derived.Laws.BitsAllLaws
import Derived.RegionTactic
import Derived.BigRegion
import Derived.Deep.DeepCutAuto
set_option linter.unusedVariables false
set_option linter.unusedSimpArgs false
namespace LongDiv
/-- the bits of A above place i, divided so far -/
def Inv (A B i q r : Nat) : Prop := A / 2 ^ i = q * B + r ∧ r < B ∧ q ≤ A / 2 ^ i
theorem start (A B : Nat) (hA : A < 2 ^ 128) (hB : 0 < B) : Inv A B 128 0 0 := ⟨by rw [Nat.div_eq_of_lt hA]; omega, hB, Nat.zero_le _⟩
theorem bit_step (A i : Nat) : A / 2 ^ i = 2 * (A / 2 ^ (i + 1)) + A / 2 ^ i % 2 := by
  rw [Nat.pow_succ, ← Nat.div_div_eq_div_mul]; omega
theorem yes {A B i q r : Nat} (h : Inv A B (i + 1) q r) (hb : B ≤ 2 * r + A / 2 ^ i % 2) : Inv A B i (2 * q + 1) (2 * r + A / 2 ^ i % 2 - B) := by
  obtain ⟨h1, h2, h3⟩ := h
  have e := bit_step A i
  have m : A / 2 ^ i % 2 < 2 := Nat.mod_lt _ (by omega)
  generalize A / 2 ^ i % 2 = t at *
  rw [h1] at e
  refine ⟨?_, by omega, ?_⟩
  · rw [e, Nat.add_mul, Nat.mul_assoc]; omega
  · have : 1 ≤ B := by omega
    have : q * 1 ≤ q * B := Nat.mul_le_mul_left q this
    omega
theorem no {A B i q r : Nat} (h : Inv A B (i + 1) q r) (hb : ¬ B ≤ 2 * r + A / 2 ^ i % 2) : Inv A B i (2 * q) (2 * r + A / 2 ^ i % 2) := by
  obtain ⟨h1, h2, h3⟩ := h
  have e := bit_step A i
  generalize A / 2 ^ i % 2 = t at *
  rw [h1] at e
  refine ⟨?_, by omega, ?_⟩
  · rw [e, Nat.mul_assoc]; omega
  · have : 1 ≤ B := by omega
    have : q * 1 ≤ q * B := Nat.mul_le_mul_left q this
    omega
theorem done {A B q r : Nat} (h : Inv A B 0 q r) : q = A / B ∧ r = A % B := by
  obtain ⟨h1, h2, -⟩ := h
  rw [Nat.pow_zero, Nat.div_one] at h1
  have hB : 0 < B := by omega
  constructor
  · rw [h1, Nat.mul_comm, Nat.mul_add_div hB, Nat.div_eq_of_lt h2]; rfl
  · rw [h1, Nat.mul_comm, Nat.mul_add_mod, Nat.mod_eq_of_lt h2]
theorem q_bd {A B i q r : Nat} (h : Inv A B i q r) (hA : A < 2 ^ 128) (hi : 1 ≤ i) : q < 2 ^ 127 := by
  have h3 := h.2.2
  have : A / 2 ^ i ≤ A / 2 ^ 1 := Nat.div_le_div_left (Nat.pow_le_pow_right (by omega) hi) (by omega)
  have : A / 2 ^ 1 < 2 ^ 127 := by omega
  omega
/-- the bit at place i out of the two words -/
theorem bit_lo (h l i : Nat) (hl : l < 18446744073709551616) (hi : i < 64) : (h * 18446744073709551616 + l) / 2 ^ i % 2 = l / 2 ^ i % 2 := by
  have e : (18446744073709551616 : Nat) = 2 ^ i * (2 * 2 ^ (63 - i)) := by
    rw [← Nat.pow_succ', ← Nat.pow_add, show i + (63 - i).succ = 64 by omega]
  have p : 0 < 2 ^ i := Nat.two_pow_pos i
  rw [e, ← Nat.mul_assoc, Nat.mul_comm h (2 ^ i), Nat.mul_assoc, Nat.mul_add_div p]
  rw [show h * (2 * 2 ^ (63 - i)) = 2 * (h * 2 ^ (63 - i)) by rw [← Nat.mul_assoc, Nat.mul_comm h 2, Nat.mul_assoc]]
  omega
theorem bit_hi (h l i : Nat) (hl : l < 18446744073709551616) (hi : 64 ≤ i) : (h * 18446744073709551616 + l) / 2 ^ i % 2 = h / 2 ^ (i - 64) % 2 := by
  have e : 2 ^ i = 18446744073709551616 * 2 ^ (i - 64) := by
    rw [show (18446744073709551616 : Nat) = 2 ^ 64 by rfl, ← Nat.pow_add, show 64 + (i - 64) = i by omega]
  rw [e, ← Nat.div_div_eq_div_mul, Nat.mul_comm h, Nat.mul_add_div (by omega), Nat.div_eq_of_lt hl, Nat.add_zero]
end LongDiv
namespace Go.Proofs.YtjdldkafghblmaaDoor
set_option linter.unusedSimpArgs false
set_option linter.unusedVariables false
open Go.RowKit
theorem subLays : Lays7.n26 Tryd.prog ⟨fun | 26 => 84 | n => n, fun | 22 => 43 | n => n, fun | n => n⟩ := {
  mixed := by kernel_rfl
  f26 := Tryd.func84.trans (congrArg some (by kernel_rfl))
  t22 := Tryd.underlying43
  a22 := Tryd.isAgg43
  z22 := Tryd.sizeOf43
  v22 := Tryd.zeroValue43
  i22 := by kernel_rfl }
theorem sub64 (x y c : Int) (x0 : 0 ≤ x) (y0 : 0 ≤ y) (y1 : y < 18446744073709551616) (c0 : 0 ≤ c) (c1 : c ≤ 1) (w : World) :
    (callFunc 84 #[.int .u64 x, .int .u64 y, .int .u64 c]).run Tryd.prog w = .ok (.value (.tuple #[.int .u64 (Rep.subLo x y c), .int .u64 (Rep.subHi x y c)])) w := by
  obtain ⟨x, rfl⟩ := Int.eq_ofNat_of_zero_le x0
  obtain ⟨y, rfl⟩ := Int.eq_ofNat_of_zero_le y0
  obtain ⟨c, rfl⟩ := Int.eq_ofNat_of_zero_le c0
  have h := Any7.bits_Sub64 subLays x y c (by omega) w
  have e1 : Rep.subLo x y c = (((x + 18446744073709551616 - y - c) % 18446744073709551616 : Nat) : Int) := by unfold Rep.subLo; omega
  have e2 : Rep.subHi x y c = ((if x < y + c then 1 else 0 : Nat) : Int) := by unfold Rep.subHi; split <;> split <;> omega
  rw [e1, e2]
  exact h
set_option maxHeartbeats 400000 in
theorem r_minus (a b c d : Int) (w : World) (a0 : 0 ≤ a) (b0 : 0 ≤ b) (c0 : 0 ≤ c) (d0 : 0 ≤ d) (a1 : a < 18446744073709551616) (b1 : b < 18446744073709551616) (c1 : c < 18446744073709551616) (d1 : d < 18446744073709551616) :
    Calls Tryd.prog 63 #[.agg #[.int .u64 a, .int .u64 b], .agg #[.int .u64 c, .int .u64 d]] w fun e w' => e = .returned (.agg #[.int .u64 (Rep.hi (Rep.val a b - Rep.val c d)), .int .u64 (Rep.lo (Rep.val a b - Rep.val c d))]) ∧ Below w.heap.size w w' := by
  have hc := Rep.subHi_bd b d 0
  have k1 := fun w => sub64 b d 0 b0 d0 d1 (by omega) (by omega) w
  have k2 := fun w => sub64 a c (Rep.subHi b d 0) a0 c0 c1 hc.1 hc.2 w
  have HL := Lib.hid (Rep.dif_lo a b c d)
  have HH := Lib.hid (Rep.dif_hi a b c d b0 b1 d0 d1)
  clear hc a0 b0 c0 d0 a1 b1 c1 d1
  go_enter Tryd.func63, Tryd.ntmps63
  go_wp2
  refine bodyPost_ret (v := .agg #[.int .u64 (Rep.subLo a c (Rep.subHi b d 0)), .int .u64 (Rep.subLo b d 0)]) (by simp [results, Tryd.results63, go_sem]) rfl ⟨?_, ?_⟩
  · rw [HL.out, HH.out]
  · exact bAl (bAl (bAl (Below.refl _ _) _) _) _
set_option maxHeartbeats 400000 in
theorem r_order (a b c d : Int) (w : World) (a0 : 0 ≤ a) (b0 : 0 ≤ b) (c0 : 0 ≤ c) (d0 : 0 ≤ d) (a1 : a < 18446744073709551616) (b1 : b < 18446744073709551616) (c1 : c < 18446744073709551616) (d1 : d < 18446744073709551616) :
    Calls Tryd.prog 40 #[.agg #[.int .u64 a, .int .u64 b], .agg #[.int .u64 c, .int .u64 d]] w fun e w' => e = .returned (.int .i64 (cmpI (Rep.val a b) (Rep.val c d))) ∧ Below w.heap.size w w' := by
  rcases Int.lt_trichotomy a c with h | h | h
  · have H := Lib.hid (show -1 = cmpI (Rep.val a b) (Rep.val c d) by unfold cmpI Rep.val; rw [if_pos (by omega)])
    go_enter Tryd.func40, Tryd.ntmps40
    go_wp2
    go_ret
    exact ⟨ret_int H.out, bAl (bAl (Below.refl _ _) _) _⟩
  · subst h
    rcases Int.lt_trichotomy b d with h | h | h
    · have H := Lib.hid (show -1 = cmpI (Rep.val a b) (Rep.val a d) by unfold cmpI Rep.val; rw [if_pos (by omega)])
      go_enter Tryd.func40, Tryd.ntmps40
      go_wp2
      go_ret
      exact ⟨ret_int H.out, bAl (bAl (Below.refl _ _) _) _⟩
    · subst h
      have H := Lib.hid (show 0 = cmpI (Rep.val a b) (Rep.val a b) by unfold cmpI; rw [if_neg (by omega), if_neg (by omega)])
      go_enter Tryd.func40, Tryd.ntmps40
      go_wp2
      go_ret
      exact ⟨ret_int H.out, bAl (bAl (Below.refl _ _) _) _⟩
    · have H := Lib.hid (show 1 = cmpI (Rep.val a b) (Rep.val a d) by unfold cmpI Rep.val; rw [if_neg (by omega), if_pos (by omega)])
      have hn : ¬ b < d := by omega
      have he : (b == d) = false := by rw [beq_eq_false_iff_ne]; omega
      go_enter Tryd.func40, Tryd.ntmps40
      go_wp2
      go_ret
      exact ⟨ret_int H.out, bAl (bAl (Below.refl _ _) _) _⟩
  · have H := Lib.hid (show 1 = cmpI (Rep.val a b) (Rep.val c d) by unfold cmpI Rep.val; rw [if_neg (by omega), if_pos (by omega)])
    have hn : ¬ a < c := by omega
    have he : (a == c) = false := by rw [beq_eq_false_iff_ne]; omega
    go_enter Tryd.func40, Tryd.ntmps40
    go_wp2
    go_ret
    exact ⟨ret_int H.out, bAl (bAl (Below.refl _ _) _) _⟩
theorem twice_or (a b : Int) (a0 : 0 ≤ a) (a1 : a < 18446744073709551616) (b0 : 0 ≤ b) (b1 : b < 18446744073709551616) :
    bits .or .u64 (IntKind.u64.wrap (a * 2)) (b / 9223372036854775808) = Rep.hi (2 * Rep.val a b) := by
  rw [IntKind.wrap_u64, u64_or _ _ (by omega) (by omega) (by omega) (by omega), nat_join 1 _ _ (by omega) (by omega)]
  unfold Rep.hi Rep.val
  omega
theorem twice_lo (a b : Int) : IntKind.u64.wrap (b * 2) = Rep.lo (2 * Rep.val a b) := by
  rw [IntKind.wrap_u64]; unfold Rep.lo Rep.val; omega
set_option maxHeartbeats 400000 in
theorem r_twice (a b : Int) (w : World) (a0 : 0 ≤ a) (b0 : 0 ≤ b) (a1 : a < 18446744073709551616) (b1 : b < 18446744073709551616) :
    Calls Tryd.prog 41 #[.agg #[.int .u64 a, .int .u64 b]] w fun e w' => e = .returned (.agg #[.int .u64 (Rep.hi (2 * Rep.val a b)), .int .u64 (Rep.lo (2 * Rep.val a b))]) ∧ Below w.heap.size w w' := by
  have H1 := Lib.hid (twice_or a b a0 a1 b0 b1)
  have H2 := Lib.hid (twice_lo a b)
  go_enter Tryd.func41, Tryd.ntmps41
  go_wp2
  refine bodyPost_ret (v := .agg #[.int .u64 (bits .or .u64 (IntKind.u64.wrap (a * 2)) (b / 9223372036854775808)), .int .u64 (IntKind.u64.wrap (b * 2))]) (by simp [results, Tryd.results41, go_sem]) rfl ⟨?_, ?_⟩
  · rw [H1.out, H2.out]
  · exact bAl (bAl (Below.refl _ _) _) _
/-- the words h, l spell x -/
structure W2 (h l : Int) (x : Nat) : Prop where
  h0 : 0 ≤ h
  h1 : h < 18446744073709551616
  l0 : 0 ≤ l
  l1 : l < 18446744073709551616
  e : h * 18446744073709551616 + l = x
theorem W2.val {h l : Int} {x : Nat} (H : W2 h l x) : Rep.val h l = x := H.e
theorem W2.bd {h l : Int} {x : Nat} (H : W2 h l x) : x < 340282366920938463463374607431768211456 := by
  obtain ⟨a, b, c, d, e⟩ := H; omega
theorem W2.of (z : Int) (x : Nat) (h0 : z % 340282366920938463463374607431768211456 = x) : W2 (Rep.hi z) (Rep.lo z) x := by
  unfold Rep.hi Rep.lo
  exact ⟨by omega, by omega, by omega, by omega, by omega⟩
theorem W2.low {l : Int} {x : Nat} (H : W2 0 l x) : l = x := by have := H.e; omega
theorem W2.mkLow {x : Nat} (hx : x < 18446744073709551616) : W2 0 (x : Int) x := ⟨by omega, by omega, by omega, by omega, by omega⟩
theorem twice_w {h l : Int} {x : Nat} (H : W2 h l x) (w : World) :
    Calls Tryd.prog 41 #[.agg #[.int .u64 h, .int .u64 l]] w fun e w' => ∃ h' l', (W2 h' l' (2 * x % 340282366920938463463374607431768211456) ∧ l' % 2 = 0) ∧ e = .returned (.agg #[.int .u64 h', .int .u64 l']) ∧ Below w.heap.size w w' := by
  refine (r_twice h l w H.h0 H.l0 H.h1 H.l1).mono ?_
  rintro e w' ⟨rfl, hb⟩
  refine ⟨_, _, ⟨W2.of _ _ ?_, ?_⟩, rfl, hb⟩
  · rw [H.val]; omega
  · unfold Rep.lo; omega
theorem minus_w {h l h' l' : Int} {x y : Nat} (H : W2 h l x) (K : W2 h' l' y) (z : Nat) (hz : (x + 340282366920938463463374607431768211456 - y) % 340282366920938463463374607431768211456 = z) (w : World) :
    Calls Tryd.prog 63 #[.agg #[.int .u64 h, .int .u64 l], .agg #[.int .u64 h', .int .u64 l']] w fun e w' => ∃ h2 l2, W2 h2 l2 z ∧ e = .returned (.agg #[.int .u64 h2, .int .u64 l2]) ∧ Below w.heap.size w w' := by
  refine (r_minus h l h' l' w H.h0 H.l0 K.h0 K.l0 H.h1 H.l1 K.h1 K.l1).mono ?_
  rintro e w' ⟨rfl, hb⟩
  refine ⟨_, _, W2.of _ _ ?_, rfl, hb⟩
  have := K.bd
  rw [H.val, K.val]; omega
theorem order_w {h l h' l' : Int} {x y : Nat} (H : W2 h l x) (K : W2 h' l' y) (w : World) :
    Calls Tryd.prog 40 #[.agg #[.int .u64 h, .int .u64 l], .agg #[.int .u64 h', .int .u64 l']] w fun e w' => e = .returned (.int .i64 (cmpI (x : Int) (y : Int))) ∧ Below w.heap.size w w' := by
  have := r_order h l h' l' w H.h0 H.l0 K.h0 K.l0 H.h1 H.l1 K.h1 K.l1
  rw [H.val, K.val] at this
  exact this
theorem bd_two {h l : Int} {x : Nat} (H : W2 h l x) : (h / 9223372036854775808 = 1 ↔ 170141183460469231731687303715884105728 ≤ x) := by
  obtain ⟨a, b, c, d, e⟩ := H
  constructor <;> intro h <;> omega
theorem or_low (l t : Int) (l0 : 0 ≤ l) (l1 : l < 18446744073709551616) (h2 : l % 2 = 0) (ht : t = 0 ∨ t = 1) : bits .or .u64 l t = l + t := by
  rw [u64_or _ _ (by omega) (by omega) (by omega) (by omega), nat_join1 _ _ (by omega) (by omega)]
  omega
theorem bit_and (v : Int) (h0 : 0 ≤ v) (h1 : v < 18446744073709551616) : bits .and .u64 v 1 = v % 2 := by
  rw [u64_and _ _ h0 h1 (by omega) (by omega), show (1 : Int).toNat = 1 by rfl, Nat.and_one_is_mod]
  omega
theorem word_div (l : Int) (n : Nat) (l0 : 0 ≤ l) : l / 2 ^ n = ((l.toNat / 2 ^ n : Nat) : Int) ∧ l.toNat / 2 ^ n ≤ l.toNat := by
  refine ⟨?_, Nat.div_le_self _ _⟩
  have : l = (l.toNat : Int) := by omega
  conv => lhs; rw [this]
  simp
theorem bit_at_lo {h l : Int} {x j : Nat} (H : W2 h l x) (hj : j < 64) : bits .and .u64 (l / 2 ^ (j % 64)) 1 = ((x / 2 ^ j % 2 : Nat) : Int) := by
  obtain ⟨a, b, c, d, e⟩ := H
  obtain ⟨e1, e2⟩ := word_div l (j % 64) c
  have e3 := LongDiv.bit_lo h.toNat l.toNat j (by omega) hj
  rw [show h.toNat * 18446744073709551616 + l.toNat = x by omega] at e3
  rw [e3, show j % 64 = j by omega] at *
  generalize l.toNat / 2 ^ j = u at *
  rw [bit_and _ (by rw [e1]; omega) (by rw [e1]; omega), e1]
  omega
theorem bit_at_hi {h l : Int} {x j : Nat} (H : W2 h l x) (hj : 64 ≤ j) : bits .and .u64 (h / 2 ^ (j - 64)) 1 = ((x / 2 ^ j % 2 : Nat) : Int) := by
  obtain ⟨a, b, c, d, e⟩ := H
  obtain ⟨e1, e2⟩ := word_div h (j - 64) a
  have e3 := LongDiv.bit_hi h.toNat l.toNat j (by omega) hj
  rw [show h.toNat * 18446744073709551616 + l.toNat = x by omega] at e3
  rw [e3]
  generalize h.toNat / 2 ^ (j - 64) = u at *
  rw [bit_and _ (by rw [e1]; omega) (by rw [e1]; omega), e1]
  omega
def RetDiv (q r : Nat) (w : World) (e : Ending) (w' : World) : Prop :=
  ∃ qh ql rh rl, (W2 qh ql q ∧ W2 rh rl r) ∧ e = .returned (.tuple #[.agg #[.int .u64 qh, .int .u64 ql], .agg #[.int .u64 rh, .int .u64 rl]]) ∧ Below w.heap.size w w'
/-- the memory of Divide: its two numbers, its two results, quotient and rest so far -/
structure DP (w : World) (ah al bh bl qh ql rh rl : Int) (wr : World) : Prop where
  b0 : Blk wr (w.heap.size) 46 #[.int .u64 ah, .int .u64 al]
  b1 : Blk wr (w.heap.size + 1) 46 #[.int .u64 bh, .int .u64 bl]
  b2 : Blk wr (w.heap.size + 1 + 1) 46 #[.int .u64 0, .int .u64 0]
  b3 : Blk wr (w.heap.size + 1 + 1 + 1) 46 #[.int .u64 0, .int .u64 0]
  b4 : Blk wr (w.heap.size + 1 + 1 + 1 + 1) 46 #[.int .u64 qh, .int .u64 ql]
  b5 : Blk wr (w.heap.size + 1 + 1 + 1 + 1 + 1) 46 #[.int .u64 rh, .int .u64 rl]
  hb : Below w.heap.size w wr
section
variable {w wr w' : World} {ah al bh bl qh ql rh rl : Int}
theorem DP.later (h : DP w ah al bh bl qh ql rh rl wr) (hb : Below wr.heap.size wr w') : DP w ah al bh bl qh ql rh rl w' :=
  ⟨h.b0.later hb, h.b1.later hb, h.b2.later hb, h.b3.later hb, h.b4.later hb, h.b5.later hb, bTr h.hb hb⟩
theorem DP.setR0 (h : DP w ah al bh bl qh ql rh rl wr) (v : Int) : DP w ah al bh bl qh ql v rl (wr.setCell ⟨w.heap.size + 1 + 1 + 1 + 1 + 1, 0, none⟩ (.int .u64 v)) :=
  ⟨h.b0.off (by omega) _, h.b1.off (by omega) _, h.b2.off (by omega) _, h.b3.off (by omega) _, h.b4.off (by omega) _, h.b5.set0 _, bSt h.hb (by simp; omega) _⟩
theorem DP.setR1 (h : DP w ah al bh bl qh ql rh rl wr) (v : Int) : DP w ah al bh bl qh ql rh v (wr.setCell ⟨w.heap.size + 1 + 1 + 1 + 1 + 1, 1, none⟩ (.int .u64 v)) :=
  ⟨h.b0.off (by omega) _, h.b1.off (by omega) _, h.b2.off (by omega) _, h.b3.off (by omega) _, h.b4.off (by omega) _, h.b5.set1 _, bSt h.hb (by simp; omega) _⟩
theorem DP.setQ0 (h : DP w ah al bh bl qh ql rh rl wr) (v : Int) : DP w ah al bh bl v ql rh rl (wr.setCell ⟨w.heap.size + 1 + 1 + 1 + 1, 0, none⟩ (.int .u64 v)) :=
  ⟨h.b0.off (by omega) _, h.b1.off (by omega) _, h.b2.off (by omega) _, h.b3.off (by omega) _, h.b4.set0 _, h.b5.off (by omega) _, bSt h.hb (by simp; omega) _⟩
theorem DP.setQ1 (h : DP w ah al bh bl qh ql rh rl wr) (v : Int) : DP w ah al bh bl qh v rh rl (wr.setCell ⟨w.heap.size + 1 + 1 + 1 + 1, 1, none⟩ (.int .u64 v)) :=
  ⟨h.b0.off (by omega) _, h.b1.off (by omega) _, h.b2.off (by omega) _, h.b3.off (by omega) _, h.b4.set1 _, h.b5.off (by omega) _, bSt h.hb (by simp; omega) _⟩
end
theorem W2.plus_low {h l : Int} {x : Nat} (H : W2 h l x) (h2 : l % 2 = 0) (t : Int) (ht : t = 0 ∨ t = 1) : W2 h (l + t) (x + t.toNat) := by
  obtain ⟨a, b, c, d, e⟩ := H
  exact ⟨a, b, by omega, by omega, by omega⟩
set_option maxRecDepth 100000 in
set_option maxHeartbeats 8000000 in
theorem divide_w {ah al bh bl : Int} {x y : Nat} (HA : W2 ah al x) (HY : W2 bh bl y) (y0 : 0 < y) (w : World) :
    Calls Tryd.prog 38 #[.agg #[.int .u64 ah, .int .u64 al], .agg #[.int .u64 bh, .int .u64 bl]] w (RetDiv (x / y) (x % y) w) := by
  by_cases h0 : ah = 0 ∧ bh = 0
  · obtain ⟨rfl, rfl⟩ := h0
    obtain rfl := HA.low
    obtain rfl := HY.low
    have hx := HA.l1
    have hy := HY.l1
    refine (r_divide_small (x : Int) (y : Int) w (by omega) (by omega) hx hy).mono ?_
    rintro e w' ⟨rfl, hb⟩
    have h1 := Nat.div_le_self x y
    have h2 := Nat.mod_lt x y0
    refine ⟨0, ((x / y : Nat) : Int), 0, ((x % y : Nat) : Int), ⟨W2.mkLow (by omega), W2.mkLow (by omega)⟩, ?_, hb⟩
    rw [Int.natCast_ediv, Int.natCast_emod]
  have hx := HA.bd
  have hy := HY.bd
  have INV0 := Lib.hid (LongDiv.start x y (by omega) y0)
  have HAa := Lib.hid HA
  have HYy := Lib.hid HY
  have h0' : ((ah == 0) = false) ∨ ((ah == 0) = true ∧ (bh == 0) = false) := by
    by_cases e : ah = 0
    · exact .inr ⟨by rw [beq_iff_eq]; exact e, by rw [beq_eq_false_iff_ne]; exact fun f => h0 ⟨e, f⟩⟩
    · exact .inl (by rw [beq_eq_false_iff_ne]; exact e)
  clear h0 HA HY
  rcases h0' with t1 | ⟨t1, t2⟩
  · go_enter Tryd.func38, Tryd.ntmps38
    go_wp2_with fail
    have D0 : DP w ah al bh bl 0 0 0 0 ((((((w.alloc (.cells #[.int .u64 ah, .int .u64 al] 46)).alloc (.cells #[.int .u64 bh, .int .u64 bl] 46)).alloc (.cells #[.int .u64 0, .int .u64 0] 46)).alloc (.cells #[.int .u64 0, .int .u64 0] 46)).alloc (.cells #[.int .u64 0, .int .u64 0] 46)).alloc (.cells #[.int .u64 0, .int .u64 0] 46)) :=
      ⟨(((((Blk.newAt rfl).alloc _).alloc _).alloc _).alloc _).alloc _, ((((Blk.newAt (by simp)).alloc _).alloc _).alloc _).alloc _, (((Blk.newAt (by simp)).alloc _).alloc _).alloc _, ((Blk.newAt (by simp)).alloc _).alloc _, (Blk.newAt (by simp)).alloc _, Blk.newAt (by simp), bAl (bAl (bAl (bAl (bAl (bAl (Below.refl _ _) _) _) _) _) _) _⟩
    go_loopw [8] (fun v wr => ∃ (i : Int) (k q r : Nat) (qh ql rh rl : Int), v = .int .i64 i ∧ Hid (i + 1 = (k : Int)) ∧ i ≤ 127 ∧ Hid (LongDiv.Inv x y k q r) ∧ Hid (W2 qh ql q) ∧ Hid (W2 rh rl r) ∧ Hid (DP w ah al bh bl qh ql rh rl wr)) (fun v _ => ((intOf v) + 1).toNat)
    case atStart => exact ⟨127, 128, 0, 0, 0, 0, 0, 0, rfl, by show _ = _; rfl, by omega, INV0, ⟨by omega, by omega, by omega, by omega, by omega⟩, ⟨by omega, by omega, by omega, by omega, by omega⟩, D0⟩
    case round =>
      clear D0 INV0
      obtain ⟨i, k, q, r, qh, ql, rh, rl, rfl, hk, hi, HI, HQ, HR, HP⟩ := hrel
      by_cases hi0 : 0 ≤ i
      · obtain ⟨j, rfl⟩ := Int.eq_ofNat_of_zero_le hi0
        obtain rfl : k = j + 1 := by have := hk.out; omega
        clear hk
        have hqb := LongDiv.q_bd HI.out (by omega) (by omega)
        have hry := HI.out.2.1
        obtain ⟨⟨c00, c01⟩, -, k0⟩ := HP.out.b0.two
        obtain ⟨⟨c10, c11⟩, -, k1⟩ := HP.out.b1.two
        obtain ⟨⟨c40, c41⟩, ⟨f40, f41⟩, k4⟩ := HP.out.b4.two
        obtain ⟨⟨c50, c51⟩, ⟨f50, f51⟩, k5⟩ := HP.out.b5.two
        by_cases hj : j < 64
        · have hjt : decide ((64 : Int) ≤ (j : Int)) = false := decide_eq_false (by omega)
          by_cases hov : 170141183460469231731687303715884105728 ≤ r
          · have tov : (rh / 9223372036854775808 == 1) = true := by rw [beq_iff_eq]; exact (bd_two HR.out).2 hov
            go_wp2_with fail
            refine (twice_w HR.out _).mono ?_
            rintro e w1 ⟨th, tl, ⟨ht, ht2⟩, rfl, hb1⟩
            have P1 := Lib.hid (HP.out.later hb1)
            clear hb1 HP
            clear c00 c01 k0 c10 c11 k1 c40 c41 f40 f41 k4 c50 c51 f50 f51 k5
            obtain ⟨⟨c00, c01⟩, -, k0⟩ := P1.out.b0.two
            obtain ⟨⟨c10, c11⟩, -, k1⟩ := P1.out.b1.two
            obtain ⟨⟨c40, c41⟩, ⟨f40, f41⟩, k4⟩ := P1.out.b4.two
            obtain ⟨⟨c50, c51⟩, ⟨f50, f51⟩, k5⟩ := P1.out.b5.two
            have hbt : bits .and .u64 (al / 2 ^ (j % 64)) 1 = ((x / 2 ^ j % 2 : Nat) : Int) := bit_at_lo HAa.out hj
            rw [hbt]
            clear hbt
            obtain ⟨bt, hbn⟩ : ∃ bt : Nat, x / 2 ^ j % 2 = bt := ⟨_, rfl⟩
            have HBN := Lib.hid hbn
            have hb01 : bt < 2 := by rw [← hbn]; exact Nat.mod_lt _ (by omega)
            rw [hbn]
            clear hbn
            have hor : bits .or .u64 tl (bt : Int) = tl + bt := or_low tl bt ht.l0 ht.l1 ht2 (by omega)
            have HT := Lib.hid (ht.plus_low ht2 (bt : Int) (by omega))
            rw [Int.toNat_natCast] at HT
            clear ht ht2
            go_wp2_with fail
            refine (twice_w HQ.out _).mono ?_
            rintro e w2 ⟨qh', ql', ⟨hq, hq2⟩, rfl, hb2⟩
            have P2 := Lib.hid ((((P1.out.setR0 th).setR1 tl).setR1 (tl + bt)).later hb2)
            clear hb2 P1 hor
            clear c00 c01 k0 c10 c11 k1 c40 c41 f40 f41 k4 c50 c51 f50 f51 k5
            obtain ⟨⟨c00, c01⟩, -, k0⟩ := P2.out.b0.two
            obtain ⟨⟨c10, c11⟩, -, k1⟩ := P2.out.b1.two
            obtain ⟨⟨c40, c41⟩, ⟨f40, f41⟩, k4⟩ := P2.out.b4.two
            obtain ⟨⟨c50, c51⟩, ⟨f50, f51⟩, k5⟩ := P2.out.b5.two
            rw [Nat.mod_eq_of_lt (show 2 * q < 340282366920938463463374607431768211456 by omega)] at hq
            have HT2 := Lib.hid (show W2 th (tl + bt) (2 * r % 340282366920938463463374607431768211456 + bt) from HT.out)
            have hz : (2 * r % 340282366920938463463374607431768211456 + bt + 340282366920938463463374607431768211456 - y) % 340282366920938463463374607431768211456 = 2 * r + bt - y := by omega
            clear HT
            have hor2 : bits .or .u64 ql' 1 = ql' + 1 := or_low ql' 1 hq.l0 hq.l1 hq2 (by omega)
            have HQ2 := Lib.hid (show W2 qh' (ql' + 1) (2 * q + 1) from hq.plus_low hq2 1 (by omega))
            clear hq hq2
            go_wp2_with fail
            refine (minus_w HT2.out HYy.out _ hz _).mono ?_
            rintro e wM ⟨mh, ml, hm, rfl, hbm⟩
            have PM := Lib.hid (((P2.out.setQ0 qh').setQ1 ql').later hbm)
            have HM := Lib.hid hm
            clear hbm hm P2
            clear c00 c01 k0 c10 c11 k1 c40 c41 f40 f41 k4 c50 c51 f50 f51 k5
            obtain ⟨⟨c00, c01⟩, -, k0⟩ := PM.out.b0.two
            obtain ⟨⟨c10, c11⟩, -, k1⟩ := PM.out.b1.two
            obtain ⟨⟨c40, c41⟩, ⟨f40, f41⟩, k4⟩ := PM.out.b4.two
            obtain ⟨⟨c50, c51⟩, ⟨f50, f51⟩, k5⟩ := PM.out.b5.two
            go_wp2_with fail
            go_roundw
            case rel => exact ⟨_, j, 2 * q + 1, 2 * r + bt - y, qh', ql' + 1, mh, ml, by first | rfl | go_num, by show _ = _; omega, by omega, (by have := LongDiv.yes HI.out (by rw [HBN.out]; omega); rw [HBN.out] at this; exact this), HQ2.out, HM.out, by first | exact (((PM.out.setR0 mh).setR1 ml).setQ1 (ql' + 1)) | exact ((((PM.out.setR0 mh).setR1 ml).setQ0 qh').setQ1 (ql' + 1))⟩
            case measure => first | (simp [intOf]; done) | (simp [intOf]; omega)
          · have tov : (rh / 9223372036854775808 == 1) = false := by rw [beq_eq_false_iff_ne]; exact fun e => hov ((bd_two HR.out).1 e)
            by_cases hyt : y ≤ 2 * r + x / 2 ^ j % 2
            · go_wp2_with fail
              refine (twice_w HR.out _).mono ?_
              rintro e w1 ⟨th, tl, ⟨ht, ht2⟩, rfl, hb1⟩
              have P1 := Lib.hid (HP.out.later hb1)
              clear hb1 HP
              clear c00 c01 k0 c10 c11 k1 c40 c41 f40 f41 k4 c50 c51 f50 f51 k5
              obtain ⟨⟨c00, c01⟩, -, k0⟩ := P1.out.b0.two
              obtain ⟨⟨c10, c11⟩, -, k1⟩ := P1.out.b1.two
              obtain ⟨⟨c40, c41⟩, ⟨f40, f41⟩, k4⟩ := P1.out.b4.two
              obtain ⟨⟨c50, c51⟩, ⟨f50, f51⟩, k5⟩ := P1.out.b5.two
              have hbt : bits .and .u64 (al / 2 ^ (j % 64)) 1 = ((x / 2 ^ j % 2 : Nat) : Int) := bit_at_lo HAa.out hj
              rw [hbt]
              clear hbt
              obtain ⟨bt, hbn⟩ : ∃ bt : Nat, x / 2 ^ j % 2 = bt := ⟨_, rfl⟩
              have HBN := Lib.hid hbn
              have hb01 : bt < 2 := by rw [← hbn]; exact Nat.mod_lt _ (by omega)
              rw [hbn] at hyt ⊢
              clear hbn
              have hor : bits .or .u64 tl (bt : Int) = tl + bt := or_low tl bt ht.l0 ht.l1 ht2 (by omega)
              have HT := Lib.hid (ht.plus_low ht2 (bt : Int) (by omega))
              rw [Int.toNat_natCast] at HT
              clear ht ht2
              go_wp2_with fail
              refine (twice_w HQ.out _).mono ?_
              rintro e w2 ⟨qh', ql', ⟨hq, hq2⟩, rfl, hb2⟩
              have P2 := Lib.hid ((((P1.out.setR0 th).setR1 tl).setR1 (tl + bt)).later hb2)
              clear hb2 P1 hor
              clear c00 c01 k0 c10 c11 k1 c40 c41 f40 f41 k4 c50 c51 f50 f51 k5
              obtain ⟨⟨c00, c01⟩, -, k0⟩ := P2.out.b0.two
              obtain ⟨⟨c10, c11⟩, -, k1⟩ := P2.out.b1.two
              obtain ⟨⟨c40, c41⟩, ⟨f40, f41⟩, k4⟩ := P2.out.b4.two
              obtain ⟨⟨c50, c51⟩, ⟨f50, f51⟩, k5⟩ := P2.out.b5.two
              rw [Nat.mod_eq_of_lt (show 2 * q < 340282366920938463463374607431768211456 by omega)] at hq
              have hsm : 2 * r % 340282366920938463463374607431768211456 + bt = 2 * r + bt := by rw [Nat.mod_eq_of_lt (show 2 * r < 340282366920938463463374607431768211456 by omega)]
              have HT2 := Lib.hid (show W2 th (tl + bt) (2 * r + bt) by have := HT.out; rw [hsm] at this; exact this)
              have hz : (2 * r + bt + 340282366920938463463374607431768211456 - y) % 340282366920938463463374607431768211456 = 2 * r + bt - y := by omega
              clear hsm
              clear HT
              have tc : decide (0 ≤ cmpI (2 * (r : Int) + (bt : Int)) (y : Int)) = true := decide_eq_true (by unfold cmpI; split <;> (try split) <;> omega)
              go_wp2_with fail
              refine (order_w HT2.out HYy.out _).mono ?_
              rintro e w3 ⟨rfl, hb3⟩
              have P3 := Lib.hid (((P2.out.setQ0 qh').setQ1 ql').later hb3)
              clear hb3 P2
              clear c00 c01 k0 c10 c11 k1 c40 c41 f40 f41 k4 c50 c51 f50 f51 k5
              obtain ⟨⟨c00, c01⟩, -, k0⟩ := P3.out.b0.two
              obtain ⟨⟨c10, c11⟩, -, k1⟩ := P3.out.b1.two
              obtain ⟨⟨c40, c41⟩, ⟨f40, f41⟩, k4⟩ := P3.out.b4.two
              obtain ⟨⟨c50, c51⟩, ⟨f50, f51⟩, k5⟩ := P3.out.b5.two
              have hor2 : bits .or .u64 ql' 1 = ql' + 1 := or_low ql' 1 hq.l0 hq.l1 hq2 (by omega)
              have HQ2 := Lib.hid (show W2 qh' (ql' + 1) (2 * q + 1) from hq.plus_low hq2 1 (by omega))
              clear hq hq2
              go_wp2_with fail
              refine (minus_w HT2.out HYy.out _ hz _).mono ?_
              rintro e wM ⟨mh, ml, hm, rfl, hbm⟩
              have PM := Lib.hid (P3.out.later hbm)
              have HM := Lib.hid hm
              clear hbm hm P3
              clear c00 c01 k0 c10 c11 k1 c40 c41 f40 f41 k4 c50 c51 f50 f51 k5
              obtain ⟨⟨c00, c01⟩, -, k0⟩ := PM.out.b0.two
              obtain ⟨⟨c10, c11⟩, -, k1⟩ := PM.out.b1.two
              obtain ⟨⟨c40, c41⟩, ⟨f40, f41⟩, k4⟩ := PM.out.b4.two
              obtain ⟨⟨c50, c51⟩, ⟨f50, f51⟩, k5⟩ := PM.out.b5.two
              go_wp2_with fail
              go_roundw
              case rel => exact ⟨_, j, 2 * q + 1, 2 * r + bt - y, qh', ql' + 1, mh, ml, by first | rfl | go_num, by show _ = _; omega, by omega, (by have := LongDiv.yes HI.out (by rw [HBN.out]; omega); rw [HBN.out] at this; exact this), HQ2.out, HM.out, by first | exact (((PM.out.setR0 mh).setR1 ml).setQ1 (ql' + 1)) | exact ((((PM.out.setR0 mh).setR1 ml).setQ0 qh').setQ1 (ql' + 1))⟩
              case measure => first | (simp [intOf]; done) | (simp [intOf]; omega)
            · go_wp2_with fail
              refine (twice_w HR.out _).mono ?_
              rintro e w1 ⟨th, tl, ⟨ht, ht2⟩, rfl, hb1⟩
              have P1 := Lib.hid (HP.out.later hb1)
              clear hb1 HP
              clear c00 c01 k0 c10 c11 k1 c40 c41 f40 f41 k4 c50 c51 f50 f51 k5
              obtain ⟨⟨c00, c01⟩, -, k0⟩ := P1.out.b0.two
              obtain ⟨⟨c10, c11⟩, -, k1⟩ := P1.out.b1.two
              obtain ⟨⟨c40, c41⟩, ⟨f40, f41⟩, k4⟩ := P1.out.b4.two
              obtain ⟨⟨c50, c51⟩, ⟨f50, f51⟩, k5⟩ := P1.out.b5.two
              have hbt : bits .and .u64 (al / 2 ^ (j % 64)) 1 = ((x / 2 ^ j % 2 : Nat) : Int) := bit_at_lo HAa.out hj
              rw [hbt]
              clear hbt
              obtain ⟨bt, hbn⟩ : ∃ bt : Nat, x / 2 ^ j % 2 = bt := ⟨_, rfl⟩
              have HBN := Lib.hid hbn
              have hb01 : bt < 2 := by rw [← hbn]; exact Nat.mod_lt _ (by omega)
              rw [hbn] at hyt ⊢
              clear hbn
              have hor : bits .or .u64 tl (bt : Int) = tl + bt := or_low tl bt ht.l0 ht.l1 ht2 (by omega)
              have HT := Lib.hid (ht.plus_low ht2 (bt : Int) (by omega))
              rw [Int.toNat_natCast] at HT
              clear ht ht2
              go_wp2_with fail
              refine (twice_w HQ.out _).mono ?_
              rintro e w2 ⟨qh', ql', ⟨hq, hq2⟩, rfl, hb2⟩
              have P2 := Lib.hid ((((P1.out.setR0 th).setR1 tl).setR1 (tl + bt)).later hb2)
              clear hb2 P1 hor
              clear c00 c01 k0 c10 c11 k1 c40 c41 f40 f41 k4 c50 c51 f50 f51 k5
              obtain ⟨⟨c00, c01⟩, -, k0⟩ := P2.out.b0.two
              obtain ⟨⟨c10, c11⟩, -, k1⟩ := P2.out.b1.two
              obtain ⟨⟨c40, c41⟩, ⟨f40, f41⟩, k4⟩ := P2.out.b4.two
              obtain ⟨⟨c50, c51⟩, ⟨f50, f51⟩, k5⟩ := P2.out.b5.two
              rw [Nat.mod_eq_of_lt (show 2 * q < 340282366920938463463374607431768211456 by omega)] at hq
              have hsm : 2 * r % 340282366920938463463374607431768211456 + bt = 2 * r + bt := by rw [Nat.mod_eq_of_lt (show 2 * r < 340282366920938463463374607431768211456 by omega)]
              have HT2 := Lib.hid (show W2 th (tl + bt) (2 * r + bt) by have := HT.out; rw [hsm] at this; exact this)
              clear hsm
              clear HT
              have tc : decide (0 ≤ cmpI (2 * (r : Int) + (bt : Int)) (y : Int)) = false := decide_eq_false (by unfold cmpI; split <;> (try split) <;> omega)
              go_wp2_with fail
              refine (order_w HT2.out HYy.out _).mono ?_
              rintro e w3 ⟨rfl, hb3⟩
              have P3 := Lib.hid (((P2.out.setQ0 qh').setQ1 ql').later hb3)
              clear hb3 P2
              clear c00 c01 k0 c10 c11 k1 c40 c41 f40 f41 k4 c50 c51 f50 f51 k5
              obtain ⟨⟨c00, c01⟩, -, k0⟩ := P3.out.b0.two
              obtain ⟨⟨c10, c11⟩, -, k1⟩ := P3.out.b1.two
              obtain ⟨⟨c40, c41⟩, ⟨f40, f41⟩, k4⟩ := P3.out.b4.two
              obtain ⟨⟨c50, c51⟩, ⟨f50, f51⟩, k5⟩ := P3.out.b5.two
              have HQ2 := Lib.hid hq
              clear hq hq2
              go_wp2_with fail
              go_roundw
              case rel => exact ⟨_, j, 2 * q, 2 * r + bt, qh', ql', th, tl + bt, by first | rfl | go_num, by show _ = _; omega, by omega, (by have := LongDiv.no HI.out (by rw [HBN.out]; omega); rw [HBN.out] at this; exact this), HQ2.out, HT2.out, P3.out⟩
              case measure => first | (simp [intOf]; done) | (simp [intOf]; omega)
        · have hjt : decide ((64 : Int) ≤ (j : Int)) = true := decide_eq_true (by omega)
          by_cases hov : 170141183460469231731687303715884105728 ≤ r
          · have tov : (rh / 9223372036854775808 == 1) = true := by rw [beq_iff_eq]; exact (bd_two HR.out).2 hov
            go_wp2_with fail
            refine (twice_w HR.out _).mono ?_
            rintro e w1 ⟨th, tl, ⟨ht, ht2⟩, rfl, hb1⟩
            have P1 := Lib.hid (HP.out.later hb1)
            clear hb1 HP
            clear c00 c01 k0 c10 c11 k1 c40 c41 f40 f41 k4 c50 c51 f50 f51 k5
            obtain ⟨⟨c00, c01⟩, -, k0⟩ := P1.out.b0.two
            obtain ⟨⟨c10, c11⟩, -, k1⟩ := P1.out.b1.two
            obtain ⟨⟨c40, c41⟩, ⟨f40, f41⟩, k4⟩ := P1.out.b4.two
            obtain ⟨⟨c50, c51⟩, ⟨f50, f51⟩, k5⟩ := P1.out.b5.two
            have hbt : bits .and .u64 (ah / 2 ^ (j - 64)) 1 = ((x / 2 ^ j % 2 : Nat) : Int) := bit_at_hi HAa.out (by omega)
            rw [hbt]
            clear hbt
            obtain ⟨bt, hbn⟩ : ∃ bt : Nat, x / 2 ^ j % 2 = bt := ⟨_, rfl⟩
            have HBN := Lib.hid hbn
            have hb01 : bt < 2 := by rw [← hbn]; exact Nat.mod_lt _ (by omega)
            rw [hbn]
            clear hbn
            have hor : bits .or .u64 tl (bt : Int) = tl + bt := or_low tl bt ht.l0 ht.l1 ht2 (by omega)
            have HT := Lib.hid (ht.plus_low ht2 (bt : Int) (by omega))
            rw [Int.toNat_natCast] at HT
            clear ht ht2
            go_wp2_with fail
            refine (twice_w HQ.out _).mono ?_
            rintro e w2 ⟨qh', ql', ⟨hq, hq2⟩, rfl, hb2⟩
            have P2 := Lib.hid ((((P1.out.setR0 th).setR1 tl).setR1 (tl + bt)).later hb2)
            clear hb2 P1 hor
            clear c00 c01 k0 c10 c11 k1 c40 c41 f40 f41 k4 c50 c51 f50 f51 k5
            obtain ⟨⟨c00, c01⟩, -, k0⟩ := P2.out.b0.two
            obtain ⟨⟨c10, c11⟩, -, k1⟩ := P2.out.b1.two
            obtain ⟨⟨c40, c41⟩, ⟨f40, f41⟩, k4⟩ := P2.out.b4.two
            obtain ⟨⟨c50, c51⟩, ⟨f50, f51⟩, k5⟩ := P2.out.b5.two
            rw [Nat.mod_eq_of_lt (show 2 * q < 340282366920938463463374607431768211456 by omega)] at hq
            have HT2 := Lib.hid (show W2 th (tl + bt) (2 * r % 340282366920938463463374607431768211456 + bt) from HT.out)
            have hz : (2 * r % 340282366920938463463374607431768211456 + bt + 340282366920938463463374607431768211456 - y) % 340282366920938463463374607431768211456 = 2 * r + bt - y := by omega
            clear HT
            have hor2 : bits .or .u64 ql' 1 = ql' + 1 := or_low ql' 1 hq.l0 hq.l1 hq2 (by omega)
            have HQ2 := Lib.hid (show W2 qh' (ql' + 1) (2 * q + 1) from hq.plus_low hq2 1 (by omega))
            clear hq hq2
            go_wp2_with fail
            refine (minus_w HT2.out HYy.out _ hz _).mono ?_
            rintro e wM ⟨mh, ml, hm, rfl, hbm⟩
            have PM := Lib.hid (((P2.out.setQ0 qh').setQ1 ql').later hbm)
            have HM := Lib.hid hm
            clear hbm hm P2
            clear c00 c01 k0 c10 c11 k1 c40 c41 f40 f41 k4 c50 c51 f50 f51 k5
            obtain ⟨⟨c00, c01⟩, -, k0⟩ := PM.out.b0.two
            obtain ⟨⟨c10, c11⟩, -, k1⟩ := PM.out.b1.two
            obtain ⟨⟨c40, c41⟩, ⟨f40, f41⟩, k4⟩ := PM.out.b4.two
            obtain ⟨⟨c50, c51⟩, ⟨f50, f51⟩, k5⟩ := PM.out.b5.two
            go_wp2_with fail
            go_roundw
            case rel => exact ⟨_, j, 2 * q + 1, 2 * r + bt - y, qh', ql' + 1, mh, ml, by first | rfl | go_num, by show _ = _; omega, by omega, (by have := LongDiv.yes HI.out (by rw [HBN.out]; omega); rw [HBN.out] at this; exact this), HQ2.out, HM.out, by first | exact (((PM.out.setR0 mh).setR1 ml).setQ1 (ql' + 1)) | exact ((((PM.out.setR0 mh).setR1 ml).setQ0 qh').setQ1 (ql' + 1))⟩
            case measure => first | (simp [intOf]; done) | (simp [intOf]; omega)
          · have tov : (rh / 9223372036854775808 == 1) = false := by rw [beq_eq_false_iff_ne]; exact fun e => hov ((bd_two HR.out).1 e)
            by_cases hyt : y ≤ 2 * r + x / 2 ^ j % 2
            · go_wp2_with fail
              refine (twice_w HR.out _).mono ?_
              rintro e w1 ⟨th, tl, ⟨ht, ht2⟩, rfl, hb1⟩
              have P1 := Lib.hid (HP.out.later hb1)
              clear hb1 HP
              clear c00 c01 k0 c10 c11 k1 c40 c41 f40 f41 k4 c50 c51 f50 f51 k5
              obtain ⟨⟨c00, c01⟩, -, k0⟩ := P1.out.b0.two
              obtain ⟨⟨c10, c11⟩, -, k1⟩ := P1.out.b1.two
              obtain ⟨⟨c40, c41⟩, ⟨f40, f41⟩, k4⟩ := P1.out.b4.two
              obtain ⟨⟨c50, c51⟩, ⟨f50, f51⟩, k5⟩ := P1.out.b5.two
              have hbt : bits .and .u64 (ah / 2 ^ (j - 64)) 1 = ((x / 2 ^ j % 2 : Nat) : Int) := bit_at_hi HAa.out (by omega)
              rw [hbt]
              clear hbt
              obtain ⟨bt, hbn⟩ : ∃ bt : Nat, x / 2 ^ j % 2 = bt := ⟨_, rfl⟩
              have HBN := Lib.hid hbn
              have hb01 : bt < 2 := by rw [← hbn]; exact Nat.mod_lt _ (by omega)
              rw [hbn] at hyt ⊢
              clear hbn
              have hor : bits .or .u64 tl (bt : Int) = tl + bt := or_low tl bt ht.l0 ht.l1 ht2 (by omega)
              have HT := Lib.hid (ht.plus_low ht2 (bt : Int) (by omega))
              rw [Int.toNat_natCast] at HT
              clear ht ht2
              go_wp2_with fail
              refine (twice_w HQ.out _).mono ?_
              rintro e w2 ⟨qh', ql', ⟨hq, hq2⟩, rfl, hb2⟩
              have P2 := Lib.hid ((((P1.out.setR0 th).setR1 tl).setR1 (tl + bt)).later hb2)
              clear hb2 P1 hor
              clear c00 c01 k0 c10 c11 k1 c40 c41 f40 f41 k4 c50 c51 f50 f51 k5
              obtain ⟨⟨c00, c01⟩, -, k0⟩ := P2.out.b0.two
              obtain ⟨⟨c10, c11⟩, -, k1⟩ := P2.out.b1.two
              obtain ⟨⟨c40, c41⟩, ⟨f40, f41⟩, k4⟩ := P2.out.b4.two
              obtain ⟨⟨c50, c51⟩, ⟨f50, f51⟩, k5⟩ := P2.out.b5.two
              rw [Nat.mod_eq_of_lt (show 2 * q < 340282366920938463463374607431768211456 by omega)] at hq
              have hsm : 2 * r % 340282366920938463463374607431768211456 + bt = 2 * r + bt := by rw [Nat.mod_eq_of_lt (show 2 * r < 340282366920938463463374607431768211456 by omega)]
              have HT2 := Lib.hid (show W2 th (tl + bt) (2 * r + bt) by have := HT.out; rw [hsm] at this; exact this)
              have hz : (2 * r + bt + 340282366920938463463374607431768211456 - y) % 340282366920938463463374607431768211456 = 2 * r + bt - y := by omega
              clear hsm
              clear HT
              have tc : decide (0 ≤ cmpI (2 * (r : Int) + (bt : Int)) (y : Int)) = true := decide_eq_true (by unfold cmpI; split <;> (try split) <;> omega)
              go_wp2_with fail
              refine (order_w HT2.out HYy.out _).mono ?_
              rintro e w3 ⟨rfl, hb3⟩
              have P3 := Lib.hid (((P2.out.setQ0 qh').setQ1 ql').later hb3)
              clear hb3 P2
              clear c00 c01 k0 c10 c11 k1 c40 c41 f40 f41 k4 c50 c51 f50 f51 k5
              obtain ⟨⟨c00, c01⟩, -, k0⟩ := P3.out.b0.two
              obtain ⟨⟨c10, c11⟩, -, k1⟩ := P3.out.b1.two
              obtain ⟨⟨c40, c41⟩, ⟨f40, f41⟩, k4⟩ := P3.out.b4.two
              obtain ⟨⟨c50, c51⟩, ⟨f50, f51⟩, k5⟩ := P3.out.b5.two
              have hor2 : bits .or .u64 ql' 1 = ql' + 1 := or_low ql' 1 hq.l0 hq.l1 hq2 (by omega)
              have HQ2 := Lib.hid (show W2 qh' (ql' + 1) (2 * q + 1) from hq.plus_low hq2 1 (by omega))
              clear hq hq2
              go_wp2_with fail
              refine (minus_w HT2.out HYy.out _ hz _).mono ?_
              rintro e wM ⟨mh, ml, hm, rfl, hbm⟩
              have PM := Lib.hid (P3.out.later hbm)
              have HM := Lib.hid hm
              clear hbm hm P3
              clear c00 c01 k0 c10 c11 k1 c40 c41 f40 f41 k4 c50 c51 f50 f51 k5
              obtain ⟨⟨c00, c01⟩, -, k0⟩ := PM.out.b0.two
              obtain ⟨⟨c10, c11⟩, -, k1⟩ := PM.out.b1.two
              obtain ⟨⟨c40, c41⟩, ⟨f40, f41⟩, k4⟩ := PM.out.b4.two
              obtain ⟨⟨c50, c51⟩, ⟨f50, f51⟩, k5⟩ := PM.out.b5.two
              go_wp2_with fail
              go_roundw
              case rel => exact ⟨_, j, 2 * q + 1, 2 * r + bt - y, qh', ql' + 1, mh, ml, by first | rfl | go_num, by show _ = _; omega, by omega, (by have := LongDiv.yes HI.out (by rw [HBN.out]; omega); rw [HBN.out] at this; exact this), HQ2.out, HM.out, by first | exact (((PM.out.setR0 mh).setR1 ml).setQ1 (ql' + 1)) | exact ((((PM.out.setR0 mh).setR1 ml).setQ0 qh').setQ1 (ql' + 1))⟩
              case measure => first | (simp [intOf]; done) | (simp [intOf]; omega)
            · go_wp2_with fail
              refine (twice_w HR.out _).mono ?_
              rintro e w1 ⟨th, tl, ⟨ht, ht2⟩, rfl, hb1⟩
              have P1 := Lib.hid (HP.out.later hb1)
              clear hb1 HP
              clear c00 c01 k0 c10 c11 k1 c40 c41 f40 f41 k4 c50 c51 f50 f51 k5
              obtain ⟨⟨c00, c01⟩, -, k0⟩ := P1.out.b0.two
              obtain ⟨⟨c10, c11⟩, -, k1⟩ := P1.out.b1.two
              obtain ⟨⟨c40, c41⟩, ⟨f40, f41⟩, k4⟩ := P1.out.b4.two
              obtain ⟨⟨c50, c51⟩, ⟨f50, f51⟩, k5⟩ := P1.out.b5.two
              have hbt : bits .and .u64 (ah / 2 ^ (j - 64)) 1 = ((x / 2 ^ j % 2 : Nat) : Int) := bit_at_hi HAa.out (by omega)
              rw [hbt]
              clear hbt
              obtain ⟨bt, hbn⟩ : ∃ bt : Nat, x / 2 ^ j % 2 = bt := ⟨_, rfl⟩
              have HBN := Lib.hid hbn
              have hb01 : bt < 2 := by rw [← hbn]; exact Nat.mod_lt _ (by omega)
              rw [hbn] at hyt ⊢
              clear hbn
              have hor : bits .or .u64 tl (bt : Int) = tl + bt := or_low tl bt ht.l0 ht.l1 ht2 (by omega)
              have HT := Lib.hid (ht.plus_low ht2 (bt : Int) (by omega))
              rw [Int.toNat_natCast] at HT
              clear ht ht2
              go_wp2_with fail
              refine (twice_w HQ.out _).mono ?_
              rintro e w2 ⟨qh', ql', ⟨hq, hq2⟩, rfl, hb2⟩
              have P2 := Lib.hid ((((P1.out.setR0 th).setR1 tl).setR1 (tl + bt)).later hb2)
              clear hb2 P1 hor
              clear c00 c01 k0 c10 c11 k1 c40 c41 f40 f41 k4 c50 c51 f50 f51 k5
              obtain ⟨⟨c00, c01⟩, -, k0⟩ := P2.out.b0.two
              obtain ⟨⟨c10, c11⟩, -, k1⟩ := P2.out.b1.two
              obtain ⟨⟨c40, c41⟩, ⟨f40, f41⟩, k4⟩ := P2.out.b4.two
              obtain ⟨⟨c50, c51⟩, ⟨f50, f51⟩, k5⟩ := P2.out.b5.two
              rw [Nat.mod_eq_of_lt (show 2 * q < 340282366920938463463374607431768211456 by omega)] at hq
              have hsm : 2 * r % 340282366920938463463374607431768211456 + bt = 2 * r + bt := by rw [Nat.mod_eq_of_lt (show 2 * r < 340282366920938463463374607431768211456 by omega)]
              have HT2 := Lib.hid (show W2 th (tl + bt) (2 * r + bt) by have := HT.out; rw [hsm] at this; exact this)
              clear hsm
              clear HT
              have tc : decide (0 ≤ cmpI (2 * (r : Int) + (bt : Int)) (y : Int)) = false := decide_eq_false (by unfold cmpI; split <;> (try split) <;> omega)
              go_wp2_with fail
              refine (order_w HT2.out HYy.out _).mono ?_
              rintro e w3 ⟨rfl, hb3⟩
              have P3 := Lib.hid (((P2.out.setQ0 qh').setQ1 ql').later hb3)
              clear hb3 P2
              clear c00 c01 k0 c10 c11 k1 c40 c41 f40 f41 k4 c50 c51 f50 f51 k5
              obtain ⟨⟨c00, c01⟩, -, k0⟩ := P3.out.b0.two
              obtain ⟨⟨c10, c11⟩, -, k1⟩ := P3.out.b1.two
              obtain ⟨⟨c40, c41⟩, ⟨f40, f41⟩, k4⟩ := P3.out.b4.two
              obtain ⟨⟨c50, c51⟩, ⟨f50, f51⟩, k5⟩ := P3.out.b5.two
              have HQ2 := Lib.hid hq
              clear hq hq2
              go_wp2_with fail
              go_roundw
              case rel => exact ⟨_, j, 2 * q, 2 * r + bt, qh', ql', th, tl + bt, by first | rfl | go_num, by show _ = _; omega, by omega, (by have := LongDiv.no HI.out (by rw [HBN.out]; omega); rw [HBN.out] at this; exact this), HQ2.out, HT2.out, P3.out⟩
              case measure => first | (simp [intOf]; done) | (simp [intOf]; omega)
      · have hit : decide ((0 : Int) ≤ i) = false := decide_eq_false hi0
        obtain rfl : k = 0 := by have := hk.out; omega
        obtain ⟨e1, e2⟩ := LongDiv.done HI.out
        have HRES : Hid (W2 qh ql (x / y) ∧ W2 rh rl (x % y)) := ⟨e1 ▸ HQ.out, e2 ▸ HR.out⟩
        clear e1 e2 HI hk
        obtain ⟨⟨c20, c21⟩, ⟨f20, f21⟩, k2⟩ := HP.out.b2.two
        obtain ⟨⟨c30, c31⟩, ⟨f30, f31⟩, k3⟩ := HP.out.b3.two
        obtain ⟨⟨c40, c41⟩, ⟨f40, f41⟩, k4⟩ := HP.out.b4.two
        obtain ⟨⟨c50, c51⟩, ⟨f50, f51⟩, k5⟩ := HP.out.b5.two
        have HX := Lib.hid HP.out.hb
        go_wp2
        go_region
        all_goals (go_wp2; refine bodyPost_ret (v := .tuple #[.agg #[.int .u64 qh, .int .u64 ql], .agg #[.int .u64 rh, .int .u64 rl]]) (by simp [results, Tryd.results38, go_sem, c20, c21, c30, c31, c40, c41, c50, c51, k2, k3, k4, k5]) rfl ⟨qh, ql, rh, rl, HRES.out, rfl, ?_⟩; first | exact bSt (bSt (bSt (bSt (bD1 HX.out) (by simp; omega) _) (by simp; omega) _) (by simp; omega) _) (by simp; omega) _ | exact bD1 (bSt (bSt (bSt (bSt HX.out (by simp; omega) _) (by simp; omega) _) (by simp; omega) _) (by simp; omega) _))
  · go_enter Tryd.func38, Tryd.ntmps38
    go_wp2_with fail
    have D0 : DP w ah al bh bl 0 0 0 0 ((((((w.alloc (.cells #[.int .u64 ah, .int .u64 al] 46)).alloc (.cells #[.int .u64 bh, .int .u64 bl] 46)).alloc (.cells #[.int .u64 0, .int .u64 0] 46)).alloc (.cells #[.int .u64 0, .int .u64 0] 46)).alloc (.cells #[.int .u64 0, .int .u64 0] 46)).alloc (.cells #[.int .u64 0, .int .u64 0] 46)) :=
      ⟨(((((Blk.newAt rfl).alloc _).alloc _).alloc _).alloc _).alloc _, ((((Blk.newAt (by simp)).alloc _).alloc _).alloc _).alloc _, (((Blk.newAt (by simp)).alloc _).alloc _).alloc _, ((Blk.newAt (by simp)).alloc _).alloc _, (Blk.newAt (by simp)).alloc _, Blk.newAt (by simp), bAl (bAl (bAl (bAl (bAl (bAl (Below.refl _ _) _) _) _) _) _) _⟩
    go_loopw [8] (fun v wr => ∃ (i : Int) (k q r : Nat) (qh ql rh rl : Int), v = .int .i64 i ∧ Hid (i + 1 = (k : Int)) ∧ i ≤ 127 ∧ Hid (LongDiv.Inv x y k q r) ∧ Hid (W2 qh ql q) ∧ Hid (W2 rh rl r) ∧ Hid (DP w ah al bh bl qh ql rh rl wr)) (fun v _ => ((intOf v) + 1).toNat)
    case atStart => exact ⟨127, 128, 0, 0, 0, 0, 0, 0, rfl, by show _ = _; rfl, by omega, INV0, ⟨by omega, by omega, by omega, by omega, by omega⟩, ⟨by omega, by omega, by omega, by omega, by omega⟩, D0⟩
    case round =>
      clear D0 INV0
      obtain ⟨i, k, q, r, qh, ql, rh, rl, rfl, hk, hi, HI, HQ, HR, HP⟩ := hrel
      by_cases hi0 : 0 ≤ i
      · obtain ⟨j, rfl⟩ := Int.eq_ofNat_of_zero_le hi0
        obtain rfl : k = j + 1 := by have := hk.out; omega
        clear hk
        have hqb := LongDiv.q_bd HI.out (by omega) (by omega)
        have hry := HI.out.2.1
        obtain ⟨⟨c00, c01⟩, -, k0⟩ := HP.out.b0.two
        obtain ⟨⟨c10, c11⟩, -, k1⟩ := HP.out.b1.two
        obtain ⟨⟨c40, c41⟩, ⟨f40, f41⟩, k4⟩ := HP.out.b4.two
        obtain ⟨⟨c50, c51⟩, ⟨f50, f51⟩, k5⟩ := HP.out.b5.two
        by_cases hj : j < 64
        · have hjt : decide ((64 : Int) ≤ (j : Int)) = false := decide_eq_false (by omega)
          by_cases hov : 170141183460469231731687303715884105728 ≤ r
          · have tov : (rh / 9223372036854775808 == 1) = true := by rw [beq_iff_eq]; exact (bd_two HR.out).2 hov
            go_wp2_with fail
            refine (twice_w HR.out _).mono ?_
            rintro e w1 ⟨th, tl, ⟨ht, ht2⟩, rfl, hb1⟩
            have P1 := Lib.hid (HP.out.later hb1)
            clear hb1 HP
            clear c00 c01 k0 c10 c11 k1 c40 c41 f40 f41 k4 c50 c51 f50 f51 k5
            obtain ⟨⟨c00, c01⟩, -, k0⟩ := P1.out.b0.two
            obtain ⟨⟨c10, c11⟩, -, k1⟩ := P1.out.b1.two
            obtain ⟨⟨c40, c41⟩, ⟨f40, f41⟩, k4⟩ := P1.out.b4.two
            obtain ⟨⟨c50, c51⟩, ⟨f50, f51⟩, k5⟩ := P1.out.b5.two
            have hbt : bits .and .u64 (al / 2 ^ (j % 64)) 1 = ((x / 2 ^ j % 2 : Nat) : Int) := bit_at_lo HAa.out hj
            rw [hbt]
            clear hbt
            obtain ⟨bt, hbn⟩ : ∃ bt : Nat, x / 2 ^ j % 2 = bt := ⟨_, rfl⟩
            have HBN := Lib.hid hbn
            have hb01 : bt < 2 := by rw [← hbn]; exact Nat.mod_lt _ (by omega)
            rw [hbn]
            clear hbn
            have hor : bits .or .u64 tl (bt : Int) = tl + bt := or_low tl bt ht.l0 ht.l1 ht2 (by omega)
            have HT := Lib.hid (ht.plus_low ht2 (bt : Int) (by omega))
            rw [Int.toNat_natCast] at HT
            clear ht ht2
            go_wp2_with fail
            refine (twice_w HQ.out _).mono ?_
            rintro e w2 ⟨qh', ql', ⟨hq, hq2⟩, rfl, hb2⟩
            have P2 := Lib.hid ((((P1.out.setR0 th).setR1 tl).setR1 (tl + bt)).later hb2)
            clear hb2 P1 hor
            clear c00 c01 k0 c10 c11 k1 c40 c41 f40 f41 k4 c50 c51 f50 f51 k5
            obtain ⟨⟨c00, c01⟩, -, k0⟩ := P2.out.b0.two
            obtain ⟨⟨c10, c11⟩, -, k1⟩ := P2.out.b1.two
            obtain ⟨⟨c40, c41⟩, ⟨f40, f41⟩, k4⟩ := P2.out.b4.two
            obtain ⟨⟨c50, c51⟩, ⟨f50, f51⟩, k5⟩ := P2.out.b5.two
            rw [Nat.mod_eq_of_lt (show 2 * q < 340282366920938463463374607431768211456 by omega)] at hq
            have HT2 := Lib.hid (show W2 th (tl + bt) (2 * r % 340282366920938463463374607431768211456 + bt) from HT.out)
            have hz : (2 * r % 340282366920938463463374607431768211456 + bt + 340282366920938463463374607431768211456 - y) % 340282366920938463463374607431768211456 = 2 * r + bt - y := by omega
            clear HT
            have hor2 : bits .or .u64 ql' 1 = ql' + 1 := or_low ql' 1 hq.l0 hq.l1 hq2 (by omega)
            have HQ2 := Lib.hid (show W2 qh' (ql' + 1) (2 * q + 1) from hq.plus_low hq2 1 (by omega))
            clear hq hq2
            go_wp2_with fail
            refine (minus_w HT2.out HYy.out _ hz _).mono ?_
            rintro e wM ⟨mh, ml, hm, rfl, hbm⟩
            have PM := Lib.hid (((P2.out.setQ0 qh').setQ1 ql').later hbm)
            have HM := Lib.hid hm
            clear hbm hm P2
            clear c00 c01 k0 c10 c11 k1 c40 c41 f40 f41 k4 c50 c51 f50 f51 k5
            obtain ⟨⟨c00, c01⟩, -, k0⟩ := PM.out.b0.two
            obtain ⟨⟨c10, c11⟩, -, k1⟩ := PM.out.b1.two
            obtain ⟨⟨c40, c41⟩, ⟨f40, f41⟩, k4⟩ := PM.out.b4.two
            obtain ⟨⟨c50, c51⟩, ⟨f50, f51⟩, k5⟩ := PM.out.b5.two
            go_wp2_with fail
            go_roundw
            case rel => exact ⟨_, j, 2 * q + 1, 2 * r + bt - y, qh', ql' + 1, mh, ml, by first | rfl | go_num, by show _ = _; omega, by omega, (by have := LongDiv.yes HI.out (by rw [HBN.out]; omega); rw [HBN.out] at this; exact this), HQ2.out, HM.out, by first | exact (((PM.out.setR0 mh).setR1 ml).setQ1 (ql' + 1)) | exact ((((PM.out.setR0 mh).setR1 ml).setQ0 qh').setQ1 (ql' + 1))⟩
            case measure => first | (simp [intOf]; done) | (simp [intOf]; omega)
          · have tov : (rh / 9223372036854775808 == 1) = false := by rw [beq_eq_false_iff_ne]; exact fun e => hov ((bd_two HR.out).1 e)
            by_cases hyt : y ≤ 2 * r + x / 2 ^ j % 2
            · go_wp2_with fail
              refine (twice_w HR.out _).mono ?_
              rintro e w1 ⟨th, tl, ⟨ht, ht2⟩, rfl, hb1⟩
              have P1 := Lib.hid (HP.out.later hb1)
              clear hb1 HP
              clear c00 c01 k0 c10 c11 k1 c40 c41 f40 f41 k4 c50 c51 f50 f51 k5
              obtain ⟨⟨c00, c01⟩, -, k0⟩ := P1.out.b0.two
              obtain ⟨⟨c10, c11⟩, -, k1⟩ := P1.out.b1.two
              obtain ⟨⟨c40, c41⟩, ⟨f40, f41⟩, k4⟩ := P1.out.b4.two
              obtain ⟨⟨c50, c51⟩, ⟨f50, f51⟩, k5⟩ := P1.out.b5.two
              have hbt : bits .and .u64 (al / 2 ^ (j % 64)) 1 = ((x / 2 ^ j % 2 : Nat) : Int) := bit_at_lo HAa.out hj
              rw [hbt]
              clear hbt
              obtain ⟨bt, hbn⟩ : ∃ bt : Nat, x / 2 ^ j % 2 = bt := ⟨_, rfl⟩
              have HBN := Lib.hid hbn
              have hb01 : bt < 2 := by rw [← hbn]; exact Nat.mod_lt _ (by omega)
              rw [hbn] at hyt ⊢
              clear hbn
              have hor : bits .or .u64 tl (bt : Int) = tl + bt := or_low tl bt ht.l0 ht.l1 ht2 (by omega)
              have HT := Lib.hid (ht.plus_low ht2 (bt : Int) (by omega))
              rw [Int.toNat_natCast] at HT
              clear ht ht2
              go_wp2_with fail
              refine (twice_w HQ.out _).mono ?_
              rintro e w2 ⟨qh', ql', ⟨hq, hq2⟩, rfl, hb2⟩
              have P2 := Lib.hid ((((P1.out.setR0 th).setR1 tl).setR1 (tl + bt)).later hb2)
              clear hb2 P1 hor
              clear c00 c01 k0 c10 c11 k1 c40 c41 f40 f41 k4 c50 c51 f50 f51 k5
              obtain ⟨⟨c00, c01⟩, -, k0⟩ := P2.out.b0.two
              obtain ⟨⟨c10, c11⟩, -, k1⟩ := P2.out.b1.two
              obtain ⟨⟨c40, c41⟩, ⟨f40, f41⟩, k4⟩ := P2.out.b4.two
              obtain ⟨⟨c50, c51⟩, ⟨f50, f51⟩, k5⟩ := P2.out.b5.two
              rw [Nat.mod_eq_of_lt (show 2 * q < 340282366920938463463374607431768211456 by omega)] at hq
              have hsm : 2 * r % 340282366920938463463374607431768211456 + bt = 2 * r + bt := by rw [Nat.mod_eq_of_lt (show 2 * r < 340282366920938463463374607431768211456 by omega)]
              have HT2 := Lib.hid (show W2 th (tl + bt) (2 * r + bt) by have := HT.out; rw [hsm] at this; exact this)
              have hz : (2 * r + bt + 340282366920938463463374607431768211456 - y) % 340282366920938463463374607431768211456 = 2 * r + bt - y := by omega
              clear hsm
              clear HT
              have tc : decide (0 ≤ cmpI (2 * (r : Int) + (bt : Int)) (y : Int)) = true := decide_eq_true (by unfold cmpI; split <;> (try split) <;> omega)
              go_wp2_with fail
              refine (order_w HT2.out HYy.out _).mono ?_
              rintro e w3 ⟨rfl, hb3⟩
              have P3 := Lib.hid (((P2.out.setQ0 qh').setQ1 ql').later hb3)
              clear hb3 P2
              clear c00 c01 k0 c10 c11 k1 c40 c41 f40 f41 k4 c50 c51 f50 f51 k5
              obtain ⟨⟨c00, c01⟩, -, k0⟩ := P3.out.b0.two
              obtain ⟨⟨c10, c11⟩, -, k1⟩ := P3.out.b1.two
              obtain ⟨⟨c40, c41⟩, ⟨f40, f41⟩, k4⟩ := P3.out.b4.two
              obtain ⟨⟨c50, c51⟩, ⟨f50, f51⟩, k5⟩ := P3.out.b5.two
              have hor2 : bits .or .u64 ql' 1 = ql' + 1 := or_low ql' 1 hq.l0 hq.l1 hq2 (by omega)
              have HQ2 := Lib.hid (show W2 qh' (ql' + 1) (2 * q + 1) from hq.plus_low hq2 1 (by omega))
              clear hq hq2
              go_wp2_with fail
              refine (minus_w HT2.out HYy.out _ hz _).mono ?_
              rintro e wM ⟨mh, ml, hm, rfl, hbm⟩
              have PM := Lib.hid (P3.out.later hbm)
              have HM := Lib.hid hm
              clear hbm hm P3
              clear c00 c01 k0 c10 c11 k1 c40 c41 f40 f41 k4 c50 c51 f50 f51 k5
              obtain ⟨⟨c00, c01⟩, -, k0⟩ := PM.out.b0.two
              obtain ⟨⟨c10, c11⟩, -, k1⟩ := PM.out.b1.two
              obtain ⟨⟨c40, c41⟩, ⟨f40, f41⟩, k4⟩ := PM.out.b4.two
              obtain ⟨⟨c50, c51⟩, ⟨f50, f51⟩, k5⟩ := PM.out.b5.two
              go_wp2_with fail
              go_roundw
              case rel => exact ⟨_, j, 2 * q + 1, 2 * r + bt - y, qh', ql' + 1, mh, ml, by first | rfl | go_num, by show _ = _; omega, by omega, (by have := LongDiv.yes HI.out (by rw [HBN.out]; omega); rw [HBN.out] at this; exact this), HQ2.out, HM.out, by first | exact (((PM.out.setR0 mh).setR1 ml).setQ1 (ql' + 1)) | exact ((((PM.out.setR0 mh).setR1 ml).setQ0 qh').setQ1 (ql' + 1))⟩
              case measure => first | (simp [intOf]; done) | (simp [intOf]; omega)
            · go_wp2_with fail
              refine (twice_w HR.out _).mono ?_
              rintro e w1 ⟨th, tl, ⟨ht, ht2⟩, rfl, hb1⟩
              have P1 := Lib.hid (HP.out.later hb1)
              clear hb1 HP
              clear c00 c01 k0 c10 c11 k1 c40 c41 f40 f41 k4 c50 c51 f50 f51 k5
              obtain ⟨⟨c00, c01⟩, -, k0⟩ := P1.out.b0.two
              obtain ⟨⟨c10, c11⟩, -, k1⟩ := P1.out.b1.two
              obtain ⟨⟨c40, c41⟩, ⟨f40, f41⟩, k4⟩ := P1.out.b4.two
              obtain ⟨⟨c50, c51⟩, ⟨f50, f51⟩, k5⟩ := P1.out.b5.two
              have hbt : bits .and .u64 (al / 2 ^ (j % 64)) 1 = ((x / 2 ^ j % 2 : Nat) : Int) := bit_at_lo HAa.out hj
              rw [hbt]
              clear hbt
              obtain ⟨bt, hbn⟩ : ∃ bt : Nat, x / 2 ^ j % 2 = bt := ⟨_, rfl⟩
              have HBN := Lib.hid hbn
              have hb01 : bt < 2 := by rw [← hbn]; exact Nat.mod_lt _ (by omega)
              rw [hbn] at hyt ⊢
              clear hbn
              have hor : bits .or .u64 tl (bt : Int) = tl + bt := or_low tl bt ht.l0 ht.l1 ht2 (by omega)
              have HT := Lib.hid (ht.plus_low ht2 (bt : Int) (by omega))
              rw [Int.toNat_natCast] at HT
              clear ht ht2
              go_wp2_with fail
              refine (twice_w HQ.out _).mono ?_
              rintro e w2 ⟨qh', ql', ⟨hq, hq2⟩, rfl, hb2⟩
              have P2 := Lib.hid ((((P1.out.setR0 th).setR1 tl).setR1 (tl + bt)).later hb2)
              clear hb2 P1 hor
              clear c00 c01 k0 c10 c11 k1 c40 c41 f40 f41 k4 c50 c51 f50 f51 k5
              obtain ⟨⟨c00, c01⟩, -, k0⟩ := P2.out.b0.two
              obtain ⟨⟨c10, c11⟩, -, k1⟩ := P2.out.b1.two
              obtain ⟨⟨c40, c41⟩, ⟨f40, f41⟩, k4⟩ := P2.out.b4.two
              obtain ⟨⟨c50, c51⟩, ⟨f50, f51⟩, k5⟩ := P2.out.b5.two
              rw [Nat.mod_eq_of_lt (show 2 * q < 340282366920938463463374607431768211456 by omega)] at hq
              have hsm : 2 * r % 340282366920938463463374607431768211456 + bt = 2 * r + bt := by rw [Nat.mod_eq_of_lt (show 2 * r < 340282366920938463463374607431768211456 by omega)]
              have HT2 := Lib.hid (show W2 th (tl + bt) (2 * r + bt) by have := HT.out; rw [hsm] at this; exact this)
              clear hsm
              clear HT
              have tc : decide (0 ≤ cmpI (2 * (r : Int) + (bt : Int)) (y : Int)) = false := decide_eq_false (by unfold cmpI; split <;> (try split) <;> omega)
              go_wp2_with fail
              refine (order_w HT2.out HYy.out _).mono ?_
              rintro e w3 ⟨rfl, hb3⟩
              have P3 := Lib.hid (((P2.out.setQ0 qh').setQ1 ql').later hb3)
              clear hb3 P2
              clear c00 c01 k0 c10 c11 k1 c40 c41 f40 f41 k4 c50 c51 f50 f51 k5
              obtain ⟨⟨c00, c01⟩, -, k0⟩ := P3.out.b0.two
              obtain ⟨⟨c10, c11⟩, -, k1⟩ := P3.out.b1.two
              obtain ⟨⟨c40, c41⟩, ⟨f40, f41⟩, k4⟩ := P3.out.b4.two
              obtain ⟨⟨c50, c51⟩, ⟨f50, f51⟩, k5⟩ := P3.out.b5.two
              have HQ2 := Lib.hid hq
              clear hq hq2
              go_wp2_with fail
              go_roundw
              case rel => exact ⟨_, j, 2 * q, 2 * r + bt, qh', ql', th, tl + bt, by first | rfl | go_num, by show _ = _; omega, by omega, (by have := LongDiv.no HI.out (by rw [HBN.out]; omega); rw [HBN.out] at this; exact this), HQ2.out, HT2.out, P3.out⟩
              case measure => first | (simp [intOf]; done) | (simp [intOf]; omega)
        · have hjt : decide ((64 : Int) ≤ (j : Int)) = true := decide_eq_true (by omega)
          by_cases hov : 170141183460469231731687303715884105728 ≤ r
          · have tov : (rh / 9223372036854775808 == 1) = true := by rw [beq_iff_eq]; exact (bd_two HR.out).2 hov
            go_wp2_with fail
            refine (twice_w HR.out _).mono ?_
            rintro e w1 ⟨th, tl, ⟨ht, ht2⟩, rfl, hb1⟩
            have P1 := Lib.hid (HP.out.later hb1)
            clear hb1 HP
            clear c00 c01 k0 c10 c11 k1 c40 c41 f40 f41 k4 c50 c51 f50 f51 k5
            obtain ⟨⟨c00, c01⟩, -, k0⟩ := P1.out.b0.two
            obtain ⟨⟨c10, c11⟩, -, k1⟩ := P1.out.b1.two
            obtain ⟨⟨c40, c41⟩, ⟨f40, f41⟩, k4⟩ := P1.out.b4.two
            obtain ⟨⟨c50, c51⟩, ⟨f50, f51⟩, k5⟩ := P1.out.b5.two
            have hbt : bits .and .u64 (ah / 2 ^ (j - 64)) 1 = ((x / 2 ^ j % 2 : Nat) : Int) := bit_at_hi HAa.out (by omega)
            rw [hbt]
            clear hbt
            obtain ⟨bt, hbn⟩ : ∃ bt : Nat, x / 2 ^ j % 2 = bt := ⟨_, rfl⟩
            have HBN := Lib.hid hbn
            have hb01 : bt < 2 := by rw [← hbn]; exact Nat.mod_lt _ (by omega)
            rw [hbn]
            clear hbn
            have hor : bits .or .u64 tl (bt : Int) = tl + bt := or_low tl bt ht.l0 ht.l1 ht2 (by omega)
            have HT := Lib.hid (ht.plus_low ht2 (bt : Int) (by omega))
            rw [Int.toNat_natCast] at HT
            clear ht ht2
            go_wp2_with fail
            refine (twice_w HQ.out _).mono ?_
            rintro e w2 ⟨qh', ql', ⟨hq, hq2⟩, rfl, hb2⟩
            have P2 := Lib.hid ((((P1.out.setR0 th).setR1 tl).setR1 (tl + bt)).later hb2)
            clear hb2 P1 hor
            clear c00 c01 k0 c10 c11 k1 c40 c41 f40 f41 k4 c50 c51 f50 f51 k5
            obtain ⟨⟨c00, c01⟩, -, k0⟩ := P2.out.b0.two
            obtain ⟨⟨c10, c11⟩, -, k1⟩ := P2.out.b1.two
            obtain ⟨⟨c40, c41⟩, ⟨f40, f41⟩, k4⟩ := P2.out.b4.two
            obtain ⟨⟨c50, c51⟩, ⟨f50, f51⟩, k5⟩ := P2.out.b5.two
            rw [Nat.mod_eq_of_lt (show 2 * q < 340282366920938463463374607431768211456 by omega)] at hq
            have HT2 := Lib.hid (show W2 th (tl + bt) (2 * r % 340282366920938463463374607431768211456 + bt) from HT.out)
            have hz : (2 * r % 340282366920938463463374607431768211456 + bt + 340282366920938463463374607431768211456 - y) % 340282366920938463463374607431768211456 = 2 * r + bt - y := by omega
            clear HT
            have hor2 : bits .or .u64 ql' 1 = ql' + 1 := or_low ql' 1 hq.l0 hq.l1 hq2 (by omega)
            have HQ2 := Lib.hid (show W2 qh' (ql' + 1) (2 * q + 1) from hq.plus_low hq2 1 (by omega))
            clear hq hq2
            go_wp2_with fail
            refine (minus_w HT2.out HYy.out _ hz _).mono ?_
            rintro e wM ⟨mh, ml, hm, rfl, hbm⟩
            have PM := Lib.hid (((P2.out.setQ0 qh').setQ1 ql').later hbm)
            have HM := Lib.hid hm
            clear hbm hm P2
            clear c00 c01 k0 c10 c11 k1 c40 c41 f40 f41 k4 c50 c51 f50 f51 k5
            obtain ⟨⟨c00, c01⟩, -, k0⟩ := PM.out.b0.two
            obtain ⟨⟨c10, c11⟩, -, k1⟩ := PM.out.b1.two
            obtain ⟨⟨c40, c41⟩, ⟨f40, f41⟩, k4⟩ := PM.out.b4.two
            obtain ⟨⟨c50, c51⟩, ⟨f50, f51⟩, k5⟩ := PM.out.b5.two
            go_wp2_with fail
            go_roundw
            case rel => exact ⟨_, j, 2 * q + 1, 2 * r + bt - y, qh', ql' + 1, mh, ml, by first | rfl | go_num, by show _ = _; omega, by omega, (by have := LongDiv.yes HI.out (by rw [HBN.out]; omega); rw [HBN.out] at this; exact this), HQ2.out, HM.out, by first | exact (((PM.out.setR0 mh).setR1 ml).setQ1 (ql' + 1)) | exact ((((PM.out.setR0 mh).setR1 ml).setQ0 qh').setQ1 (ql' + 1))⟩
            case measure => first | (simp [intOf]; done) | (simp [intOf]; omega)
          · have tov : (rh / 9223372036854775808 == 1) = false := by rw [beq_eq_false_iff_ne]; exact fun e => hov ((bd_two HR.out).1 e)
            by_cases hyt : y ≤ 2 * r + x / 2 ^ j % 2
            · go_wp2_with fail
              refine (twice_w HR.out _).mono ?_
              rintro e w1 ⟨th, tl, ⟨ht, ht2⟩, rfl, hb1⟩
              have P1 := Lib.hid (HP.out.later hb1)
              clear hb1 HP
              clear c00 c01 k0 c10 c11 k1 c40 c41 f40 f41 k4 c50 c51 f50 f51 k5
              obtain ⟨⟨c00, c01⟩, -, k0⟩ := P1.out.b0.two
              obtain ⟨⟨c10, c11⟩, -, k1⟩ := P1.out.b1.two
              obtain ⟨⟨c40, c41⟩, ⟨f40, f41⟩, k4⟩ := P1.out.b4.two
              obtain ⟨⟨c50, c51⟩, ⟨f50, f51⟩, k5⟩ := P1.out.b5.two
              have hbt : bits .and .u64 (ah / 2 ^ (j - 64)) 1 = ((x / 2 ^ j % 2 : Nat) : Int) := bit_at_hi HAa.out (by omega)
              rw [hbt]
              clear hbt
              obtain ⟨bt, hbn⟩ : ∃ bt : Nat, x / 2 ^ j % 2 = bt := ⟨_, rfl⟩
              have HBN := Lib.hid hbn
              have hb01 : bt < 2 := by rw [← hbn]; exact Nat.mod_lt _ (by omega)
              rw [hbn] at hyt ⊢
              clear hbn
              have hor : bits .or .u64 tl (bt : Int) = tl + bt := or_low tl bt ht.l0 ht.l1 ht2 (by omega)
              have HT := Lib.hid (ht.plus_low ht2 (bt : Int) (by omega))
              rw [Int.toNat_natCast] at HT
              clear ht ht2
              go_wp2_with fail
              refine (twice_w HQ.out _).mono ?_
              rintro e w2 ⟨qh', ql', ⟨hq, hq2⟩, rfl, hb2⟩
              have P2 := Lib.hid ((((P1.out.setR0 th).setR1 tl).setR1 (tl + bt)).later hb2)
              clear hb2 P1 hor
              clear c00 c01 k0 c10 c11 k1 c40 c41 f40 f41 k4 c50 c51 f50 f51 k5
              obtain ⟨⟨c00, c01⟩, -, k0⟩ := P2.out.b0.two
              obtain ⟨⟨c10, c11⟩, -, k1⟩ := P2.out.b1.two
              obtain ⟨⟨c40, c41⟩, ⟨f40, f41⟩, k4⟩ := P2.out.b4.two
              obtain ⟨⟨c50, c51⟩, ⟨f50, f51⟩, k5⟩ := P2.out.b5.two
              rw [Nat.mod_eq_of_lt (show 2 * q < 340282366920938463463374607431768211456 by omega)] at hq
              have hsm : 2 * r % 340282366920938463463374607431768211456 + bt = 2 * r + bt := by rw [Nat.mod_eq_of_lt (show 2 * r < 340282366920938463463374607431768211456 by omega)]
              have HT2 := Lib.hid (show W2 th (tl + bt) (2 * r + bt) by have := HT.out; rw [hsm] at this; exact this)
              have hz : (2 * r + bt + 340282366920938463463374607431768211456 - y) % 340282366920938463463374607431768211456 = 2 * r + bt - y := by omega
              clear hsm
              clear HT
              have tc : decide (0 ≤ cmpI (2 * (r : Int) + (bt : Int)) (y : Int)) = true := decide_eq_true (by unfold cmpI; split <;> (try split) <;> omega)
              go_wp2_with fail
              refine (order_w HT2.out HYy.out _).mono ?_
              rintro e w3 ⟨rfl, hb3⟩
              have P3 := Lib.hid (((P2.out.setQ0 qh').setQ1 ql').later hb3)
              clear hb3 P2
              clear c00 c01 k0 c10 c11 k1 c40 c41 f40 f41 k4 c50 c51 f50 f51 k5
              obtain ⟨⟨c00, c01⟩, -, k0⟩ := P3.out.b0.two
              obtain ⟨⟨c10, c11⟩, -, k1⟩ := P3.out.b1.two
              obtain ⟨⟨c40, c41⟩, ⟨f40, f41⟩, k4⟩ := P3.out.b4.two
              obtain ⟨⟨c50, c51⟩, ⟨f50, f51⟩, k5⟩ := P3.out.b5.two
              have hor2 : bits .or .u64 ql' 1 = ql' + 1 := or_low ql' 1 hq.l0 hq.l1 hq2 (by omega)
              have HQ2 := Lib.hid (show W2 qh' (ql' + 1) (2 * q + 1) from hq.plus_low hq2 1 (by omega))
              clear hq hq2
              go_wp2_with fail
              refine (minus_w HT2.out HYy.out _ hz _).mono ?_
              rintro e wM ⟨mh, ml, hm, rfl, hbm⟩
              have PM := Lib.hid (P3.out.later hbm)
              have HM := Lib.hid hm
              clear hbm hm P3
              clear c00 c01 k0 c10 c11 k1 c40 c41 f40 f41 k4 c50 c51 f50 f51 k5
              obtain ⟨⟨c00, c01⟩, -, k0⟩ := PM.out.b0.two
              obtain ⟨⟨c10, c11⟩, -, k1⟩ := PM.out.b1.two
              obtain ⟨⟨c40, c41⟩, ⟨f40, f41⟩, k4⟩ := PM.out.b4.two
              obtain ⟨⟨c50, c51⟩, ⟨f50, f51⟩, k5⟩ := PM.out.b5.two
              go_wp2_with fail
              go_roundw
              case rel => exact ⟨_, j, 2 * q + 1, 2 * r + bt - y, qh', ql' + 1, mh, ml, by first | rfl | go_num, by show _ = _; omega, by omega, (by have := LongDiv.yes HI.out (by rw [HBN.out]; omega); rw [HBN.out] at this; exact this), HQ2.out, HM.out, by first | exact (((PM.out.setR0 mh).setR1 ml).setQ1 (ql' + 1)) | exact ((((PM.out.setR0 mh).setR1 ml).setQ0 qh').setQ1 (ql' + 1))⟩
              case measure => first | (simp [intOf]; done) | (simp [intOf]; omega)
            · go_wp2_with fail
              refine (twice_w HR.out _).mono ?_
              rintro e w1 ⟨th, tl, ⟨ht, ht2⟩, rfl, hb1⟩
              have P1 := Lib.hid (HP.out.later hb1)
              clear hb1 HP
              clear c00 c01 k0 c10 c11 k1 c40 c41 f40 f41 k4 c50 c51 f50 f51 k5
              obtain ⟨⟨c00, c01⟩, -, k0⟩ := P1.out.b0.two
              obtain ⟨⟨c10, c11⟩, -, k1⟩ := P1.out.b1.two
              obtain ⟨⟨c40, c41⟩, ⟨f40, f41⟩, k4⟩ := P1.out.b4.two
              obtain ⟨⟨c50, c51⟩, ⟨f50, f51⟩, k5⟩ := P1.out.b5.two
              have hbt : bits .and .u64 (ah / 2 ^ (j - 64)) 1 = ((x / 2 ^ j % 2 : Nat) : Int) := bit_at_hi HAa.out (by omega)
              rw [hbt]
              clear hbt
              obtain ⟨bt, hbn⟩ : ∃ bt : Nat, x / 2 ^ j % 2 = bt := ⟨_, rfl⟩
              have HBN := Lib.hid hbn
              have hb01 : bt < 2 := by rw [← hbn]; exact Nat.mod_lt _ (by omega)
              rw [hbn] at hyt ⊢
              clear hbn
              have hor : bits .or .u64 tl (bt : Int) = tl + bt := or_low tl bt ht.l0 ht.l1 ht2 (by omega)
              have HT := Lib.hid (ht.plus_low ht2 (bt : Int) (by omega))
              rw [Int.toNat_natCast] at HT
              clear ht ht2
              go_wp2_with fail
              refine (twice_w HQ.out _).mono ?_
              rintro e w2 ⟨qh', ql', ⟨hq, hq2⟩, rfl, hb2⟩
              have P2 := Lib.hid ((((P1.out.setR0 th).setR1 tl).setR1 (tl + bt)).later hb2)
              clear hb2 P1 hor
              clear c00 c01 k0 c10 c11 k1 c40 c41 f40 f41 k4 c50 c51 f50 f51 k5
              obtain ⟨⟨c00, c01⟩, -, k0⟩ := P2.out.b0.two
              obtain ⟨⟨c10, c11⟩, -, k1⟩ := P2.out.b1.two
              obtain ⟨⟨c40, c41⟩, ⟨f40, f41⟩, k4⟩ := P2.out.b4.two
              obtain ⟨⟨c50, c51⟩, ⟨f50, f51⟩, k5⟩ := P2.out.b5.two
              rw [Nat.mod_eq_of_lt (show 2 * q < 340282366920938463463374607431768211456 by omega)] at hq
              have hsm : 2 * r % 340282366920938463463374607431768211456 + bt = 2 * r + bt := by rw [Nat.mod_eq_of_lt (show 2 * r < 340282366920938463463374607431768211456 by omega)]
              have HT2 := Lib.hid (show W2 th (tl + bt) (2 * r + bt) by have := HT.out; rw [hsm] at this; exact this)
              clear hsm
              clear HT
              have tc : decide (0 ≤ cmpI (2 * (r : Int) + (bt : Int)) (y : Int)) = false := decide_eq_false (by unfold cmpI; split <;> (try split) <;> omega)
              go_wp2_with fail
              refine (order_w HT2.out HYy.out _).mono ?_
              rintro e w3 ⟨rfl, hb3⟩
              have P3 := Lib.hid (((P2.out.setQ0 qh').setQ1 ql').later hb3)
              clear hb3 P2
              clear c00 c01 k0 c10 c11 k1 c40 c41 f40 f41 k4 c50 c51 f50 f51 k5
              obtain ⟨⟨c00, c01⟩, -, k0⟩ := P3.out.b0.two
              obtain ⟨⟨c10, c11⟩, -, k1⟩ := P3.out.b1.two
              obtain ⟨⟨c40, c41⟩, ⟨f40, f41⟩, k4⟩ := P3.out.b4.two
              obtain ⟨⟨c50, c51⟩, ⟨f50, f51⟩, k5⟩ := P3.out.b5.two
              have HQ2 := Lib.hid hq
              clear hq hq2
              go_wp2_with fail
              go_roundw
              case rel => exact ⟨_, j, 2 * q, 2 * r + bt, qh', ql', th, tl + bt, by first | rfl | go_num, by show _ = _; omega, by omega, (by have := LongDiv.no HI.out (by rw [HBN.out]; omega); rw [HBN.out] at this; exact this), HQ2.out, HT2.out, P3.out⟩
              case measure => first | (simp [intOf]; done) | (simp [intOf]; omega)
      · have hit : decide ((0 : Int) ≤ i) = false := decide_eq_false hi0
        obtain rfl : k = 0 := by have := hk.out; omega
        obtain ⟨e1, e2⟩ := LongDiv.done HI.out
        have HRES : Hid (W2 qh ql (x / y) ∧ W2 rh rl (x % y)) := ⟨e1 ▸ HQ.out, e2 ▸ HR.out⟩
        clear e1 e2 HI hk
        obtain ⟨⟨c20, c21⟩, ⟨f20, f21⟩, k2⟩ := HP.out.b2.two
        obtain ⟨⟨c30, c31⟩, ⟨f30, f31⟩, k3⟩ := HP.out.b3.two
        obtain ⟨⟨c40, c41⟩, ⟨f40, f41⟩, k4⟩ := HP.out.b4.two
        obtain ⟨⟨c50, c51⟩, ⟨f50, f51⟩, k5⟩ := HP.out.b5.two
        have HX := Lib.hid HP.out.hb
        go_wp2
        go_region
        all_goals (go_wp2; refine bodyPost_ret (v := .tuple #[.agg #[.int .u64 qh, .int .u64 ql], .agg #[.int .u64 rh, .int .u64 rl]]) (by simp [results, Tryd.results38, go_sem, c20, c21, c30, c31, c40, c41, c50, c51, k2, k3, k4, k5]) rfl ⟨qh, ql, rh, rl, HRES.out, rfl, ?_⟩; first | exact bSt (bSt (bSt (bSt (bD1 HX.out) (by simp; omega) _) (by simp; omega) _) (by simp; omega) _) (by simp; omega) _ | exact bD1 (bSt (bSt (bSt (bSt HX.out (by simp; omega) _) (by simp; omega) _) (by simp; omega) _) (by simp; omega) _))
end Go.Proofs.YtjdldkafghblmaaDoor
