/-
  Decimals of a fraction: the plain mathematics, and the program's numbers of two words.
-/
import Derived.Test.YtjdldkafghblmaaDoorBkU
import Derived.Test.YtjdldkafghblmaaDoorBkM
namespace Go.Proofs.YtjdldkafghblmaaDoor
open Go.RowKit Go.Lib
set_option linter.unusedSimpArgs false
set_option linter.unusedVariables false

def ruleEven (o : Bool) (r d : Int) : Bool := decide (d - r < r) || ((r == d - r) && o)
theorem even_any (o : Bool) (r d : Int) (w : World) (r0 : 0 ≤ r) (r1 : r < d) (d1 : d ≤ 1152921504606846976) : Calls Tryd.prog 34 #[.bool o, .int .i64 r, .int .i64 d] w fun e w' => e = .returned (.bool (ruleEven o r d)) ∧ w = w' := by
  by_cases h1 : d - r < r
  · have H := Lib.hid (show true = ruleEven o r d by unfold ruleEven; rw [decide_eq_true h1]; rfl)
    have t : decide (r > d - r) = true := decide_eq_true h1
    go_enter Tryd.func34, Tryd.ntmps34
    go_wp2
    go_ret
    exact ⟨ret_bool H.out, rfl⟩
  · have t : decide (r > d - r) = false := decide_eq_false h1
    by_cases h2 : r = d - r
    · have t2 : (r == d - r) = true := by rw [beq_iff_eq]; exact h2
      have H := Lib.hid (show o = ruleEven o r d by unfold ruleEven; rw [decide_eq_false h1, t2]; cases o <;> rfl)
      clear h2
      go_enter Tryd.func34, Tryd.ntmps34
      go_wp2
      go_ret
      exact ⟨ret_bool H.out, rfl⟩
    · have t2 : (r == d - r) = false := by rw [beq_eq_false_iff_ne]; exact h2
      have H := Lib.hid (show false = ruleEven o r d by unfold ruleEven; rw [decide_eq_false h1, t2]; rfl)
      go_enter Tryd.func34, Tryd.ntmps34
      go_wp2
      go_ret
      exact ⟨ret_bool H.out, rfl⟩

/-- rounded to even -/
def rup (d q r : Nat) : Nat := if d < 2 * r ∨ (2 * r = d ∧ q % 2 = 1) then 1 else 0
def dq (N D : Int) (k : Nat) : Nat := N.natAbs * 10 ^ k / D.natAbs + rup D.natAbs (N.natAbs * 10 ^ k / D.natAbs) (N.natAbs * 10 ^ k % D.natAbs)
def padL (k : Nat) (l : List UInt8) : List UInt8 := List.replicate (k - l.length) 48 ++ l
def decL (N D : Int) (k : Nat) : List UInt8 :=
  (if N < 0 ∧ dq N D k ≠ 0 then [45] else []) ++ (decDigits (dq N D k / 10 ^ k) ++ (if 0 < k then 46 :: padL k (decDigits (dq N D k % 10 ^ k)) else []))
def decT (N D g : Int) : List UInt8 := if Frac.valid N D = true ∧ 0 ≤ g ∧ g ≤ 9 then decL N D g.toNat else []
theorem padL_snoc (k : Nat) (l : List UInt8) (a : UInt8) : padL (k + 1) (l ++ [a]) = padL k l ++ [a] := by
  unfold padL
  rw [List.length_append, List.length_singleton, show k + 1 - (l.length + 1) = k - l.length by omega, List.append_assoc]
theorem padL_len {k : Nat} {l : List UInt8} (h : l.length ≤ k) : (padL k l).length = k := by
  unfold padL
  rw [List.length_append, List.length_replicate]
  omega
theorem padL_id {k : Nat} {l : List UInt8} (h : k ≤ l.length) : padL k l = l := by
  unfold padL
  rw [show k - l.length = 0 by omega]
  rfl
theorem padL_one (k : Nat) (a : UInt8) : padL (k + 1) [a] = List.replicate k 48 ++ [a] := rfl
theorem rep_snoc (k : Nat) : (List.replicate k (48 : UInt8)) ++ [48] = List.replicate (k + 1) 48 := by
  rw [List.replicate_succ']
theorem dec_zero : decDigits 0 = [48] := by rw [decD_small (by omega)]; rfl
theorem pad_split : ∀ (k q : Nat), 1 ≤ k → padL (k + 1) (decDigits q) = decDigits (q / 10 ^ k) ++ padL k (decDigits (q % 10 ^ k))
  | 0, _, h => by omega
  | k + 1, q, _ => by
    by_cases hs : q < 10
    · have h1 : q / 10 ^ (k + 1) = 0 := Nat.div_eq_of_lt (Nat.lt_of_lt_of_le hs (by rw [Nat.pow_succ]; have := Nat.one_le_pow k 10 (by omega); omega))
      have h2 : q % 10 ^ (k + 1) = q := Nat.mod_eq_of_lt (Nat.lt_of_lt_of_le hs (by rw [Nat.pow_succ]; have := Nat.one_le_pow k 10 (by omega); omega))
      rw [h1, h2, dec_zero, decD_small hs, padL_one, padL_one, List.replicate_succ]
      rfl
    · have e1 : q / 10 ^ (k + 1) = q / 10 / 10 ^ k := by rw [Nat.pow_succ', Nat.div_div_eq_div_mul]
      have e2 : q % 10 ^ (k + 1) = 10 * (q / 10 % 10 ^ k) + q % 10 := by rw [Nat.pow_succ', Nat.mod_mul]; omega
      rw [decD_big hs, padL_snoc, e1, e2]
      rcases Nat.eq_zero_or_pos k with rfl | hk
      · have e3 : 10 * (q / 10 % 10 ^ 0) + q % 10 = q % 10 := by rw [Nat.pow_zero, Nat.mod_one]; omega
        rw [e3, decD_small (show q % 10 < 10 by omega), Nat.pow_zero, Nat.div_one]
        rw [padL_id (k := 0 + 1) (by have := (decD_len (q / 10 + 1) (q / 10) (by omega) (by have := Nat.lt_pow_self (n := q / 10) (show 1 < 10 by omega); rw [Nat.pow_succ]; omega)).1; omega), padL_id (k := 0 + 1) (by simp)]
      · rw [pad_split k (q / 10) hk, List.append_assoc]
        congr 1
        generalize q / 10 % 10 ^ k = m
        have hd : q % 10 < 10 := by omega
        generalize q % 10 = d at hd ⊢
        rcases Nat.eq_zero_or_pos m with rfl | hm
        · obtain ⟨j, rfl⟩ : ∃ j, k = j + 1 := ⟨k - 1, by omega⟩
          rw [dec_zero, Nat.mul_zero, Nat.zero_add, decD_small hd, padL_one, padL_one, rep_snoc]
        · rw [decD_big (show ¬ 10 * m + d < 10 by omega), show (10 * m + d) / 10 = m by omega, show (10 * m + d) % 10 = d by omega, padL_snoc]
theorem pow_le9 {k : Nat} (h : k ≤ 9) : 1 ≤ 10 ^ k ∧ 10 ^ k ≤ 1000000000 := by
  have h1 : (10 : Nat) ^ k ≤ 10 ^ 9 := Nat.pow_le_pow_right (by omega) h
  have h2 : (10 : Nat) ^ 9 = 1000000000 := by decide
  exact ⟨Nat.one_le_pow _ _ (by omega), by omega⟩
theorem rest_len {k : Nat} (hk : 1 ≤ k) (q : Nat) : 1 ≤ (decDigits (q % 10 ^ k)).length ∧ (decDigits (q % 10 ^ k)).length ≤ k :=
  decD_len k _ hk (Nat.mod_lt _ (Nat.one_le_pow _ _ (by omega)))
theorem dq_bd {N D : Int} {k : Nat} (hv : Frac.valid N D = true) (hk : k ≤ 9) :
    1 ≤ D.natAbs ∧ D.natAbs ≤ 1152921504606846976 ∧ N.natAbs ≤ 1152921504606846976 ∧ N.natAbs * 10 ^ k ≤ 1152921504606846976 * 10 ^ k ∧ dq N D k ≤ 1152921504606846976 * 10 ^ k + 1 := by
  obtain ⟨b1, b2, a1, a2, g⟩ := (valid_iff N D).1 hv
  have h1 : N.natAbs * 10 ^ k ≤ 1152921504606846976 * 10 ^ k := Nat.mul_le_mul_right _ (by omega)
  refine ⟨by omega, by omega, by omega, h1, ?_⟩
  have h2 : N.natAbs * 10 ^ k / D.natAbs ≤ N.natAbs * 10 ^ k := Nat.div_le_self _ _
  unfold dq rup
  split <;> omega
theorem whole_bd {N D : Int} {k : Nat} (hv : Frac.valid N D = true) (hk : k ≤ 9) : dq N D k / 10 ^ k < 18446744073709551616 := by
  have h := (dq_bd hv hk).2.2.2.2
  have hp := pow_le9 hk
  have h2 : dq N D k ≤ 1152921504606846977 * 10 ^ k := by rw [show (1152921504606846977 : Nat) = 1152921504606846976 + 1 by rfl, Nat.add_mul]; omega
  have := Nat.div_le_of_le_mul (show dq N D k ≤ 10 ^ k * 1152921504606846977 by rw [Nat.mul_comm]; exact h2)
  omega

theorem W2.hl {x : Nat} (hx : x < 340282366920938463463374607431768211456) {z : Int} (hz : z = (x : Int)) : W2 (Rep.hi z) (Rep.lo z) x := W2.of z x (by rw [hz]; omega)
theorem times_w (x y : Nat) (x1 : x < 18446744073709551616) (y1 : y < 18446744073709551616) (w : World) :
    Calls Tryd.prog 31 #[.int .u64 (x : Int), .int .u64 (y : Int)] w fun e w' => ∃ h l, W2 h l (x * y) ∧ e = .returned (.agg #[.int .u64 h, .int .u64 l]) ∧ Below w.heap.size w w' := by
  refine (times_any x y (by omega) (by omega) (by omega) (by omega) w).mono ?_
  rintro e w' ⟨rfl, hb⟩
  exact ⟨_, _, W2.hl (Rep.mul_lt_sq x y x1 y1) (by rw [Int.natCast_mul]), rfl, hb⟩
theorem divided_w {h l : Int} {x y : Nat} (H : W2 h l x) (y0 : 0 < y) (y1 : y < 18446744073709551616) (w : World) :
    Calls Tryd.prog 33 #[.agg #[.int .u64 h, .int .u64 l], .int .u64 (y : Int)] w fun e w' => ∃ h' l', W2 h' l' (x / y) ∧ e = .returned (.tuple #[.agg #[.int .u64 h', .int .u64 l'], .int .u64 ((x % y : Nat) : Int)]) ∧ Below w.heap.size w w' := by
  refine (divided_any h l y w H.h0 H.l0 (by omega) H.h1 H.l1 (by omega)).mono ?_
  rintro e w' ⟨rfl, hb⟩
  have hd := Nat.div_le_self x y
  have := H.bd
  rw [H.val]
  exact ⟨_, _, W2.hl (by omega) (Int.natCast_ediv _ _).symm, by rw [Int.natCast_emod], hb⟩
theorem plus_w {h l h' l' : Int} {x y : Nat} (H : W2 h l x) (K : W2 h' l' y) (hs : x + y < 340282366920938463463374607431768211456) (w : World) :
    Calls Tryd.prog 35 #[.agg #[.int .u64 h, .int .u64 l], .agg #[.int .u64 h', .int .u64 l']] w fun e w' => ∃ h2 l2, W2 h2 l2 (x + y) ∧ e = .returned (.agg #[.int .u64 h2, .int .u64 l2]) ∧ Below w.heap.size w w' := by
  refine (plus_any h l h' l' w H.h0 H.l0 K.h0 K.l0 H.h1 H.l1 K.h1 K.l1).mono ?_
  rintro e w' ⟨rfl, hb⟩
  rw [H.val, K.val]
  exact ⟨_, _, W2.hl hs (by rw [Int.natCast_add]), rfl, hb⟩
end Go.Proofs.YtjdldkafghblmaaDoor
