/-
  Contracts of New of package ratio.
-/
import Derived.Test.YtphlkeoailapcaaQuot
import Derived.Deep.RegionHeld3
namespace Go.Proofs.Ytphlkeoailapcaa
open Go.RowKit
set_option linter.unusedSimpArgs false
set_option linter.unusedVariables false

/-- the sign of a quotient -/
def sgnOf (n d : Int) : Bool := decide (n < 0) != decide (d < 0)
theorem sgn_spell (n d : Int) : (!decide (n < 0) == decide (d < 0)) = sgnOf n d := by unfold sgnOf; cases decide (n < 0) <;> cases decide (d < 0) <;> rfl
def newNum (n d : Int) : Int := if d = 0 then 0 else rnum (sgnOf n d) n.natAbs d.natAbs
def newDen (n d : Int) : Int := if d = 0 then 0 else rden n.natAbs d.natAbs
def newErr (n d : Int) : Int := if d = 0 then 2 else rerr n.natAbs d.natAbs
theorem rnum_zero (b c : Bool) (d : Nat) : rnum b 0 d = rnum c 0 d := by
  unfold rnum Frac.num
  rw [Nat.zero_div]
  cases b <;> cases c <;> rfl
theorem sgn_abs (s : Bool) (n : Nat) : (Rep.sgn s (n : Int)).natAbs = n := by
  cases s
  · show ((n : Int)).natAbs = n; omega
  · show (-(n : Int)).natAbs = n; omega
theorem sgn_rnum (s : Bool) (n d : Nat) : rnum (decide (Rep.sgn s (n : Int) < 0)) n d = rnum s n d := by
  by_cases h : n = 0
  · subst h; exact rnum_zero _ _ _
  · congr 1
    cases s
    · show decide ((n : Int) < 0) = false; exact decide_eq_false (by omega)
    · show decide (-(n : Int) < 0) = true; exact decide_eq_true (by omega)

set_option maxHeartbeats 2000000 in
theorem ratio_new (n d : Int) (n0 : -9223372036854775808 ≤ n) (n1 : n < 9223372036854775808) (d0 : -9223372036854775808 ≤ d) (d1 : d < 9223372036854775808) (w : World) :
    Calls Try.prog 54 #[.int .i64 n, .int .i64 d] w fun e w' => e = .returned (.tuple #[.agg #[.int .i64 (newNum n d), .int .i64 (newDen n d)], .int .i64 (newErr n d)]) ∧ Below w.heap.size w w' := by
  by_cases hd : d = 0
  · subst hd
    have HX : Hid ((0 : Int) = newNum n 0 ∧ (0 : Int) = newDen n 0 ∧ (2 : Int) = newErr n 0) := by
      unfold newNum newDen newErr
      exact ⟨rfl, rfl, rfl⟩
    go_enter Try.func54, Try.ntmps54
    go_wp2
    refine bodyPost_ret (v := .tuple #[.agg #[.int .i64 0, .int .i64 0], .int .i64 2]) (by simp [results, Try.results54, go_sem]) rfl ⟨ret_quot HX.out, ?_⟩
    exact bAl (Below.refl _ _) _
  have hn : (0 : Int) ≤ (n.natAbs : Int) ∧ (n.natAbs : Int) < 18446744073709551616 := by omega
  obtain ⟨m, hm⟩ : ∃ m : Nat, n.natAbs = m := ⟨_, rfl⟩
  obtain ⟨y, hy⟩ : ∃ y : Nat, d.natAbs = y := ⟨_, rfl⟩
  have y0 : 0 < y := by omega
  have y1 : y < 18446744073709551616 := by omega
  have HX : Hid (rnum (decide (Rep.sgn (sgnOf n d) (m : Int) < 0)) (Rep.sgn (sgnOf n d) (m : Int)).natAbs (y * 1) = newNum n d ∧ rden (Rep.sgn (sgnOf n d) (m : Int)).natAbs (y * 1) = newDen n d ∧ rerr (Rep.sgn (sgnOf n d) (m : Int)).natAbs (y * 1) = newErr n d) := by
    unfold newNum newDen newErr
    rw [if_neg hd, if_neg hd, if_neg hd, sgn_abs, sgn_rnum, Nat.mul_one, hm, hy]
    exact ⟨rfl, rfl, rfl⟩
  rw [hm] at hn
  have HM := Lib.hid hm
  have HY := Lib.hid hy
  clear hm hy
  have hdz : (d == 0) = false := by rw [beq_eq_false_iff_ne]; exact hd
  have hzl : -170141183460469231731687303715884105728 < Rep.sgn (sgnOf n d) (m : Int) ∧ Rep.sgn (sgnOf n d) (m : Int) < 170141183460469231731687303715884105728 := by
    cases sgnOf n d
    · show _ < (m : Int) ∧ (m : Int) < _; omega
    · show _ < -(m : Int) ∧ -(m : Int) < _; omega
  have HV : Hid (Rep.val 0 (m : Int) = (m : Int)) := by show _ = _; unfold Rep.val; omega
  have HS := Lib.hid (sgn_spell n d)
  go_enter Try.func54, Try.ntmps54
  go_wp2_with fail
  refine (magnitude_any _ n0 n1 _).mono ?_
  rintro e w1 ⟨rfl, rfl⟩
  rw [HM.out]
  go_wp2_with fail
  refine (signed_any _ 0 _ _ (by omega) hn.1 (by omega) hn.2).mono ?_
  rintro e w1 ⟨rfl, hb⟩
  rw [HV.out, HS.out]
  have P1 : Aside (Blk w1 w.heap.size 26 #[.int .i64 0, .int .i64 0] ∧ Below w.heap.size w w1) := ⟨(Blk.newAt rfl).later hb, bTr (bAl (Below.refl _ _) _) hb⟩
  clear hb
  generalize Rep.sgn (sgnOf n d) (m : Int) = z at HX hzl ⊢
  have kR : w.heap.size < w1.heap.size := P1.out.1.lt
  go_wp2_with fail
  go_region_held3 (fun w' => w'.cell? ⟨w1.heap.size, 0, none⟩ = some (.int .u64 (Rep.hi z)) ∧ w'.cell? ⟨w1.heap.size, 1, none⟩ = some (.int .u64 (Rep.lo z))) (first | go_keep | (go_split_ands; refine ⟨?_, ?_⟩ <;> (first | (rw [hb.cell (by simp)]; assumption) | (rw [World.cell?_setCell_other _ _ _ _ (by first | (simp; done) | (simp; omega)), World.cell?_setCell_other _ _ _ _ (by first | (simp; done) | (simp; omega))]; assumption))))
    (first | (go_at_call 45; refine (magnitude_any _ d0 d1 _).mono ?_; rintro e w' ⟨rfl, rfl⟩; rw [HY.out]) | (go_at_call 48; refine (quotient_any z y 1 _ hzl.1 hzl.2 y0 y1 (by omega) (by omega) (Nat.gcd_one_right _)).mono ?_; rintro e w' ⟨rfl, hb⟩; have PB := Blk.later (by first | exact Blk.drew (Blk.alloc P1.out.1 _) | exact Blk.alloc P1.out.1 _) hb; obtain ⟨⟨r0, r1⟩, ⟨g0, g1⟩, gk⟩ := PB.two; clear PB; have HB := Lib.hid (Below.trans (by first | exact bD1 (bAl P1.out.2 _) | exact bAl P1.out.2 _) (hb.mono (by have := P1.out.2.size; simp; omega)))))
  go_wp2
  refine bodyPost_ret (v := .tuple #[.agg #[.int .i64 (rnum (decide (z < 0)) z.natAbs (y * 1)), .int .i64 (rden z.natAbs (y * 1))], .int .i64 (rerr z.natAbs (y * 1))]) (by simp [results, Try.results54, go_sem, r0, r1, gk]) rfl ⟨ret_quot HX.out, ?_⟩
  exact bSt (bSt HB.out (by simp) _) (by simp) _
end Go.Proofs.Ytphlkeoailapcaa
