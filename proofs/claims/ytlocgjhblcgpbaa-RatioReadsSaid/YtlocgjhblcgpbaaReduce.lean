/-
  Contracts of the reference's Reduce at words, and of its New.
-/
import Derived.Test.YtlocgjhblcgpbaaRefValid
namespace Go.Proofs.Ytlocgjhblcgpbaa
open Go.RowKit
set_option linter.unusedSimpArgs false
set_option linter.unusedVariables false

set_option maxRecDepth 100000 in
set_option maxHeartbeats 4000000 in
theorem r_reduce_small (ng : Bool) (n d : Nat) (w : World) (n1 : n < 18446744073709551616) (d0 : 0 < d) (d1 : d < 18446744073709551616) :
    Calls Try.prog 53 #[.bool ng, .agg #[.int .u64 0, .int .u64 n], .agg #[.int .u64 0, .int .u64 d]] w fun e w' => e = .returned (.tuple #[.agg #[.int .i64 (rnum ng n d), .int .i64 (rden n d)], .int .i64 (rerr n d)]) ∧ Below w.heap.size w w' := by
  obtain ⟨g, hg⟩ : ∃ g, Nat.gcd n d = g := ⟨_, rfl⟩
  have g0 : 0 < g := by rw [← hg]; exact Nat.gcd_pos_of_pos_right _ d0
  have g1 : g ≤ d := by rw [← hg]; exact Nat.gcd_le_right _ d0
  have HG := Lib.hid hg
  clear hg
  obtain ⟨A, hA⟩ : ∃ A : Nat, (n : Int) / (g : Int) = (A : Int) := ⟨n / g, (Int.natCast_ediv _ _).symm⟩
  have hAn : A = n / g := by have := Int.natCast_ediv n g; omega
  have hAle : A ≤ n := by rw [hAn]; exact Nat.div_le_self _ _
  obtain ⟨C, hC⟩ : ∃ C : Nat, (d : Int) / (g : Int) = (C : Int) := ⟨d / g, (Int.natCast_ediv _ _).symm⟩
  have hCn : C = d / g := by have := Int.natCast_ediv d g; omega
  have hCle : C ≤ d := by rw [hCn]; exact Nat.div_le_self _ _
  have HF : Hid (n / Nat.gcd n d = A ∧ d / Nat.gcd n d = C) := ⟨by rw [HG.out, hAn], by rw [HG.out, hCn]⟩
  have HA := Lib.hid hA
  have HC := Lib.hid hC
  clear hA hC hAn hCn
  go_enter Try.func53, Try.ntmps53
  go_wp2_with fail
  refine (r_divisor_small n d _ n1 d1).mono ?_
  rintro e w1 ⟨rfl, hb⟩
  rw [HG.out]
  have P1 : Aside (Blk w1 w.heap.size 65 #[.int .u64 0, .int .u64 n] ∧ Blk w1 (w.heap.size + 1) 65 #[.int .u64 0, .int .u64 d] ∧ Blk w1 (w.heap.size + 1 + 1) 26 #[.int .i64 0, .int .i64 0] ∧ Below w.heap.size w w1) :=
    ⟨(((Blk.newAt rfl).alloc _).alloc _).later hb, ((Blk.newAt (by simp)).alloc _).later hb, (Blk.newAt (by simp)).later hb, bTr (bAl (bAl (bAl (Below.refl _ _) _) _) _) hb⟩
  clear hb
  obtain ⟨⟨c00, c01⟩, ⟨f00, f01⟩, k0⟩ := P1.out.1.two
  go_wp2_with fail
  refine (r_divide_small (n : Int) (g : Int) _ (by omega) (by omega) (by omega) (by omega)).mono ?_
  rintro e w2 ⟨rfl, hb⟩
  rw [HA.out]
  have P2 : Aside (Blk w2 w1.heap.size 65 #[.int .u64 0, .int .u64 g] ∧ Blk w2 (w.heap.size + 1) 65 #[.int .u64 0, .int .u64 d] ∧ Blk w2 (w.heap.size + 1 + 1) 26 #[.int .i64 0, .int .i64 0] ∧ Below w.heap.size w w2) :=
    ⟨(Blk.newAt rfl).later hb, (P1.out.2.1.alloc _).later hb, (P1.out.2.2.1.alloc _).later hb, (bAl P1.out.2.2.2 _).trans (hb.mono (by have := P1.out.2.2.2.size; simp; omega))⟩
  clear hb P1 c00 c01 f00 f01 k0
  obtain ⟨t1, ht1⟩ : ∃ t, (n : Int) % (g : Int) = t := ⟨_, rfl⟩
  rw [ht1]
  clear ht1
  obtain ⟨⟨c00, c01⟩, ⟨f00, f01⟩, k0⟩ := P2.out.1.two
  obtain ⟨⟨c10, c11⟩, ⟨f10, f11⟩, k1⟩ := P2.out.2.1.two
  have k2 : w1.heap.size < w2.heap.size + 1 := by omega
  have k3 : w.heap.size + 1 < w2.heap.size + 1 := by omega
  go_wp2_with fail
  refine (r_divide_small (d : Int) (g : Int) _ (by omega) (by omega) (by omega) (by omega)).mono ?_
  rintro e w3 ⟨rfl, hb⟩
  rw [HC.out]
  have P3 : Aside (Blk w3 w2.heap.size 65 #[.int .u64 0, .int .u64 A] ∧ Blk w3 (w.heap.size + 1 + 1) 26 #[.int .i64 0, .int .i64 0] ∧ Below w.heap.size w w3) :=
    ⟨((Blk.newAt rfl).alloc _).later hb, ((P2.out.2.2.1.alloc _).alloc _).later hb, (bAl (bAl P2.out.2.2.2 _) _).trans (hb.mono (by have := P2.out.2.2.2.size; simp; omega))⟩
  clear hb P2 c00 c01 f00 f01 k0 c10 c11 f10 f11 k1 k2 k3
  obtain ⟨t2, ht2⟩ : ∃ t, (d : Int) % (g : Int) = t := ⟨_, rfl⟩
  rw [ht2]
  clear ht2
  obtain ⟨⟨c00, c01⟩, ⟨f00, f01⟩, k0⟩ := P3.out.1.two
  obtain ⟨⟨c10, c11⟩, ⟨f10, f11⟩, k1⟩ := P3.out.2.1.two
  have k4 : w2.heap.size < w3.heap.size + 1 := by omega
  have k5 : w.heap.size + 1 + 1 < w3.heap.size + 1 := by omega
  have k6 : w2.heap.size < w3.heap.size + 1 + 1 := by omega
  have k7 : w.heap.size + 1 + 1 < w3.heap.size + 1 + 1 := by omega
  by_cases hA : A ≤ 1152921504606846976
  · have tA : decide ((A : Int) > 1152921504606846976) = false := decide_eq_false (by omega)
    by_cases hB : C ≤ 1152921504606846976
    · have tB : decide ((C : Int) > 1152921504606846976) = false := decide_eq_false (by omega)
      have HY := Lib.hid (r_yes ng n d (by rw [HF.out.1]; exact hA) (by rw [HF.out.2]; exact hB))
      cases ng
      · have HZ : Hid ((A : Int) = Frac.num false n d ∧ (C : Int) = Frac.den n d) := ⟨by unfold Frac.num; rw [HF.out.1]; rfl, by unfold Frac.den; rw [HF.out.2]⟩
        go_wp2
        refine bodyPost_ret (v := .tuple #[.agg #[.int .i64 (A : Int), .int .i64 (C : Int)], .int .i64 0]) (by simp [results, Try.results53, go_sem, c10, c11, k1, k5, k7]) rfl ⟨?_, ?_⟩
        · exact ret_quot ⟨HZ.out.1.trans HY.out.1, HZ.out.2.trans HY.out.2.1, HY.out.2.2⟩
        · exact bAl (bAl (bAl (bSt (bSt P3.out.2.2 (by simp; omega) _) (by simp; omega) _) _) _) _
      · have HZ : Hid (-(A : Int) = Frac.num true n d ∧ (C : Int) = Frac.den n d) := ⟨by unfold Frac.num; rw [HF.out.1]; rfl, by unfold Frac.den; rw [HF.out.2]⟩
        go_wp2
        refine bodyPost_ret (v := .tuple #[.agg #[.int .i64 (-(A : Int)), .int .i64 (C : Int)], .int .i64 0]) (by simp [results, Try.results53, go_sem, c10, c11, k1, k5, k7]) rfl ⟨?_, ?_⟩
        · exact ret_quot ⟨HZ.out.1.trans HY.out.1, HZ.out.2.trans HY.out.2.1, HY.out.2.2⟩
        · exact bAl (bAl (bAl (bSt (bSt P3.out.2.2 (by simp; omega) _) (by simp; omega) _) _) _) _
    · have tB : decide ((C : Int) > 1152921504606846976) = true := decide_eq_true (by omega)
      have HY := Lib.hid (r_no ng n d (fun h => hB (by rw [← HF.out.2]; exact h.2)))
      go_wp2
      refine bodyPost_ret (v := .tuple #[.agg #[.int .i64 0, .int .i64 0], .int .i64 6]) (by simp [results, Try.results53, go_sem, c10, c11, k1, k5, k7]) rfl ⟨?_, ?_⟩
      · exact ret_quot HY.out
      · exact bAl (bAl (bSt (bSt P3.out.2.2 (by simp; omega) _) (by simp; omega) _) _) _
  · have tA : decide ((A : Int) > 1152921504606846976) = true := decide_eq_true (by omega)
    have HY := Lib.hid (r_no ng n d (fun h => hA (by rw [← HF.out.1]; exact h.1)))
    go_wp2
    refine bodyPost_ret (v := .tuple #[.agg #[.int .i64 0, .int .i64 0], .int .i64 6]) (by simp [results, Try.results53, go_sem, c10, c11, k1, k5, k7]) rfl ⟨?_, ?_⟩
    · exact ret_quot HY.out
    · exact bAl (bAl (bSt (bSt P3.out.2.2 (by simp; omega) _) (by simp; omega) _) _) _

set_option maxHeartbeats 2000000 in
theorem r_new (n d : Int) (n0 : -9223372036854775808 ≤ n) (n1 : n < 9223372036854775808) (d0 : -9223372036854775808 ≤ d) (d1 : d < 9223372036854775808) (w : World) :
    Calls Try.prog 70 #[.int .i64 n, .int .i64 d] w fun e w' => e = .returned (.tuple #[.agg #[.int .i64 (newNum n d), .int .i64 (newDen n d)], .int .i64 (newErr n d)]) ∧ Below w.heap.size w w' := by
  by_cases hd : d = 0
  · subst hd
    have HX : Hid ((0 : Int) = newNum n 0 ∧ (0 : Int) = newDen n 0 ∧ (2 : Int) = newErr n 0) := by
      unfold newNum newDen newErr
      exact ⟨rfl, rfl, rfl⟩
    go_enter Try.func70, Try.ntmps70
    go_wp2
    refine bodyPost_ret (v := .tuple #[.agg #[.int .i64 0, .int .i64 0], .int .i64 2]) (by simp [results, Try.results70, go_sem]) rfl ⟨ret_quot HX.out, ?_⟩
    exact bAl (Below.refl _ _) _
  have HX : Hid (rnum (sgnOf n d) n.natAbs d.natAbs = newNum n d ∧ rden n.natAbs d.natAbs = newDen n d ∧ rerr n.natAbs d.natAbs = newErr n d) := by
    unfold newNum newDen newErr
    rw [if_neg hd, if_neg hd, if_neg hd]
    exact ⟨rfl, rfl, rfl⟩
  have hdz : (d == 0) = false := by rw [beq_eq_false_iff_ne]; exact hd
  have HS := Lib.hid (sgn_spell n d)
  go_enter Try.func70, Try.ntmps70
  go_wp2_with fail
  refine (size_any _ n0 n1 _).mono ?_
  rintro e w1 ⟨rfl, rfl⟩
  go_wp2_with fail
  refine (size_any _ d0 d1 _).mono ?_
  rintro e w1 ⟨rfl, rfl⟩
  go_wp2_with fail
  rw [HS.out]
  refine (r_reduce_small (sgnOf n d) n.natAbs d.natAbs _ (by omega) (by omega) (by omega)).mono ?_
  rintro e w1 ⟨rfl, hb⟩
  rw [HX.out.1, HX.out.2.1, HX.out.2.2]
  have PB := (Blk.newAt (w := w) (t := 26) (cs := #[.int .i64 0, .int .i64 0]) rfl).later hb
  obtain ⟨⟨c0, c1⟩, ⟨f0, f1⟩, k⟩ := PB.two
  have HB := Lib.hid (bTr (bAl (Below.refl _ _) _) hb)
  clear PB hb
  go_wp2
  refine bodyPost_ret (v := .tuple #[.agg #[.int .i64 (newNum n d), .int .i64 (newDen n d)], .int .i64 (newErr n d)]) (by simp [results, Try.results70, go_sem, c0, c1, k]) rfl ⟨rfl, ?_⟩
  exact bSt (bSt HB.out (by simp) _) (by simp) _
end Go.Proofs.Ytlocgjhblcgpbaa
