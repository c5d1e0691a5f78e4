/-
  The reference's Reduce whole.
-/
import Derived.Test.YtlocgjhblcgpbaaDivisor
set_option linter.unusedVariables false
set_option linter.unusedSimpArgs false
namespace Go.Proofs.Ytlocgjhblcgpbaa
open Go.RowKit
set_option linter.unusedSimpArgs false
set_option linter.unusedVariables false

theorem W2.small {h l : Int} {x : Nat} (H : W2 h l x) (hx : x ≤ 1152921504606846976) : h = 0 ∧ l = (x : Int) := by
  obtain ⟨a, b, c, d, e⟩ := H; omega
theorem W2.great {h l : Int} {x : Nat} (H : W2 h l x) (h1 : ¬ 0 < h) (h2 : ¬ 1152921504606846976 < l) : x ≤ 1152921504606846976 := by
  obtain ⟨a, b, c, d, e⟩ := H; omega
set_option maxRecDepth 100000 in
set_option maxHeartbeats 8000000 in
theorem reduce_w (ng : Bool) {nh nl dh dl : Int} {n d : Nat} (HN : W2 nh nl n) (HD : W2 dh dl d) (d0 : 0 < d) (w : World) :
    Calls Try.prog 53 #[.bool ng, .agg #[.int .u64 nh, .int .u64 nl], .agg #[.int .u64 dh, .int .u64 dl]] w fun e w' => e = .returned (.tuple #[.agg #[.int .i64 (rnum ng n d), .int .i64 (rden n d)], .int .i64 (rerr n d)]) ∧ Below w.heap.size w w' := by
  obtain ⟨g, hg⟩ : ∃ g, Nat.gcd n d = g := ⟨_, rfl⟩
  have g0 : 0 < g := by rw [← hg]; exact Nat.gcd_pos_of_pos_right _ d0
  have HG := Lib.hid hg
  clear hg
  obtain ⟨A, hA⟩ : ∃ A : Nat, n / g = A := ⟨_, rfl⟩
  obtain ⟨C, hC⟩ : ∃ C : Nat, d / g = C := ⟨_, rfl⟩
  have HF : Hid (n / Nat.gcd n d = A ∧ d / Nat.gcd n d = C) := ⟨by rw [HG.out, hA], by rw [HG.out, hC]⟩
  have HA := Lib.hid hA
  have HC := Lib.hid hC
  have HN0 := Lib.hid HN
  have HD0 := Lib.hid HD
  clear hA hC HN HD
  go_enter Try.func53, Try.ntmps53
  go_wp2_with fail
  refine (divisor_w HN0.out HD0.out _).mono ?_
  rintro e w1 ⟨gh, gl, hgw, rfl, hb⟩
  rw [HG.out] at hgw
  have HGW := Lib.hid hgw
  clear hgw
  have P1 : Aside (Blk w1 w.heap.size 65 #[.int .u64 nh, .int .u64 nl] ∧ Blk w1 (w.heap.size + 1) 65 #[.int .u64 dh, .int .u64 dl] ∧ Blk w1 (w.heap.size + 1 + 1) 26 #[.int .i64 0, .int .i64 0] ∧ Below w.heap.size w w1) :=
    ⟨(((Blk.newAt rfl).alloc _).alloc _).later hb, ((Blk.newAt (by simp)).alloc _).later hb, (Blk.newAt (by simp)).later hb, bTr (bAl (bAl (bAl (Below.refl _ _) _) _) _) hb⟩
  clear hb
  obtain ⟨⟨c00, c01⟩, ⟨f00, f01⟩, k0⟩ := P1.out.1.two
  go_wp2_with fail
  refine (divide_w HN0.out HGW.out g0 _).mono ?_
  rintro e w2 ⟨Ah, Al, x1, x2, ⟨hq, -⟩, rfl, hb⟩
  rw [HA.out] at hq
  have HAW := Lib.hid hq
  clear hq
  have P2 : Aside (Blk w2 w1.heap.size 65 #[.int .u64 gh, .int .u64 gl] ∧ Blk w2 (w.heap.size + 1) 65 #[.int .u64 dh, .int .u64 dl] ∧ Blk w2 (w.heap.size + 1 + 1) 26 #[.int .i64 0, .int .i64 0] ∧ Below w.heap.size w w2) :=
    ⟨(Blk.newAt rfl).later hb, (P1.out.2.1.alloc _).later hb, (P1.out.2.2.1.alloc _).later hb, (bAl P1.out.2.2.2 _).trans (hb.mono (by have := P1.out.2.2.2.size; simp; omega))⟩
  clear hb P1 c00 c01 f00 f01 k0
  obtain ⟨⟨c00, c01⟩, ⟨f00, f01⟩, k0⟩ := P2.out.1.two
  obtain ⟨⟨c10, c11⟩, ⟨f10, f11⟩, k1⟩ := P2.out.2.1.two
  have k2 : w1.heap.size < w2.heap.size + 1 := by omega
  have k3 : w.heap.size + 1 < w2.heap.size + 1 := by omega
  go_wp2_with fail
  refine (divide_w HD0.out HGW.out g0 _).mono ?_
  rintro e w3 ⟨Ch, Cl, x3, x4, ⟨hq, -⟩, rfl, hb⟩
  rw [HC.out] at hq
  have HCW := Lib.hid hq
  clear hq
  have P3 : Aside (Blk w3 w2.heap.size 65 #[.int .u64 Ah, .int .u64 Al] ∧ Blk w3 (w.heap.size + 1 + 1) 26 #[.int .i64 0, .int .i64 0] ∧ Below w.heap.size w w3) :=
    ⟨((Blk.newAt rfl).alloc _).later hb, ((P2.out.2.2.1.alloc _).alloc _).later hb, (bAl (bAl P2.out.2.2.2 _) _).trans (hb.mono (by have := P2.out.2.2.2.size; simp; omega))⟩
  clear hb P2 c00 c01 f00 f01 k0 c10 c11 f10 f11 k1 k2 k3
  by_cases hfit : A ≤ 1152921504606846976 ∧ C ≤ 1152921504606846976
  · obtain ⟨fA, fC⟩ := hfit
    obtain ⟨rfl, rfl⟩ := HAW.out.small fA
    obtain ⟨rfl, rfl⟩ := HCW.out.small fC
    have tA : decide ((A : Int) > 1152921504606846976) = false := decide_eq_false (by omega)
    have tB : decide ((C : Int) > 1152921504606846976) = false := decide_eq_false (by omega)
    have HY := Lib.hid (r_yes ng n d (by rw [HF.out.1]; exact fA) (by rw [HF.out.2]; exact fC))
    obtain ⟨⟨c00, c01⟩, ⟨f00, f01⟩, k0⟩ := P3.out.1.two
    obtain ⟨⟨c10, c11⟩, ⟨f10, f11⟩, k1⟩ := P3.out.2.1.two
    have k4 : w2.heap.size < w3.heap.size + 1 := by omega
    have k5 : w.heap.size + 1 + 1 < w3.heap.size + 1 := by omega
    have k6 : w2.heap.size < w3.heap.size + 1 + 1 := by omega
    have k7 : w.heap.size + 1 + 1 < w3.heap.size + 1 + 1 := by omega
    cases ng
    · have HZ : Hid ((A : Int) = Frac.num false n d ∧ (C : Int) = Frac.den n d) := ⟨by unfold Frac.num; rw [HF.out.1]; rfl, by unfold Frac.den; rw [HF.out.2]⟩
      go_wp2
      refine bodyPost_ret (v := .tuple #[.agg #[.int .i64 (A : Int), .int .i64 (C : Int)], .int .i64 0]) (by simp [results, Try.results53, go_sem, c10, c11, k1, k5, k7]) rfl ⟨?_, ?_⟩
      · exact ret_quot ⟨HZ.out.1.trans HY.out.1, HZ.out.2.trans HY.out.2.1, HY.out.2.2⟩
      · exact bAl (bAl (bAl (bSt (bSt P3.out.2.2 (by simp; omega) _) (by simp; omega) _) _) _) _
    · have HZ : Hid (-(A : Int) = Frac.num true n d ∧ (C : Int) = Frac.den n d) := ⟨by unfold Frac.num; rw [HF.out.1]; rfl, by unfold Frac.den; rw [HF.out.2]⟩
      go_wp2
      refine bodyPost_ret (v := .tuple #[.agg #[.int .i64 (-(A : Int)), .int .i64 (C : Int)], .int .i64 0]) (by simp [results, Try.results53, go_sem, c10, c11, k1, k5, k7]) rfl ⟨?_, ?_⟩
      · exact ret_quot ⟨HZ.out.1.trans HY.out.1, HZ.out.2.trans HY.out.2.1, HY.out.2.2⟩
      · exact bAl (bAl (bAl (bSt (bSt P3.out.2.2 (by simp; omega) _) (by simp; omega) _) _) _) _
  · have HY := Lib.hid (r_no ng n d (fun h => hfit (by rw [← HF.out.1, ← HF.out.2]; exact h)))
    obtain ⟨⟨c00, c01⟩, ⟨f00, f01⟩, k0⟩ := P3.out.1.two
    obtain ⟨⟨c10, c11⟩, ⟨f10, f11⟩, k1⟩ := P3.out.2.1.two
    have k4 : w2.heap.size < w3.heap.size + 1 := by omega
    have k5 : w.heap.size + 1 + 1 < w3.heap.size + 1 := by omega
    have k6 : w2.heap.size < w3.heap.size + 1 + 1 := by omega
    have k7 : w.heap.size + 1 + 1 < w3.heap.size + 1 + 1 := by omega
    by_cases p1 : 0 < Ah
    · have t1 : decide (0 < Ah) = true := decide_eq_true p1
      go_wp2
      refine bodyPost_ret (v := .tuple #[.agg #[.int .i64 0, .int .i64 0], .int .i64 6]) (by simp [results, Try.results53, go_sem, c10, c11, k1, k5, k7]) rfl ⟨?_, ?_⟩
      · exact ret_quot HY.out
      · exact bAl (bAl (bSt (bSt P3.out.2.2 (by simp; omega) _) (by simp; omega) _) _) _
    have t1 : decide (0 < Ah) = false := decide_eq_false p1
    by_cases p2 : 0 < Ch
    · have t2 : decide (0 < Ch) = true := decide_eq_true p2
      go_wp2
      refine bodyPost_ret (v := .tuple #[.agg #[.int .i64 0, .int .i64 0], .int .i64 6]) (by simp [results, Try.results53, go_sem, c10, c11, k1, k5, k7]) rfl ⟨?_, ?_⟩
      · exact ret_quot HY.out
      · exact bAl (bAl (bSt (bSt P3.out.2.2 (by simp; omega) _) (by simp; omega) _) _) _
    have t2 : decide (0 < Ch) = false := decide_eq_false p2
    by_cases p3 : 1152921504606846976 < Al
    · have t3 : decide (1152921504606846976 < Al) = true := decide_eq_true p3
      go_wp2
      refine bodyPost_ret (v := .tuple #[.agg #[.int .i64 0, .int .i64 0], .int .i64 6]) (by simp [results, Try.results53, go_sem, c10, c11, k1, k5, k7]) rfl ⟨?_, ?_⟩
      · exact ret_quot HY.out
      · exact bAl (bAl (bSt (bSt P3.out.2.2 (by simp; omega) _) (by simp; omega) _) _) _
    have t3 : decide (1152921504606846976 < Al) = false := decide_eq_false p3
    by_cases p4 : 1152921504606846976 < Cl
    · have t4 : decide (1152921504606846976 < Cl) = true := decide_eq_true p4
      go_wp2
      refine bodyPost_ret (v := .tuple #[.agg #[.int .i64 0, .int .i64 0], .int .i64 6]) (by simp [results, Try.results53, go_sem, c10, c11, k1, k5, k7]) rfl ⟨?_, ?_⟩
      · exact ret_quot HY.out
      · exact bAl (bAl (bSt (bSt P3.out.2.2 (by simp; omega) _) (by simp; omega) _) _) _
    exact absurd ⟨HAW.out.great p1 p3, HCW.out.great p2 p4⟩ hfit
end Go.Proofs.Ytlocgjhblcgpbaa
