/-
  Contracts of divided and quotient of package ratio.
-/
import Derived.Test.YtphlkeoailapcaaDiv
import Derived.Test.YtphlkeoailapcaaValid
namespace Go.Proofs.Ytphlkeoailapcaa
open Go.RowKit
set_option linter.unusedSimpArgs false
set_option linter.unusedVariables false

theorem divided_hi (a b y : Int) (y0 : 0 < y) (b0 : 0 ≤ b) (b1 : b < 18446744073709551616) (a0 : 0 ≤ a) (a1 : a < 18446744073709551616) :
    a / y = Rep.hi (Rep.val a b / y) ∧ Rep.val (a % y) b / y = Rep.lo (Rep.val a b / y) ∧ Rep.val (a % y) b % y = Rep.val a b % y := by
  obtain ⟨h1, h2, h3, h4⟩ := DivV.split_ 18446744073709551616 a b y (by omega) y0 b0 b1 a0
  have q0 : 0 ≤ a / y := Int.ediv_nonneg a0 (by omega)
  have q1 : a / y < 18446744073709551616 := Int.lt_of_le_of_lt (Int.ediv_le_self y a0) a1
  obtain ⟨k1, k2⟩ := DivV.hi_lo (a / y) _ q0 q1 h4 h3
  unfold Rep.val Rep.hi Rep.lo
  rw [h1, k1, k2, h2]
  exact ⟨rfl, rfl, rfl⟩

set_option maxHeartbeats 1000000 in
theorem divided_any (a b y : Int) (w : World) (a0 : 0 ≤ a) (b0 : 0 ≤ b) (y0 : 0 < y) (a1 : a < 18446744073709551616) (b1 : b < 18446744073709551616) (y1 : y < 18446744073709551616) :
    Calls Try.prog 75 #[.agg #[.int .u64 a, .int .u64 b], .int .u64 y] w fun e w' => e = .returned (.tuple #[.agg #[.int .u64 (Rep.hi (Rep.val a b / y)), .int .u64 (Rep.lo (Rep.val a b / y))], .int .u64 (Rep.val a b % y)]) ∧ Below w.heap.size w w' := by
  obtain ⟨g1, g2, g3⟩ := divided_hi a b y y0 b0 b1 a0 a1
  have H1 := Lib.hid g1
  have H2 := Lib.hid g2
  have H3 := Lib.hid g3
  clear g1 g2 g3
  have m0 := Int.emod_nonneg a (by omega : y ≠ 0)
  have m1 := Int.emod_lt_of_pos a y0
  go_enter Try.func75, Try.ntmps75
  go_wp2_with fail
  go_quiet ((go_at_call 93; exact Calls.quiet_of (div64_any _ _ _ _ m0 m1 b0 b1 y1)))
  go_wp2
  refine bodyPost_ret (v := .tuple #[.agg #[.int .u64 (a / y), .int .u64 (Rep.val (a % y) b / y)], .int .u64 (Rep.val (a % y) b % y)]) (by simp [results, Try.results75, go_sem]) rfl ⟨?_, ?_⟩
  · rw [H1.out, H2.out, H3.out]
  · exact bSt (bSt (bDr (bAl (bAl (Below.refl _ _) _) _) _) (by simp) _) (by simp) _

/-- what a fraction in lowest terms answers: numerator, denominator, code -/
def rnum (neg : Bool) (n d : Nat) : Int := if Frac.fit n d then Frac.num neg n d else 0
def rden (n d : Nat) : Int := if Frac.fit n d then Frac.den n d else 0
def rerr (n d : Nat) : Int := if Frac.fit n d then 0 else 6

theorem quot_fin (n d f c rs A dc : Nat) (hg : Nat.gcd n f = 1) (hc : d.gcd rs = c) (hrs : (n : Int) % (d : Int) = (rs : Int)) (hA : A = n / c) (hd : dc = d / c) :
    n / Nat.gcd n (d * f) = A ∧ d * f / Nat.gcd n (d * f) = dc * f := by
  have e : rs = n % d := by have := Int.natCast_emod n d; omega
  have e2 : c = Nat.gcd n (d * f) := by rw [← hc, e]; exact Frac.gcd_step n d f hg
  rw [hA, hd, e2]
  exact ⟨rfl, (Frac.below n d f hg).symm⟩
theorem r_no (ng : Bool) (n dd : Nat) (h : ¬ (n / Nat.gcd n dd ≤ Frac.M ∧ dd / Nat.gcd n dd ≤ Frac.M)) : 0 = rnum ng n dd ∧ 0 = rden n dd ∧ 6 = rerr n dd := by
  have e : Frac.fit n dd = false := by
    unfold Frac.fit
    cases h1 : decide (n / Nat.gcd n dd ≤ Frac.M)
    · rfl
    · cases h2 : decide (dd / Nat.gcd n dd ≤ Frac.M)
      · rfl
      · exact absurd ⟨of_decide_eq_true h1, of_decide_eq_true h2⟩ h
  unfold rnum rden rerr
  rw [e]
  exact ⟨rfl, rfl, rfl⟩
theorem r_yes (ng : Bool) (n dd : Nat) (h1 : n / Nat.gcd n dd ≤ Frac.M) (h2 : dd / Nat.gcd n dd ≤ Frac.M) : Frac.num ng n dd = rnum ng n dd ∧ Frac.den n dd = rden n dd ∧ 0 = rerr n dd := by
  have e : Frac.fit n dd = true := by unfold Frac.fit; rw [decide_eq_true h1, decide_eq_true h2]; rfl
  unfold rnum rden rerr
  rw [e]
  exact ⟨rfl, rfl, rfl⟩
theorem ret_quot {a b c a' b' c' : Int} (h : a = a' ∧ b = b' ∧ c = c') : Ending.returned (.tuple #[.agg #[.int .i64 a, .int .i64 b], .int .i64 c]) = .returned (.tuple #[.agg #[.int .i64 a', .int .i64 b'], .int .i64 c']) := by
  rw [h.1, h.2.1, h.2.2]

set_option maxRecDepth 100000 in
set_option maxHeartbeats 4000000 in
theorem quotient_any (z : Int) (d f : Nat) (w : World) (z0 : -170141183460469231731687303715884105728 < z) (z1 : z < 170141183460469231731687303715884105728) (d0 : 0 < d) (d1 : d < 18446744073709551616) (f0 : 0 < f) (f1 : f < 18446744073709551616)
    (hg : Nat.gcd z.natAbs f = 1) :
    Calls Try.prog 48 #[.agg #[.int .u64 (Rep.hi z), .int .u64 (Rep.lo z)], .int .u64 d, .int .u64 f] w fun e w' => e = .returned (.tuple #[.agg #[.int .i64 (rnum (decide (z < 0)) z.natAbs (d * f)), .int .i64 (rden z.natAbs (d * f))], .int .i64 (rerr z.natAbs (d * f))]) ∧ Below w.heap.size w w' := by
  have hn : Rep.sgn (decide (z < 0)) z = (z.natAbs : Int) := by
    by_cases h : z < 0
    · rw [decide_eq_true h]; show -z = _; omega
    · rw [decide_eq_false h]; show z = _; omega
  have HH := Lib.hid ((Rep.hi_congr_sgn (decide (z < 0)) z).trans (by rw [hn]))
  have HL := Lib.hid ((Rep.lo_congr_sgn (decide (z < 0)) z).trans (by rw [hn]))
  clear hn
  have zh := Rep.hi_bd z
  have zl := Rep.lo_bd z
  obtain ⟨n, hn⟩ : ∃ n : Nat, n = z.natAbs := ⟨_, rfl⟩
  rw [← hn] at HH HL hg ⊢
  have n1 : n < 170141183460469231731687303715884105728 := by omega
  have HN := Lib.hid hn
  have HG := Lib.hid hg
  clear hn hg
  obtain ⟨ng, hng⟩ : ∃ b : Bool, b = decide (z < 0) := ⟨_, rfl⟩
  rw [← hng] at HH HL ⊢
  have HNG := Lib.hid hng
  clear hng
  obtain ⟨nh, hnh⟩ : ∃ x, x = Rep.hi (n : Int) := ⟨_, rfl⟩
  obtain ⟨nl, hnl⟩ : ∃ x, x = Rep.lo (n : Int) := ⟨_, rfl⟩
  have nhb := Rep.hi_bd (n : Int)
  have nlb := Rep.lo_bd (n : Int)
  have VN := Lib.hid (Rep.val_hi_lo (n : Int) (by omega) (by omega))
  rw [← hnh] at nhb HH VN
  rw [← hnl] at nlb HL VN
  clear hnh hnl
  go_enter Try.func48, Try.ntmps48
  go_wp2_with fail
  refine (negative_any z _ (by omega) z1).mono ?_
  rintro e w1 ⟨rfl, hb1⟩
  rw [← HNG.out]
  have P1 : Aside (Blk w1 w.heap.size 60 #[.int .u64 (Rep.hi z), .int .u64 (Rep.lo z)] ∧ Blk w1 (w.heap.size + 1) 26 #[.int .i64 0, .int .i64 0] ∧ Below w.heap.size w w1) :=
    ⟨((Blk.newAt rfl).alloc _).later hb1, (Blk.newAt (by simp)).later hb1, bTr (bAl (bAl (Below.refl _ _) _) _) hb1⟩
  clear hb1
  obtain ⟨⟨c00, c01⟩, ⟨f00, f01⟩, k0⟩ := P1.out.1.two
  go_wp2_with fail
  refine (signed_any _ _ _ _ zh.1 zl.1 zh.2 zl.2).mono ?_
  rintro e w2 ⟨rfl, hb2⟩
  rw [HH.out, HL.out]
  have P2 : Aside (Blk w2 w.heap.size 60 #[.int .u64 (Rep.hi z), .int .u64 (Rep.lo z)] ∧ Blk w2 (w.heap.size + 1) 26 #[.int .i64 0, .int .i64 0] ∧ Below w.heap.size w w2) :=
    ⟨P1.out.1.later hb2, P1.out.2.1.later hb2, P1.out.2.2.trans (hb2.mono P1.out.2.2.size)⟩
  clear hb2 P1 c00 c01 f00 f01 k0
  obtain ⟨⟨c00, c01⟩, ⟨f00, f01⟩, k0⟩ := P2.out.1.two
  go_wp2_with fail
  refine (divided_any _ _ _ _ nhb.1 nlb.1 (by omega) nhb.2 nlb.2 (by omega)).mono ?_
  rintro e w3 ⟨rfl, hb3⟩
  rw [VN.out]
  have P3 : Aside (Blk w3 w.heap.size 60 #[.int .u64 nh, .int .u64 nl] ∧ Blk w3 (w.heap.size + 1) 26 #[.int .i64 0, .int .i64 0] ∧ Below w.heap.size w w3) :=
    ⟨((P2.out.1.set0 _).set1 _).later hb3, ((P2.out.2.1.off (by omega) _).off (by omega) _).later hb3, (((P2.out.2.2.setCell (by simp) _).setCell (by simp) _)).trans (hb3.mono (by simpa using P2.out.2.2.size))⟩
  clear hb3 P2 c00 c01 f00 f01 k0 zh zl HH HL
  have hq1 := Rep.hi_bd ((n : Int) / (d : Int))
  have hq2 := Rep.lo_bd ((n : Int) / (d : Int))
  generalize Rep.hi ((n : Int) / (d : Int)) = qh at hq1 ⊢
  generalize Rep.lo ((n : Int) / (d : Int)) = ql at hq2 ⊢
  obtain ⟨rs, hrs⟩ : ∃ rs : Nat, (n : Int) % (d : Int) = (rs : Int) := ⟨n % d, (Int.natCast_emod _ _).symm⟩
  have hrsd : rs < d := by have := Int.emod_lt_of_pos (n : Int) (show (0 : Int) < (d : Int) by omega); omega
  have HRS := Lib.hid hrs
  rw [hrs]
  clear hrs
  obtain ⟨⟨c00, c01⟩, ⟨f00, f01⟩, k0⟩ := P3.out.1.two
  go_wp2_with fail
  refine (gcd_any _ _ (by omega) (by omega) _).mono ?_
  rintro e w4 ⟨rfl, n4, rfl⟩
  obtain ⟨c, hc⟩ : ∃ c, d.gcd rs = c := ⟨_, rfl⟩
  have c0 : 0 < c := by rw [← hc]; exact Nat.gcd_pos_of_pos_left _ d0
  have c1 : c ≤ d := by rw [← hc]; exact Nat.gcd_le_left _ d0
  have HC := Lib.hid hc
  rw [hc]
  clear hc
  go_wp2_with fail
  refine (divided_any _ _ _ _ nhb.1 nlb.1 (by omega) nhb.2 nlb.2 (by omega)).mono ?_
  rintro e w5 ⟨rfl, hb5⟩
  rw [VN.out]
  have P5 : Aside (Blk w5 (w.heap.size + 1) 26 #[.int .i64 0, .int .i64 0] ∧ Below w.heap.size w w5) :=
    ⟨(((P3.out.2.1.alloc _).drewN _).later hb5), (bDr (bAl P3.out.2.2 _) _).trans (hb5.mono (by have := P3.out.2.2.size; simp; omega))⟩
  clear hb5 P3 c00 c01 f00 f01 k0
  obtain ⟨A, hA⟩ : ∃ A : Nat, (n : Int) / (c : Int) = (A : Int) := ⟨n / c, (Int.natCast_ediv _ _).symm⟩
  have hAn : A = n / c := by have := Int.natCast_ediv n c; omega
  have hAle : A ≤ n := by rw [hAn]; exact Nat.div_le_self _ _
  have HA := Lib.hid hAn
  rw [hA]
  clear hA hAn
  have VA := Lib.hid (Rep.val_hi_lo (A : Int) (by omega) (by omega))
  have ahb := Rep.hi_bd (A : Int)
  have alb := Rep.lo_bd (A : Int)
  generalize Rep.hi (A : Int) = Ah at VA ahb ⊢
  generalize Rep.lo (A : Int) = Al at VA alb ⊢
  obtain ⟨tt, htt⟩ : ∃ tt, (n : Int) % (c : Int) = tt := ⟨_, rfl⟩
  rw [htt]
  clear htt
  obtain ⟨dc, hdc⟩ : ∃ dc : Nat, (d : Int) / (c : Int) = (dc : Int) := ⟨d / c, (Int.natCast_ediv _ _).symm⟩
  have hdcn : dc = d / c := by have := Int.natCast_ediv d c; omega
  have hdcle : dc ≤ d := by rw [hdcn]; exact Nat.div_le_self _ _
  have HD := Lib.hid hdcn
  clear hdcn
  go_wp2_with fail
  refine (times_any _ _ (by omega) (by omega) (by omega) (by omega) _).mono ?_
  rintro e w6 ⟨rfl, hb6⟩
  have P6 : Aside (Blk w6 w5.heap.size 60 #[.int .u64 Ah, .int .u64 Al] ∧ Blk w6 (w.heap.size + 1) 26 #[.int .i64 0, .int .i64 0] ∧ Below w.heap.size w w6) :=
    ⟨(Blk.newAt rfl).later hb6, (P5.out.1.alloc _).later hb6, (bAl P5.out.2 _).trans (hb6.mono (by have := P5.out.2.size; simp; omega))⟩
  have k56 : w5.heap.size < w6.heap.size := P6.out.1.lt
  clear hb6 P5
  have hBm := Rep.mul_lt_sq dc f (by omega) f1
  have VB := Lib.hid (Rep.val_hi_lo ((dc : Int) * (f : Int)) (by rw [← Int.natCast_mul]; omega) (by rw [← Int.natCast_mul]; omega))
  have bhb := Rep.hi_bd ((dc : Int) * (f : Int))
  have blb := Rep.lo_bd ((dc : Int) * (f : Int))
  generalize Rep.hi ((dc : Int) * (f : Int)) = Bh at VB bhb ⊢
  generalize Rep.lo ((dc : Int) * (f : Int)) = Bl at VB blb ⊢
  obtain ⟨⟨c00, c01⟩, ⟨f00, f01⟩, k0⟩ := P6.out.1.two
  go_wp2_with fail
  refine (fits_any _ _ _ ahb.1 alb.1).mono ?_
  rintro e w7 ⟨rfl, hb7⟩
  rw [VA.out]
  have P7 : Aside (Blk w7 w5.heap.size 60 #[.int .u64 Ah, .int .u64 Al] ∧ Blk w7 w6.heap.size 60 #[.int .u64 Bh, .int .u64 Bl] ∧ Blk w7 (w.heap.size + 1) 26 #[.int .i64 0, .int .i64 0] ∧ Below w.heap.size w w7) :=
    ⟨(P6.out.1.alloc _).later hb7, (Blk.newAt rfl).later hb7, (P6.out.2.1.alloc _).later hb7, (bAl P6.out.2.2 _).trans (hb7.mono (by have := P6.out.2.2.size; simp; omega))⟩
  clear hb7 P6 c00 c01 f00 f01 k0
  obtain ⟨⟨c00, c01⟩, ⟨f00, f01⟩, k0⟩ := P7.out.1.two
  obtain ⟨⟨c10, c11⟩, ⟨f10, f11⟩, k1⟩ := P7.out.2.1.two
  obtain ⟨⟨c20, c21⟩, ⟨f20, f21⟩, k2⟩ := P7.out.2.2.1.two
  have HF := Lib.hid (quot_fin n d f c rs A dc HG.out HC.out HRS.out HA.out HD.out)
  by_cases hA : A ≤ 1152921504606846976
  · have tA : decide ((A : Int) ≤ 1152921504606846976) = true := decide_eq_true (by omega)
    rw [tA]
    go_wp2_with fail
    refine (fits_any _ _ _ bhb.1 blb.1).mono ?_
    rintro e w8 ⟨rfl, hb8⟩
    rw [VB.out]
    have P8 : Aside (Blk w8 w5.heap.size 60 #[.int .u64 Ah, .int .u64 Al] ∧ Blk w8 w6.heap.size 60 #[.int .u64 Bh, .int .u64 Bl] ∧ Blk w8 (w.heap.size + 1) 26 #[.int .i64 0, .int .i64 0] ∧ Below w.heap.size w w8) :=
      ⟨P7.out.1.later hb8, P7.out.2.1.later hb8, P7.out.2.2.1.later hb8, P7.out.2.2.2.trans (hb8.mono P7.out.2.2.2.size)⟩
    clear hb8 P7 c00 c01 f00 f01 k0 c10 c11 f10 f11 k1 c20 c21 f20 f21 k2
    obtain ⟨⟨c00, c01⟩, ⟨f00, f01⟩, k0⟩ := P8.out.1.two
    obtain ⟨⟨c10, c11⟩, ⟨f10, f11⟩, k1⟩ := P8.out.2.1.two
    obtain ⟨⟨c20, c21⟩, ⟨f20, f21⟩, k2⟩ := P8.out.2.2.1.two
    by_cases hB : dc * f ≤ 1152921504606846976
    · have tB : decide ((dc : Int) * (f : Int) ≤ 1152921504606846976) = true := decide_eq_true (by rw [← Int.natCast_mul]; omega)
      rw [tB]
      have HY := Lib.hid (r_yes ng n (d * f) (by rw [HF.out.1]; exact hA) (by rw [HF.out.2]; exact hB))
      have ea : Al = (A : Int) := by have := VA.out; unfold Rep.val at this; omega
      have eb : Bl = ((dc * f : Nat) : Int) := by have := VB.out; unfold Rep.val at this; rw [← Int.natCast_mul] at this; omega
      subst ea
      obtain ⟨BN, hBN⟩ : ∃ BN : Nat, BN = dc * f := ⟨_, rfl⟩
      rw [← hBN] at eb hB
      subst eb
      have HBN := Lib.hid hBN
      clear hBN
      cases ng
      · have HZ : Hid ((A : Int) = Frac.num false n (d * f) ∧ (BN : Int) = Frac.den n (d * f)) := ⟨by unfold Frac.num; rw [HF.out.1]; rfl, by unfold Frac.den; rw [HF.out.2, HBN.out]⟩
        go_wp2
        refine bodyPost_ret (v := .tuple #[.agg #[.int .i64 (A : Int), .int .i64 (BN : Int)], .int .i64 0]) (by simp [results, Try.results48, go_sem, c20, c21, k2]) rfl ⟨?_, ?_⟩
        · exact ret_quot ⟨HZ.out.1.trans HY.out.1, HZ.out.2.trans HY.out.2.1, HY.out.2.2⟩
        · exact bAl (bSt (bSt P8.out.2.2.2 (by simp) _) (by simp) _) _
      · have HZ : Hid (-(A : Int) = Frac.num true n (d * f) ∧ (BN : Int) = Frac.den n (d * f)) := ⟨by unfold Frac.num; rw [HF.out.1]; rfl, by unfold Frac.den; rw [HF.out.2, HBN.out]⟩
        go_wp2
        refine bodyPost_ret (v := .tuple #[.agg #[.int .i64 (-(A : Int)), .int .i64 (BN : Int)], .int .i64 0]) (by simp [results, Try.results48, go_sem, c20, c21, k2]) rfl ⟨?_, ?_⟩
        · exact ret_quot ⟨HZ.out.1.trans HY.out.1, HZ.out.2.trans HY.out.2.1, HY.out.2.2⟩
        · exact bAl (bSt (bSt P8.out.2.2.2 (by simp) _) (by simp) _) _
    · have tB : decide ((dc : Int) * (f : Int) ≤ 1152921504606846976) = false := decide_eq_false (by rw [← Int.natCast_mul]; omega)
      rw [tB]
      have HY := Lib.hid (r_no ng n (d * f) (fun h => hB (by rw [← HF.out.2]; exact h.2)))
      go_wp2
      refine bodyPost_ret (v := .tuple #[.agg #[.int .i64 0, .int .i64 0], .int .i64 6]) (by simp [results, Try.results48, go_sem, c20, c21, k2]) rfl ⟨?_, ?_⟩
      · exact ret_quot HY.out
      · exact bSt (bSt P8.out.2.2.2 (by simp) _) (by simp) _
  · have tA : decide ((A : Int) ≤ 1152921504606846976) = false := decide_eq_false (by omega)
    rw [tA]
    have HY := Lib.hid (r_no ng n (d * f) (fun h => hA (by rw [← HF.out.1]; exact h.1)))
    go_wp2
    refine bodyPost_ret (v := .tuple #[.agg #[.int .i64 0, .int .i64 0], .int .i64 6]) (by simp [results, Try.results48, go_sem, c20, c21, k2]) rfl ⟨?_, ?_⟩
    · exact ret_quot HY.out
    · exact bSt (bSt P7.out.2.2.2 (by simp) _) (by simp) _
end Go.Proofs.Ytphlkeoailapcaa
