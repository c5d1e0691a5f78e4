/-
  The program's Parse.
-/
import Derived.Test.YtlocgjhblcgpbaaPMag
namespace Go.Proofs.Ytlocgjhblcgpbaa
open Go.RowKit
set_option linter.unusedSimpArgs false
set_option linter.unusedVariables false

theorem q_one {z d : Int} (w : World) (z0 : -20000000000000000000000000000 < z) (z1 : z < 20000000000000000000000000000) (d0 : 0 < d) (d1 : d < 18446744073709551616) :
    Calls Try.prog 48 #[.agg #[.int .u64 (Rep.hi z), .int .u64 (Rep.lo z)], .int .u64 d, .int .u64 1] w fun e w' => e = .returned (.tuple #[.agg #[.int .i64 (qn z d), .int .i64 (qd z d)], .int .i64 (qe z d)]) ∧ Below w.heap.size w w' := by
  obtain ⟨n, rfl⟩ := Int.eq_ofNat_of_zero_le (show 0 ≤ d by omega)
  have h := quotient_any z n 1 w (by omega) (by omega) (by omega) (by omega) (by omega) (by omega) (Nat.gcd_one_right _)
  rw [Nat.mul_one] at h
  exact h
theorem sgn_bd {g : Bool} {p : Int} (h : 0 ≤ p ∧ p < 20000000000000000000000000000) : -20000000000000000000000000000 < Rep.sgn g p ∧ Rep.sgn g p < 20000000000000000000000000000 := by cases g <;> simp [Rep.sgn] <;> omega
set_option maxRecDepth 100000 in
set_option maxHeartbeats 4000000 in
theorem parse_any (s : ByteArray) (hs : s.size ≤ 1000) (w : World) :
    Calls Try.prog 34 #[.string s] w fun e w' => e = .returned (.tuple #[.agg #[.int .i64 (parN s), .int .i64 (parD s)], .int .i64 (parE s)]) ∧ Below w.heap.size w w' := by
  have hbs := bdy_size s
  have PX := Lib.hid (fun w => prefix_any s w)
  have MX := Lib.hid (fun w => magnitude_text (bdy s) (by omega) w)
  have HPN := Lib.hid (show parN s = if frm (bdy s) ≤ 2 then qn (Rep.sgn (neg s) (pnum (bdy s))) (pden (bdy s)) else 0 from rfl)
  have HPD := Lib.hid (show parD s = if frm (bdy s) ≤ 2 then qd (Rep.sgn (neg s) (pnum (bdy s))) (pden (bdy s)) else 0 from rfl)
  have HPE := Lib.hid (show parE s = if frm (bdy s) ≤ 2 then qe (Rep.sgn (neg s) (pnum (bdy s))) (pden (bdy s)) else if frm (bdy s) = 3 then 7 else 2 from rfl)
  have B0 : Hid (Blk (w.alloc (.cells #[.int .i64 0, .int .i64 0] 26)) w.heap.size 26 #[.int .i64 0, .int .i64 0] ∧ Below w.heap.size w (w.alloc (.cells #[.int .i64 0, .int .i64 0] 26))) := Lib.hid ⟨Blk.newAt rfl, bAl (Below.refl w.heap.size w) _⟩
  by_cases h2 : frm (bdy s) ≤ 2
  · obtain ⟨m0, m1, m2⟩ := m_ok h2
    have hp := p_bd (show (bdy s).size ≤ 1000 by omega) h2
    have HP := Lib.hid (par_ok h2 HPN.out HPD.out HPE.out)
    simp only [m0, m1, m2] at MX
    have hg := sgn_bd (g := neg s) hp.1
    have QX := Lib.hid (fun w => q_one (z := Rep.sgn (neg s) (pnum (bdy s))) (d := pden (bdy s)) w hg.1 hg.2 hp.2.1 hp.2.2)
    simp only [HP.out.1, HP.out.2.1, HP.out.2.2] at QX
    have SX := Lib.hid (fun w => signed_any (neg s) (Rep.hi (pnum (bdy s))) (Rep.lo (pnum (bdy s))) w (Rep.hi_bd _).1 (Rep.lo_bd _).1 (Rep.hi_bd _).2 (Rep.lo_bd _).2)
    simp only [Rep.val_hi_lo (pnum (bdy s)) hp.1.1 (by omega)] at SX
    clear HP HPN HPD HPE m0 m1 m2 hg hp h2
    generalize Rep.sgn (neg s) (pnum (bdy s)) = z at QX SX
    go_enter Try.func34, Try.ntmps34
    go_wp2_with fail
    refine (PX.out _).mono ?_
    rintro e w1 ⟨rfl, hw⟩
    obtain rfl := hw
    go_wp2_with fail
    refine (MX.out _).mono ?_
    rintro e w2 ⟨rfl, hb⟩
    have HB2 := Lib.hid (And.intro (B0.out.1.later hb) (bTr B0.out.2 hb))
    clear hb B0 MX PX
    go_wp2_with fail
    refine (SX.out _).mono ?_
    rintro e w3 ⟨rfl, hb⟩
    have HB3 := Lib.hid (And.intro ((HB2.out.1.alloc _).later hb) (bTr (bAl HB2.out.2 _) hb))
    clear hb SX HB2
    go_wp2_with fail
    refine (QX.out _).mono ?_
    rintro e w4 ⟨rfl, hb⟩
    have HB4 := Lib.hid (And.intro (HB3.out.1.later hb) (bTr HB3.out.2 hb))
    clear hb QX HB3
    obtain ⟨⟨y0, y1⟩, ⟨y2, y3⟩, y4⟩ := HB4.out.1.two
    go_wp2_with fail
    exact bodyPost_ret (v := .tuple #[.agg #[.int .i64 (parN s), .int .i64 (parD s)], .int .i64 (parE s)]) (by simp [results, Try.results34, go_sem, y0, y1, y4]) rfl ⟨rfl, bSt (bSt HB4.out.2 (by simp) _) (by simp) _⟩
  · have HE : Hid (parN s = 0 ∧ parD s = 0 ∧ parE s = mE (bdy s)) := Lib.hid ⟨by rw [HPN.out, if_neg h2], by rw [HPD.out, if_neg h2], by rw [HPE.out, if_neg h2]; unfold mE; rw [if_neg h2]⟩
    have hne : ¬ mE (bdy s) = 0 := by unfold mE; rw [if_neg h2]; split <;> omega
    have hbf : (mE (bdy s) == 0) = false := beq_eq_false_iff_ne.2 hne
    have hbf2 : (mE (bdy s) != 0) = true := by simp [bne, hbf]
    clear HPN HPD HPE h2
    generalize mE (bdy s) = c at MX HE hne hbf hbf2
    go_enter Try.func34, Try.ntmps34
    go_wp2_with fail
    refine (PX.out _).mono ?_
    rintro e w1 ⟨rfl, hw⟩
    obtain rfl := hw
    go_wp2_with fail
    refine (MX.out _).mono ?_
    rintro e w2 ⟨rfl, hb⟩
    have HB2 := Lib.hid (And.intro (B0.out.1.later hb) (bTr B0.out.2 hb))
    clear hb B0 MX PX
    obtain ⟨⟨y0, y1⟩, ⟨y2, y3⟩, y4⟩ := HB2.out.1.two
    go_wp2_with fail
    exact bodyPost_ret (v := .tuple #[.agg #[.int .i64 0, .int .i64 0], .int .i64 c]) (by simp [results, Try.results34, go_sem, y0, y1, y4]) rfl ⟨ret3 ⟨HE.out.1.symm, HE.out.2.1.symm, HE.out.2.2.symm⟩, bAl (bSt (bSt HB2.out.2 (by simp) _) (by simp) _) _⟩
end Go.Proofs.Ytlocgjhblcgpbaa
