/-
  The reference's Compare and Less; the walk of the statement on them.
-/
import Derived.Test.YtlmakfeeecbhoaaRAdd
import Derived.Test.YtlmakfeeecbhoaaQuietB
import Derived.Test.YtlmakfeeecbhoaaAwaken
namespace Go.Proofs.Ytlmakfeeecbhoaa
open Go.RowKit
set_option linter.unusedSimpArgs false
set_option linter.unusedVariables false

theorem hilo_zero (z : Int) (h0 : 0 ≤ z) (h1 : z < 340282366920938463463374607431768211456) : decide ((Rep.hi z, Rep.lo z) = ((0 : Int), (0 : Int))) = decide (z = 0) := by
  have h := zeroW (W2.of z z.toNat (by omega))
  rw [h]
  by_cases e : z = 0
  · rw [decide_eq_true e, decide_eq_true (by omega)]
  · rw [decide_eq_false e, decide_eq_false (by omega)]
set_option maxRecDepth 100000 in
set_option maxHeartbeats 4000000 in
theorem r_compare (a b c d : Int) (a0 : -9223372036854775808 ≤ a) (a1 : a < 9223372036854775808) (b0 : -9223372036854775808 ≤ b) (b1 : b < 9223372036854775808)
    (c0 : -9223372036854775808 ≤ c) (c1 : c < 9223372036854775808) (d0 : -9223372036854775808 ≤ d) (d1 : d < 9223372036854775808) (w : World) :
    Calls Try.prog 30 #[.agg #[.int .i64 a, .int .i64 b], .agg #[.int .i64 c, .int .i64 d]] w fun e w' => e = .returned (.int .i64 (cmpR a b c d)) ∧ Below w.heap.size w w' := by
  cases hv : Frac.valid a b
  · have H := Lib.hid (cmpR_no1 a b c d hv)
    go_enter Try.func30, Try.ntmps30
    go_wp2_with fail
    refine (r_valid _ _ a0 a1 b0 b1 _).mono ?_
    rintro e w1 ⟨rfl, hb⟩
    rw [hv]
    go_wp2
    go_ret
    exact ⟨ret_int H.out, bTr (bAl (bAl (Below.refl _ _) _) _) hb⟩
  cases hv2 : Frac.valid c d
  · have H := Lib.hid (cmpR_no2 a b c d hv2)
    go_enter Try.func30, Try.ntmps30
    go_wp2_with fail
    refine (r_valid _ _ a0 a1 b0 b1 _).mono ?_
    rintro e w1 ⟨rfl, hb⟩
    rw [hv]
    obtain ⟨hc, hf⟩ := bcell hb
    have hz : w.heap.size + 1 < w1.heap.size := by have := hb.size; simp at this; omega
    go_wp2_with fail
    refine (r_valid _ _ c0 c1 d0 d1 _).mono ?_
    rintro e w2 ⟨rfl, hb2⟩
    rw [hv2]
    go_wp2
    go_ret
    exact ⟨ret_int H.out, bTr (bTr (bAl (bAl (Below.refl _ _) _) _) hb) hb2⟩
  obtain ⟨e0, e1, e2, e3, -⟩ := (valid_iff a b).1 hv
  obtain ⟨e4, e5, e6, e7, -⟩ := (valid_iff c d).1 hv2
  have hA := mul_abs_bd a d (by omega) (by omega)
  have hB := mul_abs_bd c b (by omega) (by omega)
  have HT := Lib.hid ((cmpR_yes a b c d hv hv2).symm.trans (cmp_of_tot a b c d (by omega) (by omega)))
  have tp := tot_pos (decide (a < 0)) ((a.natAbs : Int) * (d.natAbs : Int)) (decide (0 < c)) ((c.natAbs : Int) * (b.natAbs : Int)) hA.1 hB.1
  have TZ := Lib.hid (hilo_zero (totN (decide (a < 0)) ((a.natAbs : Int) * (d.natAbs : Int)) (decide (0 < c)) ((c.natAbs : Int) * (b.natAbs : Int))) tp.1 (by omega))
  clear tp e0 e1 e2 e3 e4 e5 e6 e7
  go_enter Try.func30, Try.ntmps30
  go_wp2_with fail
  refine (r_valid _ _ a0 a1 b0 b1 _).mono ?_
  rintro e w1 ⟨rfl, hb⟩
  rw [hv]
  obtain ⟨hc, hf⟩ := bcell hb
  have hz : w.heap.size + 1 < w1.heap.size := by have := hb.size; simp at this; omega
  go_wp2_with fail
  refine (r_valid _ _ c0 c1 d0 d1 _).mono ?_
  rintro e w2 ⟨rfl, hb2⟩
  rw [hv2]
  have hb3 := bTr hb hb2
  have P3 := Lib.hid (And.intro (((Blk.newAt (w := w) (t := 26) (cs := #[.int .i64 a, .int .i64 b]) rfl).alloc _).later hb3) (And.intro ((Blk.newAt (w := w.alloc (.cells #[.int .i64 a, .int .i64 b] 26)) (n := w.heap.size + 1) (t := 26) (cs := #[.int .i64 c, .int .i64 d]) (by simp)).later hb3) (bTr (bAl (bAl (Below.refl _ _) _) _) hb3)))
  clear hb hb2 hb3 hc hf hz
  have KEEP := Lib.hid (show ∀ W, Below w2.heap.size w2 W → _ from fun W hW => show (W.cell? ⟨w.heap.size, 0, none⟩ = some (.int .i64 a) ∧ W.cell? ⟨w.heap.size, 1, none⟩ = some (.int .i64 b) ∧ W.cell? ⟨w.heap.size + 1, 0, none⟩ = some (.int .i64 c) ∧ W.cell? ⟨w.heap.size + 1, 1, none⟩ = some (.int .i64 d)) from ⟨((P3.out.1.later hW).two).1.1, ((P3.out.1.later hW).two).1.2, ((P3.out.2.1.later hW).two).1.1, ((P3.out.2.1.later hW).two).1.2⟩)
  obtain ⟨⟨e1, e2⟩, -, hz⟩ := P3.out.1.two
  obtain ⟨⟨e3, e4⟩, -, hz2⟩ := P3.out.2.1.two
  have HX := Lib.hid (Below.refl w2.heap.size w2)
  go_upto_region 3 with (fail)
  go_cut [5, 6] (fun s6 s7 wx => AddP w2 (totS (decide (a < 0)) ((a.natAbs : Int) * (d.natAbs : Int)) (decide (0 < c)) ((c.natAbs : Int) * (b.natAbs : Int))) (Rep.hi (totN (decide (a < 0)) ((a.natAbs : Int) * (d.natAbs : Int)) (decide (0 < c)) ((c.natAbs : Int) * (b.natAbs : Int)))) (Rep.lo (totN (decide (a < 0)) ((a.natAbs : Int) * (d.natAbs : Int)) (decide (0 < c)) ((c.natAbs : Int) * (b.natAbs : Int)))) s6 s7 wx)
  case first =>
    go_wp2_with fail
    go_region_held3 (fun w' => w'.cell? ⟨w.heap.size, 0, none⟩ = some (.int .i64 a) ∧ w'.cell? ⟨w.heap.size, 1, none⟩ = some (.int .i64 b) ∧ w'.cell? ⟨w.heap.size + 1, 0, none⟩ = some (.int .i64 c) ∧ w'.cell? ⟨w.heap.size + 1, 1, none⟩ = some (.int .i64 d)) (first | exact KEEP.out _ HX.out | exact KEEP.out _ (bD1 HX.out) | exact KEEP.out _ (bAl HX.out _) | exact KEEP.out _ (bAl (bD1 HX.out) _) | exact KEEP.out _ (bD1 (bAl HX.out _)) | exact KEEP.out _ (bSt2 HX.out PN.out.2 PN.out.2 _ _) | exact KEEP.out _ (bD1 (bSt2 HX.out PN.out.2 PN.out.2 _ _)) | go_keep)
      (first | (go_at_call 51; refine (size_any _ (by assumption) (by assumption) _).mono ?_; rintro e w' ⟨rfl, rfl⟩) | (go_at_call 50; refine (r_product _ _ (by omega) (by omega) (by omega) (by omega) _).mono ?_; rintro e w' ⟨rfl, hb⟩; (first | (have PN := Lib.hid (And.intro (Blk.later (Blk.newD _ _ _) hb) HX.out.size)) | (have PN := Lib.hid (And.intro (Blk.later (Blk.new _ _ _) hb) HX.out.size)) | (have PN := Lib.hid (And.intro (Blk.later PN.out.1 hb) PN.out.2)) | skip); (first | (obtain ⟨⟨n0, n1⟩, ⟨m0, m1⟩, nk⟩ := PN.out.1.two) | skip); have HX := Lib.hid (bTr (by first | exact HX.out | exact bD1 HX.out | exact bAl HX.out _ | exact bD1 (bAl HX.out _) | exact bAl (bD1 HX.out) _) hb)) | (go_at_call 49; refine (r_total _ _ _ _ _ hA.1 (by omega) hB.1 (by omega)).mono ?_; rintro e w' ⟨rfl, hb⟩; (first | (have PN := Lib.hid (And.intro (Blk.later (Blk.newD _ _ _) hb) HX.out.size)) | (have PN := Lib.hid (And.intro (Blk.later (Blk.new _ _ _) hb) HX.out.size)) | (have PN := Lib.hid (And.intro (Blk.later PN.out.1 hb) PN.out.2)) | skip); (first | (obtain ⟨⟨n0, n1⟩, ⟨m0, m1⟩, nk⟩ := PN.out.1.two) | skip); have HX := Lib.hid (bTr (by first | exact HX.out | exact bD1 HX.out | exact bAl HX.out _ | exact bD1 (bAl HX.out _) | exact bAl (bD1 HX.out) _) hb)))
    all_goals (go_wp2_with fail; go_meet)
    all_goals (first | exact ⟨rfl, _, rfl, HX.out.size, Blk.new _ _ _, bAl HX.out _⟩ | exact ⟨rfl, _, rfl, PN.out.2, (PN.out.1.set0 _).set1 _, bSt2 HX.out PN.out.2 PN.out.2 _ _⟩)
  case rest =>
    clear HX KEEP e1 e2 e3 e4 hz hz2
    obtain ⟨rfl, g7, rfl, hg7, hn7, hx7⟩ := hcut
    obtain ⟨⟨n0, n1⟩, -, n2⟩ := hn7.two
    have HF := Lib.hid (bTr P3.out.2.2 hx7)
    clear hn7 hx7 P3
    have EQ : ∀ W, (binOp .eql 57 (.agg #[.int .u64 (Rep.hi (totN (decide (a < 0)) ((a.natAbs : Int) * (d.natAbs : Int)) (decide (0 < c)) ((c.natAbs : Int) * (b.natAbs : Int)))), .int .u64 (Rep.lo (totN (decide (a < 0)) ((a.natAbs : Int) * (d.natAbs : Int)) (decide (0 < c)) ((c.natAbs : Int) * (b.natAbs : Int))))]) (.agg #[.int .u64 0, .int .u64 0])).run Try.prog W = .ok (.bool (decide (totN (decide (a < 0)) ((a.natAbs : Int) * (d.natAbs : Int)) (decide (0 < c)) ((c.natAbs : Int) * (b.natAbs : Int)) = 0))) W := fun W => by rw [eqlW, TZ.out]
    obtain ⟨N, hN⟩ : ∃ N, totN (decide (a < 0)) ((a.natAbs : Int) * (d.natAbs : Int)) (decide (0 < c)) ((c.natAbs : Int) * (b.natAbs : Int)) = N := ⟨_, rfl⟩
    obtain ⟨Z, hZ⟩ : ∃ Z, totS (decide (a < 0)) ((a.natAbs : Int) * (d.natAbs : Int)) (decide (0 < c)) ((c.natAbs : Int) * (b.natAbs : Int)) = Z := ⟨_, rfl⟩
    rw [hN] at EQ n0 n1 HT
    rw [hZ] at HT
    rw [hZ]
    clear hN hZ TZ
    have HT2 := HT.out
    clear HT
    by_cases h0 : N = 0
    · rw [if_pos h0] at HT2
      rw [decide_eq_true h0] at EQ
      have HR := Lib.hid HT2
      clear HT2
      go_wp2
      go_ret
      exact ⟨ret_int HR.out.symm, HF.out⟩
    · rw [if_neg h0] at HT2
      rw [decide_eq_false h0] at EQ
      cases Z
      · have HR := Lib.hid (show cmpR a b c d = 1 from HT2)
        clear HT2
        go_wp2
        go_ret
        exact ⟨ret_int HR.out.symm, HF.out⟩
      · have HR := Lib.hid (show cmpR a b c d = -1 from HT2)
        clear HT2
        go_wp2
        go_ret
        exact ⟨ret_int HR.out.symm, HF.out⟩
set_option maxHeartbeats 400000 in
theorem r_less (a b c d : Int) (a0 : -9223372036854775808 ≤ a) (a1 : a < 9223372036854775808) (b0 : -9223372036854775808 ≤ b) (b1 : b < 9223372036854775808)
    (c0 : -9223372036854775808 ≤ c) (c1 : c < 9223372036854775808) (d0 : -9223372036854775808 ≤ d) (d1 : d < 9223372036854775808) (w : World) :
    Calls Try.prog 32 #[.agg #[.int .i64 a, .int .i64 b], .agg #[.int .i64 c, .int .i64 d]] w fun e w' => e = .returned (.bool (decide (cmpR a b c d < 0))) ∧ Below w.heap.size w w' := by
  go_enter Try.func32, Try.ntmps32
  go_wp2_with fail
  refine (r_compare _ _ _ _ a0 a1 b0 b1 c0 c1 d0 d1 _).mono ?_
  rintro e w1 ⟨rfl, hb⟩
  go_wp2
  go_ret
  exact ⟨rfl, bTr (bAl (bAl (Below.refl _ _) _) _) hb⟩
set_option maxRecDepth 100000 in
set_option maxHeartbeats 4000000 in
theorem walkRatioCompares (a b c d : Int) (a0 : -9223372036854775808 ≤ a) (a1 : a < 9223372036854775808) (b0 : -9223372036854775808 ≤ b) (b1 : b < 9223372036854775808)
    (c0 : -9223372036854775808 ≤ c) (c1 : c < 9223372036854775808) (d0 : -9223372036854775808 ≤ d) (d1 : d < 9223372036854775808) (w : World) :
    Calls Try.prog 8 #[.int .i64 a, .int .i64 b, .int .i64 c, .int .i64 d] w fun e w' => e = .returned (.bool true) ∧ Below w.heap.size w w' := by
  have mixed : Try.prog.follows .mixedOrders = true := by kernel_rfl
  go_enter Try.func8, Try.ntmps8
  go_wp2_with fail
  have HB := Lib.hid (bAl (bAl (Below.refl w.heap.size w) (.cells #[.int .i64 a, .int .i64 b] 26)) (.cells #[.int .i64 c, .int .i64 d] 26))
  have B0 : Blk ((w.alloc (.cells #[.int .i64 a, .int .i64 b] 26)).alloc (.cells #[.int .i64 c, .int .i64 d] 26)) w.heap.size 26 #[.int .i64 a, .int .i64 b] := (Blk.newAt rfl).alloc _
  have B1 : Blk ((w.alloc (.cells #[.int .i64 a, .int .i64 b] 26)).alloc (.cells #[.int .i64 c, .int .i64 d] 26)) (w.heap.size + 1) 26 #[.int .i64 c, .int .i64 d] := Blk.newAt (by simp)
  generalize (w.alloc (.cells #[.int .i64 a, .int .i64 b] 26)).alloc (.cells #[.int .i64 c, .int .i64 d] 26) = w1 at HB B0 B1 ⊢
  have x0 : ∀ p : BelowOf w1, p.to.cell? ⟨w.heap.size, 0, none⟩ = some (.int .i64 a) := bq_cell B0.lt (B0.cell 0)
  have x1 : ∀ p : BelowOf w1, p.to.cell? ⟨w.heap.size, 1, none⟩ = some (.int .i64 b) := bq_cell B0.lt (B0.cell 1)
  have y0 : ∀ p : BelowOf w1, p.to.cell? ⟨w.heap.size + 1, 0, none⟩ = some (.int .i64 c) := bq_cell B1.lt (B1.cell 0)
  have y1 : ∀ p : BelowOf w1, p.to.cell? ⟨w.heap.size + 1, 1, none⟩ = some (.int .i64 d) := bq_cell B1.lt (B1.cell 1)
  clear B0 B1
  refine wp_region_below mixed (by kernel_rfl) ?_
  repeat (go_big_quiet_step ((first | (go_at_call 29; exact bq_call (ratio_compare _ _ _ _ (by assumption) (by assumption) (by assumption) (by assumption) (by assumption) (by assumption) (by assumption) (by assumption) _)) | (go_at_call 30; exact bq_call (r_compare _ _ _ _ (by assumption) (by assumption) (by assumption) (by assumption) (by assumption) (by assumption) (by assumption) (by assumption) _)) | (go_at_call 31; exact bq_call (ratio_less _ _ _ _ (by assumption) (by assumption) (by assumption) (by assumption) (by assumption) (by assumption) (by assumption) (by assumption) _)) | (go_at_call 32; exact bq_call (r_less _ _ _ _ (by assumption) (by assumption) (by assumption) (by assumption) (by assumption) (by assumption) (by assumption) (by assumption) _)) | (go_at_call 18; exact bq_call (awake_any _)))))
  refine wpQuiet_nil ?_
  intro w5 hw'
  have HB5 := Lib.hid (show Below w1.heap.size w1 w5 by obtain ⟨p, h⟩ := hw'; exact h ▸ p.h)
  clear hw' x0 x1 y0 y1
  go_wp2
  go_ret
  exact ⟨rfl, bTr HB.out HB5.out⟩
end Go.Proofs.Ytlmakfeeecbhoaa
