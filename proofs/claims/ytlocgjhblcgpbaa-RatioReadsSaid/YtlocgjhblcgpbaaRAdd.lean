/-
  The reference's Add and Sub at any numbers.
-/
import Derived.Test.YtlocgjhblcgpbaaRMul
set_option linter.unusedVariables false
set_option linter.unusedSimpArgs false
namespace Go.Proofs.Ytlocgjhblcgpbaa
open Go.RowKit
set_option linter.unusedSimpArgs false
set_option linter.unusedVariables false

theorem add_sgn (a b c d : Int) (hb : 0 < b) (hd : 0 < d) : Rep.sgn (totS (decide (a < 0)) ((a.natAbs : Int) * (d.natAbs : Int)) (decide (c < 0)) ((c.natAbs : Int) * (b.natAbs : Int))) (totN (decide (a < 0)) ((a.natAbs : Int) * (d.natAbs : Int)) (decide (c < 0)) ((c.natAbs : Int) * (b.natAbs : Int))) = a * d + c * b := by
  rw [tot_sum, sgn_mul, sgn_mul, sgn_lt, sgn_lt, abs_pos hb, abs_pos hd]
def AddP (w2 : World) (B : Bool) (h l : Int) (s6 s7 : Value) (wx : World) : Prop := s6 = .bool B ∧ NumP w2 65 (.int .u64 h) (.int .u64 l) s7 wx
set_option maxRecDepth 100000 in
set_option maxHeartbeats 4000000 in
theorem r_add (a b c d : Int) (ha : I64 a) (hb : I64 b) (hc : I64 c) (hd : I64 d) (w : World) :
    Calls Try.prog 14 #[.agg #[.int .i64 a, .int .i64 b], .agg #[.int .i64 c, .int .i64 d]] w fun e w' => e = .returned (.tuple #[.agg #[.int .i64 (resN (both2 a b c d) (qn (a * d + c * b) (b * d))), .int .i64 (resN (both2 a b c d) (qd (a * d + c * b) (b * d)))], .int .i64 (resE (both2 a b c d) (qe (a * d + c * b) (b * d)))]) ∧ Below w.heap.size w w' := by
  obtain ⟨a0, a1⟩ := ha
  obtain ⟨b0, b1⟩ := hb
  obtain ⟨c0, c1⟩ := hc
  obtain ⟨d0, d1⟩ := hd
  cases hv : Frac.valid a b
  · have HY := Lib.hid (res_no (both2_no1 (c := c) (d := d) hv) (qn (a * d + c * b) (b * d)) (qd (a * d + c * b) (b * d)) (qe (a * d + c * b) (b * d)))
    go_enter Try.func14, Try.ntmps14
    go_wp2_with fail
    refine (r_valid _ _ a0 a1 b0 b1 _).mono ?_
    rintro e w1 ⟨rfl, hb⟩
    rw [hv]
    have PR := ((Blk.newAt (w := (w.alloc (.cells #[.int .i64 a, .int .i64 b] 26)).alloc (.cells #[.int .i64 c, .int .i64 d] 26)) (n := w.heap.size + 1 + 1) (t := 26) (cs := #[.int .i64 0, .int .i64 0]) (by simp)).later hb)
    obtain ⟨⟨r0, r1⟩, ⟨q0, q1⟩, hzr⟩ := PR.two
    have HBX := Lib.hid (bTr (bAl (bAl (bAl (Below.refl _ _) _) _) _) hb)
    clear PR hb
    go_wp2
    refine bodyPost_ret (v := .tuple #[.agg #[.int .i64 0, .int .i64 0], .int .i64 1]) (by simp [results, Try.results14, go_sem, r0, r1, hzr]) rfl ⟨ret3 HY.out, ?_⟩
    exact bSt (bSt HBX.out (by simp; omega) _) (by simp; omega) _
  cases hv2 : Frac.valid c d
  · have HY := Lib.hid (res_no (both2_no2 (a := a) (b := b) hv2) (qn (a * d + c * b) (b * d)) (qd (a * d + c * b) (b * d)) (qe (a * d + c * b) (b * d)))
    go_enter Try.func14, Try.ntmps14
    go_wp2_with fail
    refine (r_valid _ _ a0 a1 b0 b1 _).mono ?_
    rintro e w1 ⟨rfl, hb⟩
    rw [hv]
    obtain ⟨hc, hf⟩ := bcell hb
    have hz : w.heap.size + 1 + 1 < w1.heap.size := by have := hb.size; simp at this; omega
    go_wp2_with fail
    refine (r_valid _ _ c0 c1 d0 d1 _).mono ?_
    rintro e w2 ⟨rfl, hb2⟩
    rw [hv2]
    have hb3 := bTr hb hb2
    clear hc hf hz hb hb2
    have PR := ((Blk.newAt (w := (w.alloc (.cells #[.int .i64 a, .int .i64 b] 26)).alloc (.cells #[.int .i64 c, .int .i64 d] 26)) (n := w.heap.size + 1 + 1) (t := 26) (cs := #[.int .i64 0, .int .i64 0]) (by simp)).later hb3)
    obtain ⟨⟨r0, r1⟩, ⟨q0, q1⟩, hzr⟩ := PR.two
    have HBX := Lib.hid (bTr (bAl (bAl (bAl (Below.refl _ _) _) _) _) hb3)
    clear PR hb3
    go_wp2
    refine bodyPost_ret (v := .tuple #[.agg #[.int .i64 0, .int .i64 0], .int .i64 1]) (by simp [results, Try.results14, go_sem, r0, r1, hzr]) rfl ⟨ret3 HY.out, ?_⟩
    exact bSt (bSt HBX.out (by simp; omega) _) (by simp; omega) _
  obtain ⟨e0, e1, e2, e3, -⟩ := (valid_iff a b).1 hv
  obtain ⟨e4, e5, e6, e7, -⟩ := (valid_iff c d).1 hv2
  have hA := mul_abs_bd a d (by omega) (by omega)
  have hB := mul_abs_bd c b (by omega) (by omega)
  have hC := mul_abs_bd b d (by omega) (by omega)
  have hbd : 0 < (b.natAbs : Int) * (d.natAbs : Int) := Int.mul_pos (by omega) (by omega)
  have hsg := add_sgn a b c d (by omega) (by omega)
  have HY := Lib.hid (show qn (a * d + c * b) ((b.natAbs : Int) * (d.natAbs : Int)) = resN (both2 a b c d) (qn (a * d + c * b) (b * d)) ∧ qd (a * d + c * b) ((b.natAbs : Int) * (d.natAbs : Int)) = resN (both2 a b c d) (qd (a * d + c * b) (b * d)) ∧ qe (a * d + c * b) ((b.natAbs : Int) * (d.natAbs : Int)) = resE (both2 a b c d) (qe (a * d + c * b) (b * d)) by
    rw [abs_pos (show 0 < b by omega), abs_pos (show 0 < d by omega)]
    exact res_yes (both2_yes hv hv2) _ _ _)
  have HSG := Lib.hid hsg
  have TP := Lib.hid (tot_pos (decide (a < 0)) ((a.natAbs : Int) * (d.natAbs : Int)) (decide (c < 0)) ((c.natAbs : Int) * (b.natAbs : Int)) hA.1 hB.1)
  clear hsg e0 e1 e2 e3 e4 e5 e6 e7
  go_enter Try.func14, Try.ntmps14
  go_wp2_with fail
  refine (r_valid _ _ (by assumption) (by assumption) (by assumption) (by assumption) _).mono ?_
  rintro e w1 ⟨rfl, hb⟩
  rw [hv]
  obtain ⟨hc, hf⟩ := bcell hb
  have hz : w.heap.size + 1 + 1 < w1.heap.size := by have := hb.size; simp at this; omega
  go_wp2_with fail
  refine (r_valid _ _ (by assumption) (by assumption) (by assumption) (by assumption) _).mono ?_
  rintro e w2 ⟨rfl, hb2⟩
  rw [hv2]
  have hb3 := bTr hb hb2
  have P2 := Lib.hid (And.intro ((((Blk.newAt (w := w) (t := 26) (cs := #[.int .i64 a, .int .i64 b]) rfl).alloc _).alloc _).later hb3) (And.intro (((Blk.newAt (w := w.alloc (.cells #[.int .i64 a, .int .i64 b] 26)) (n := w.heap.size + 1) (t := 26) (cs := #[.int .i64 c, .int .i64 d]) (by simp)).alloc _).later hb3) (And.intro ((Blk.newAt (w := (w.alloc (.cells #[.int .i64 a, .int .i64 b] 26)).alloc (.cells #[.int .i64 c, .int .i64 d] 26)) (n := w.heap.size + 1 + 1) (t := 26) (cs := #[.int .i64 0, .int .i64 0]) (by simp)).later hb3) (bTr (bAl (bAl (bAl (Below.refl _ _) _) _) _) hb3))))
  clear hb hb2 hb3 hc hf hz
  obtain ⟨⟨e1, e2⟩, -, hz⟩ := P2.out.1.two
  obtain ⟨⟨e3, e4⟩, -, hz2⟩ := P2.out.2.1.two
  have P3 := P2
  clear e1 e2 e3 e4 hz hz2 P2
  have KEEP := Lib.hid (show ∀ W, Below w2.heap.size w2 W → _ from fun W hW => show (W.cell? ⟨w.heap.size, 0, none⟩ = some (.int .i64 a) ∧ W.cell? ⟨w.heap.size, 1, none⟩ = some (.int .i64 b) ∧ W.cell? ⟨w.heap.size + 1, 0, none⟩ = some (.int .i64 c) ∧ W.cell? ⟨w.heap.size + 1, 1, none⟩ = some (.int .i64 d)) from ⟨((P3.out.1.later hW).two).1.1, ((P3.out.1.later hW).two).1.2, ((P3.out.2.1.later hW).two).1.1, ((P3.out.2.1.later hW).two).1.2⟩)
  obtain ⟨⟨e1, e2⟩, -, hz⟩ := P3.out.1.two
  obtain ⟨⟨e3, e4⟩, -, hz2⟩ := P3.out.2.1.two
  have HX := Lib.hid (Below.refl w2.heap.size w2)
  obtain ⟨⟨r0, r1⟩, ⟨q0, q1⟩, hzr⟩ := P3.out.2.2.1.two
  go_upto_region 3 with (fail)
  go_cut [6, 7] (fun s6 s7 wx => AddP w2 (totS (decide (a < 0)) ((a.natAbs : Int) * (d.natAbs : Int)) (decide (c < 0)) ((c.natAbs : Int) * (b.natAbs : Int))) (Rep.hi (totN (decide (a < 0)) ((a.natAbs : Int) * (d.natAbs : Int)) (decide (c < 0)) ((c.natAbs : Int) * (b.natAbs : Int)))) (Rep.lo (totN (decide (a < 0)) ((a.natAbs : Int) * (d.natAbs : Int)) (decide (c < 0)) ((c.natAbs : Int) * (b.natAbs : Int)))) s6 s7 wx)
  case first =>
    go_wp2_with fail
    go_region_held3 (fun w' => w'.cell? ⟨w.heap.size, 0, none⟩ = some (.int .i64 a) ∧ w'.cell? ⟨w.heap.size, 1, none⟩ = some (.int .i64 b) ∧ w'.cell? ⟨w.heap.size + 1, 0, none⟩ = some (.int .i64 c) ∧ w'.cell? ⟨w.heap.size + 1, 1, none⟩ = some (.int .i64 d)) (first | exact KEEP.out _ HX.out | exact KEEP.out _ (bD1 HX.out) | exact KEEP.out _ (bAl HX.out _) | exact KEEP.out _ (bAl (bD1 HX.out) _) | exact KEEP.out _ (bD1 (bAl HX.out _)) | exact KEEP.out _ (bSt2 HX.out PN.out.2 PN.out.2 _ _) | exact KEEP.out _ (bD1 (bSt2 HX.out PN.out.2 PN.out.2 _ _)) | go_keep)
      (first | (go_at_call 52; refine (size_any _ (by assumption) (by assumption) _).mono ?_; rintro e w' ⟨rfl, rfl⟩) | (go_at_call 51; refine (r_product _ _ (by omega) (by omega) (by omega) (by omega) _).mono ?_; rintro e w' ⟨rfl, hb⟩; (first | (have PN := Lib.hid (And.intro (Blk.later (Blk.newD _ _ _) hb) HX.out.size)) | (have PN := Lib.hid (And.intro (Blk.later (Blk.new _ _ _) hb) HX.out.size)) | (have PN := Lib.hid (And.intro (Blk.later PN.out.1 hb) PN.out.2)) | skip); (first | (obtain ⟨⟨n0, n1⟩, ⟨m0, m1⟩, nk⟩ := PN.out.1.two) | skip); have HX := Lib.hid (bTr (by first | exact HX.out | exact bD1 HX.out | exact bAl HX.out _ | exact bD1 (bAl HX.out _) | exact bAl (bD1 HX.out) _) hb)) | (go_at_call 50; refine (r_total _ _ _ _ _ hA.1 (by omega) hB.1 (by omega)).mono ?_; rintro e w' ⟨rfl, hb⟩; (first | (have PN := Lib.hid (And.intro (Blk.later (Blk.newD _ _ _) hb) HX.out.size)) | (have PN := Lib.hid (And.intro (Blk.later (Blk.new _ _ _) hb) HX.out.size)) | (have PN := Lib.hid (And.intro (Blk.later PN.out.1 hb) PN.out.2)) | skip); (first | (obtain ⟨⟨n0, n1⟩, ⟨m0, m1⟩, nk⟩ := PN.out.1.two) | skip); have HX := Lib.hid (bTr (by first | exact HX.out | exact bD1 HX.out | exact bAl HX.out _ | exact bD1 (bAl HX.out _) | exact bAl (bD1 HX.out) _) hb)))
    all_goals (go_wp2_with fail; go_meet)
    all_goals (first | exact ⟨rfl, _, rfl, HX.out.size, Blk.new _ _ _, bAl HX.out _⟩ | exact ⟨rfl, _, rfl, PN.out.2, (PN.out.1.set0 _).set1 _, bSt2 HX.out PN.out.2 PN.out.2 _ _⟩)
  case rest =>
    have hgr0 := P3.out.2.2.1.lt
    clear HX
    obtain ⟨rfl, g7, rfl, hg7, hn7, hx7⟩ := hcut
    have P4 := Lib.hid (And.intro (P3.out.1.later hx7) (And.intro (P3.out.2.1.later hx7) (And.intro (P3.out.2.2.1.later hx7) (And.intro (bTr P3.out.2.2.2 hx7) hn7))))
    have hgr : w.heap.size + 1 + 1 < g7 := by omega
    clear P3 KEEP hn7 hx7 e1 e2 e3 e4 hz hz2 r0 r1 q0 q1 hzr
    have KEEP := Lib.hid (show ∀ W, Below wc.heap.size wc W → _ from fun W hW => show (W.cell? ⟨w.heap.size, 1, none⟩ = some (.int .i64 b) ∧ W.cell? ⟨w.heap.size + 1, 1, none⟩ = some (.int .i64 d) ∧ W.cell? ⟨g7, 0, none⟩ = some (.int .u64 (Rep.hi (totN (decide (a < 0)) ((a.natAbs : Int) * (d.natAbs : Int)) (decide (c < 0)) ((c.natAbs : Int) * (b.natAbs : Int))))) ∧ W.cell? ⟨g7, 1, none⟩ = some (.int .u64 (Rep.lo (totN (decide (a < 0)) ((a.natAbs : Int) * (d.natAbs : Int)) (decide (c < 0)) ((c.natAbs : Int) * (b.natAbs : Int)))))) from ⟨((P4.out.1.later hW).two).1.2, ((P4.out.2.1.later hW).two).1.2, ((P4.out.2.2.2.2.later hW).two).1.1, ((P4.out.2.2.2.2.later hW).two).1.2⟩)
    obtain ⟨k1, k2, k3, k4⟩ := KEEP.out _ (Below.refl _ _)
    have HX := Lib.hid (Below.refl wc.heap.size wc)
    obtain ⟨⟨r0, r1⟩, ⟨q0, q1⟩, hzr⟩ := P4.out.2.2.1.two
    go_wp2_with fail
    go_region_held3 (fun W => W.cell? ⟨w.heap.size, 1, none⟩ = some (.int .i64 b) ∧ W.cell? ⟨w.heap.size + 1, 1, none⟩ = some (.int .i64 d) ∧ W.cell? ⟨g7, 0, none⟩ = some (.int .u64 (Rep.hi (totN (decide (a < 0)) ((a.natAbs : Int) * (d.natAbs : Int)) (decide (c < 0)) ((c.natAbs : Int) * (b.natAbs : Int))))) ∧ W.cell? ⟨g7, 1, none⟩ = some (.int .u64 (Rep.lo (totN (decide (a < 0)) ((a.natAbs : Int) * (d.natAbs : Int)) (decide (c < 0)) ((c.natAbs : Int) * (b.natAbs : Int)))))) (first | exact KEEP.out _ HX.out | exact KEEP.out _ (bD1 HX.out) | (go_split_ands; refine ⟨?_, ?_, ?_, ?_⟩ <;> (rw [World.cell?_setCell_other _ _ _ _ (by first | (simp; done) | (simp; omega)), World.cell?_setCell_other _ _ _ _ (by first | (simp; done) | (simp; omega))]; assumption)) | go_keep)
      (first | (go_at_call 52; refine (size_any _ (by assumption) (by assumption) _).mono ?_; rintro e w' ⟨rfl, rfl⟩) | (go_at_call 51; refine (r_product _ _ (by omega) (by omega) (by omega) (by omega) _).mono ?_; rintro e w' ⟨rfl, hb⟩; (first | (have PN := Lib.hid (And.intro (Blk.later (Blk.newD _ _ _) hb) HX.out.size)) | (have PN := Lib.hid (And.intro (Blk.later (Blk.new _ _ _) hb) HX.out.size)) | (have PN := Lib.hid (And.intro (Blk.later PN.out.1 hb) PN.out.2)) | skip); (first | (obtain ⟨⟨n0, n1⟩, ⟨m0, m1⟩, nk⟩ := PN.out.1.two) | skip); have HX := Lib.hid (bTr (by first | exact HX.out | exact bD1 HX.out | exact bAl HX.out _ | exact bD1 (bAl HX.out _) | exact bAl (bD1 HX.out) _) hb)) | (go_at_call 53; refine (reduce_z _ (totN (decide (a < 0)) ((a.natAbs : Int) * (d.natAbs : Int)) (decide (c < 0)) ((c.natAbs : Int) * (b.natAbs : Int))) ((b.natAbs : Int) * (d.natAbs : Int)) (a * d + c * b) TP.out.1 (by have := TP.out.2; omega) hbd (by omega) HSG.out _).mono ?_; rintro e w' ⟨rfl, hb⟩; (first | (have PN := Lib.hid (And.intro (Blk.later (Blk.newD _ _ _) hb) HX.out.size)) | (have PN := Lib.hid (And.intro (Blk.later (Blk.new _ _ _) hb) HX.out.size)) | (have PN := Lib.hid (And.intro (Blk.later PN.out.1 hb) PN.out.2)) | skip); (first | (obtain ⟨⟨n0, n1⟩, ⟨m0, m1⟩, nk⟩ := PN.out.1.two) | skip); have HX := Lib.hid (bTr (by first | exact HX.out | exact bD1 HX.out | exact bAl HX.out _ | exact bD1 (bAl HX.out _) | exact bAl (bD1 HX.out) _) hb); have PR := P4.out.2.2.1.later HX.out; obtain ⟨⟨r0, r1⟩, ⟨q0, q1⟩, hzr⟩ := PR.two; clear PR))
    go_wp2
    refine bodyPost_ret (v := .tuple #[.agg #[.int .i64 (qn (a * d + c * b) ((b.natAbs : Int) * (d.natAbs : Int))), .int .i64 (qd (a * d + c * b) ((b.natAbs : Int) * (d.natAbs : Int)))], .int .i64 (qe (a * d + c * b) ((b.natAbs : Int) * (d.natAbs : Int)))]) (by simp [results, Try.results14, go_sem, r0, r1, hzr]) rfl ⟨ret3 HY.out, ?_⟩
    exact bSt (bSt (bTr P4.out.2.2.2.1 HX.out) (by simp; omega) _) (by simp; omega) _
set_option maxHeartbeats 2000000 in
theorem r_sub (a b c d : Int) (ha : I64 a) (hb : I64 b) (hc : I64 c) (hd : I64 d) (w : World) :
    Calls Try.prog 16 #[.agg #[.int .i64 a, .int .i64 b], .agg #[.int .i64 c, .int .i64 d]] w fun e w' => e = .returned (.tuple #[.agg #[.int .i64 (resN (both2 a b c d) (qn (a * d + -c * b) (b * d))), .int .i64 (resN (both2 a b c d) (qd (a * d + -c * b) (b * d)))], .int .i64 (resE (both2 a b c d) (qe (a * d + -c * b) (b * d)))]) ∧ Below w.heap.size w w' := by
  obtain ⟨a0, a1⟩ := ha
  obtain ⟨b0, b1⟩ := hb
  obtain ⟨c0, c1⟩ := hc
  obtain ⟨d0, d1⟩ := hd
  cases hv : Frac.valid a b
  · have HY := Lib.hid (res_no (both2_no1 (c := c) (d := d) hv) (qn (a * d + -c * b) (b * d)) (qd (a * d + -c * b) (b * d)) (qe (a * d + -c * b) (b * d)))
    go_enter Try.func16, Try.ntmps16
    go_wp2_with fail
    refine (r_valid _ _ a0 a1 b0 b1 _).mono ?_
    rintro e w1 ⟨rfl, hb⟩
    rw [hv]
    have PR := ((Blk.newAt (w := (w.alloc (.cells #[.int .i64 a, .int .i64 b] 26)).alloc (.cells #[.int .i64 c, .int .i64 d] 26)) (n := w.heap.size + 1 + 1) (t := 26) (cs := #[.int .i64 0, .int .i64 0]) (by simp)).later hb)
    obtain ⟨⟨r0, r1⟩, ⟨q0, q1⟩, hzr⟩ := PR.two
    have HBX := Lib.hid (bTr (bAl (bAl (bAl (Below.refl _ _) _) _) _) hb)
    clear PR hb
    go_wp2
    refine bodyPost_ret (v := .tuple #[.agg #[.int .i64 0, .int .i64 0], .int .i64 1]) (by simp [results, Try.results16, go_sem, r0, r1, hzr]) rfl ⟨ret3 HY.out, ?_⟩
    exact bSt (bSt HBX.out (by simp; omega) _) (by simp; omega) _
  cases hv2 : Frac.valid c d
  · have HY := Lib.hid (res_no (both2_no2 (a := a) (b := b) hv2) (qn (a * d + -c * b) (b * d)) (qd (a * d + -c * b) (b * d)) (qe (a * d + -c * b) (b * d)))
    go_enter Try.func16, Try.ntmps16
    go_wp2_with fail
    refine (r_valid _ _ a0 a1 b0 b1 _).mono ?_
    rintro e w1 ⟨rfl, hb⟩
    rw [hv]
    obtain ⟨hc, hf⟩ := bcell hb
    have hz : w.heap.size + 1 + 1 < w1.heap.size := by have := hb.size; simp at this; omega
    go_wp2_with fail
    refine (r_valid _ _ c0 c1 d0 d1 _).mono ?_
    rintro e w2 ⟨rfl, hb2⟩
    rw [hv2]
    have hb3 := bTr hb hb2
    clear hc hf hz hb hb2
    have PR := ((Blk.newAt (w := (w.alloc (.cells #[.int .i64 a, .int .i64 b] 26)).alloc (.cells #[.int .i64 c, .int .i64 d] 26)) (n := w.heap.size + 1 + 1) (t := 26) (cs := #[.int .i64 0, .int .i64 0]) (by simp)).later hb3)
    obtain ⟨⟨r0, r1⟩, ⟨q0, q1⟩, hzr⟩ := PR.two
    have HBX := Lib.hid (bTr (bAl (bAl (bAl (Below.refl _ _) _) _) _) hb3)
    clear PR hb3
    go_wp2
    refine bodyPost_ret (v := .tuple #[.agg #[.int .i64 0, .int .i64 0], .int .i64 1]) (by simp [results, Try.results16, go_sem, r0, r1, hzr]) rfl ⟨ret3 HY.out, ?_⟩
    exact bSt (bSt HBX.out (by simp; omega) _) (by simp; omega) _
  obtain ⟨e0, e1, e2, e3, -⟩ := (valid_iff c d).1 hv2
  have HA := Lib.hid (fun w => r_add a b (-c) d ⟨a0, a1⟩ ⟨b0, b1⟩ ⟨by omega, by omega⟩ ⟨d0, d1⟩ w)
  have HY := Lib.hid (show resN (both2 a b (-c) d) (qn (a * d + -c * b) (b * d)) = resN (both2 a b c d) (qn (a * d + -c * b) (b * d)) ∧ resN (both2 a b (-c) d) (qd (a * d + -c * b) (b * d)) = resN (both2 a b c d) (qd (a * d + -c * b) (b * d)) ∧ resE (both2 a b (-c) d) (qe (a * d + -c * b) (b * d)) = resE (both2 a b c d) (qe (a * d + -c * b) (b * d)) by
    rw [both2_yes hv hv2, both2_yes hv (valid_neg hv2)]
    exact ⟨rfl, rfl, rfl⟩)
  clear e0 e1
  go_enter Try.func16, Try.ntmps16
  go_wp2_with fail
  refine (r_valid _ _ (by assumption) (by assumption) (by assumption) (by assumption) _).mono ?_
  rintro e w1 ⟨rfl, hb⟩
  rw [hv]
  obtain ⟨hc, hf⟩ := bcell hb
  have hz : w.heap.size + 1 + 1 < w1.heap.size := by have := hb.size; simp at this; omega
  go_wp2_with fail
  refine (r_valid _ _ (by assumption) (by assumption) (by assumption) (by assumption) _).mono ?_
  rintro e w2 ⟨rfl, hb2⟩
  rw [hv2]
  have hb3 := bTr hb hb2
  have P2 := Lib.hid (And.intro ((((Blk.newAt (w := w) (t := 26) (cs := #[.int .i64 a, .int .i64 b]) rfl).alloc _).alloc _).later hb3) (And.intro (((Blk.newAt (w := w.alloc (.cells #[.int .i64 a, .int .i64 b] 26)) (n := w.heap.size + 1) (t := 26) (cs := #[.int .i64 c, .int .i64 d]) (by simp)).alloc _).later hb3) (And.intro ((Blk.newAt (w := (w.alloc (.cells #[.int .i64 a, .int .i64 b] 26)).alloc (.cells #[.int .i64 c, .int .i64 d] 26)) (n := w.heap.size + 1 + 1) (t := 26) (cs := #[.int .i64 0, .int .i64 0]) (by simp)).later hb3) (bTr (bAl (bAl (bAl (Below.refl _ _) _) _) _) hb3))))
  clear hb hb2 hb3 hc hf hz
  obtain ⟨⟨g1, g2⟩, -, hz⟩ := P2.out.1.two
  obtain ⟨⟨g3, g4⟩, -, hz2⟩ := P2.out.2.1.two
  go_wp2_with fail
  refine (HA.out _).mono ?_
  rintro e w3 ⟨rfl, hb2⟩
  rw [HY.out.1, HY.out.2.1, HY.out.2.2]
  have PR := P2.out.2.2.1.later hb2
  obtain ⟨⟨r0, r1⟩, ⟨q0, q1⟩, hzr⟩ := PR.two
  have HBX := Lib.hid (bTr P2.out.2.2.2 hb2)
  clear PR hb2
  go_wp2
  refine bodyPost_ret (v := .tuple #[.agg #[.int .i64 (resN (both2 a b c d) (qn (a * d + -c * b) (b * d))), .int .i64 (resN (both2 a b c d) (qd (a * d + -c * b) (b * d)))], .int .i64 (resE (both2 a b c d) (qe (a * d + -c * b) (b * d)))]) (by simp [results, Try.results16, go_sem, r0, r1, hzr]) rfl ⟨rfl, ?_⟩
  exact bSt (bSt HBX.out (by simp; omega) _) (by simp; omega) _
end Go.Proofs.Ytlocgjhblcgpbaa
