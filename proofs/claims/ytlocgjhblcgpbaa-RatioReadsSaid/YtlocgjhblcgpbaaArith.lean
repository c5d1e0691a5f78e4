/-
  Contracts of Add, Sub, Mul and Div of package ratio.
-/
import Derived.Test.YtlocgjhblcgpbaaQMath
import Derived.Test.YtlocgjhblcgpbaaNew
import Derived.Deep.RegionHeld3
import Derived.Deep.QuietTactic
import Derived.BigQuiet
import Derived.Deep.DeepCutAuto
import Derived.Deep.CutBlock
namespace Go.Proofs.Ytlocgjhblcgpbaa
open Go.RowKit
set_option linter.unusedSimpArgs false
set_option linter.unusedVariables false

theorem wrap_i64 (g : Int) (h0 : 0 ≤ g) (h1 : g ≤ 1152921504606846976) : wrap64 g = g := by unfold wrap64; omega
theorem alloc_swap {w : World} {o1 o2 : Obj} {a : Addr} {v : Value} (ha : a.block < w.heap.size) (h : (w.alloc o1).cell? a = some v) : (w.alloc o2).cell? a = some v := by
  rw [World.cell?_alloc_lt _ _ _ ha] at h ⊢
  exact h
theorem lt_alloc {a : Nat} {w : World} {o : Obj} (h : a < w.heap.size) : a < (w.alloc o).heap.size := by simp; omega
theorem Blk.newD (w : World) (t : TypeId) (cs : Array Value) : Blk (w.drew.alloc (.cells cs t)) w.heap.size t cs := Blk.new w.drew t cs
/-- a struct of two words made since world w3, all that lay there as it was -/
def NumP (w3 : World) (t : TypeId) (x y : Value) (s : Value) (wx : World) : Prop := ∃ g : Nat, s = .pointer (some ⟨g, 0, none⟩) ∧ w3.heap.size ≤ g ∧ Blk wx g t #[x, y] ∧ Below w3.heap.size w3 wx
theorem bSt2 {a w : World} {B : Nat} (h : Below B a w) {p q : Addr} (hp : B ≤ p.block) (hq : B ≤ q.block) (u v : Value) : Below B a ((w.setCell p u).setCell q v) := (h.setCell hp u).setCell hq v
theorem quot_q (z d f : Int) (h0 : 0 < d) (h1 : 0 < f) : rnum (decide (z < 0)) z.natAbs (d.natAbs * f.natAbs) = qn z (d * f) ∧ rden z.natAbs (d.natAbs * f.natAbs) = qd z (d * f) ∧ rerr z.natAbs (d.natAbs * f.natAbs) = qe z (d * f) := by
  unfold qn qd qe
  rw [Int.natAbs_mul]
  exact ⟨rfl, rfl, rfl⟩
set_option maxRecDepth 100000 in
set_option maxHeartbeats 4000000 in
theorem add_yes (a b c d : Int) (hv : Frac.valid a b = true) (hv2 : Frac.valid c d = true) (w : World) :
    Calls Try.prog 13 #[.agg #[.int .i64 a, .int .i64 b], .agg #[.int .i64 c, .int .i64 d]] w fun e w' => e = .returned (.tuple #[.agg #[.int .i64 (qn (a * d + c * b) (b * d)), .int .i64 (qd (a * d + c * b) (b * d))], .int .i64 (qe (a * d + c * b) (b * d))]) ∧ Below w.heap.size w w' := by
  obtain ⟨b0, b1, a0, a1, hab⟩ := (valid_iff a b).1 hv
  obtain ⟨d0, d1, c0, c1, hcd⟩ := (valid_iff c d).1 hv2
  obtain ⟨g, hg⟩ : ∃ g : Int, ((Nat.gcd b.natAbs d.natAbs : Nat) : Int) = g := ⟨_, rfl⟩
  obtain ⟨s1, s2, g0, x0, x1, y0, y1⟩ := add_scale a b c d g (by omega) (by omega) hg
  have hco := add_coprime a b c d g hab (by omega) (by omega) hg
  go_enter Try.func13, Try.ntmps13
  go_wp2_with fail
  refine (valid_any _ _ (by omega) (by omega) (by omega) (by omega) _).mono ?_
  rintro e w1 ⟨rfl, hb⟩
  rw [hv]
  obtain ⟨hc, hf⟩ := bcell hb
  have hz : w.heap.size + 1 + 1 < w1.heap.size := by have := hb.size; simp at this; omega
  go_wp2_with fail
  refine (valid_any _ _ (by omega) (by omega) (by omega) (by omega) _).mono ?_
  rintro e w2 ⟨rfl, hb2⟩
  rw [hv2]
  have hb3 := bTr hb hb2
  have P2 := Lib.hid (And.intro ((((Blk.newAt (w := w) (t := 26) (cs := #[.int .i64 a, .int .i64 b]) rfl).alloc _).alloc _).later hb3) (And.intro (((Blk.newAt (w := w.alloc (.cells #[.int .i64 a, .int .i64 b] 26)) (n := w.heap.size + 1) (t := 26) (cs := #[.int .i64 c, .int .i64 d]) (by simp)).alloc _).later hb3) (And.intro ((Blk.newAt (w := (w.alloc (.cells #[.int .i64 a, .int .i64 b] 26)).alloc (.cells #[.int .i64 c, .int .i64 d] 26)) (n := w.heap.size + 1 + 1) (t := 26) (cs := #[.int .i64 0, .int .i64 0]) (by simp)).later hb3) (bTr (bAl (bAl (bAl (Below.refl _ _) _) _) _) hb3))))
  clear hb hb2 hb3 hc hf hz
  obtain ⟨⟨e1, e2⟩, -, hz⟩ := P2.out.1.two
  obtain ⟨⟨e3, e4⟩, -, hz2⟩ := P2.out.2.1.two
  have hgb : g ≤ b := by rw [← hg]; have := Nat.gcd_le_left d.natAbs (show 0 < b.natAbs by omega); omega
  have hgw : wrap64 g = g := wrap_i64 g (by omega) (by omega)
  have HG := Lib.hid hg
  have HW := Lib.hid hgw
  have HCO := Lib.hid hco
  have HQ : Hid (rnum (decide (a * (d / g) + c * (b / g) < 0)) (a * (d / g) + c * (b / g)).natAbs (d.natAbs * (b / g).natAbs) = qn (a * d + c * b) (b * d) ∧ rden (a * (d / g) + c * (b / g)).natAbs (d.natAbs * (b / g).natAbs) = qd (a * d + c * b) (b * d) ∧ rerr (a * (d / g) + c * (b / g)).natAbs (d.natAbs * (b / g).natAbs) = qe (a * d + c * b) (b * d)) := by
    obtain ⟨q1, q2, q3⟩ := quot_q (a * (d / g) + c * (b / g)) d (b / g) (by omega) (by omega)
    obtain ⟨t1, t2, t3⟩ := q_scale g (a * (d / g) + c * (b / g)) (d * (b / g)) g0
    rw [s1, s2] at t1 t2 t3
    exact ⟨q1.trans t1.symm, q2.trans t2.symm, q3.trans t3.symm⟩
  clear hg hgw hco s1 s2 hab hcd
  go_wp2_with fail
  go_quiet ((first | (go_at_call 45; exact qSame (magnitude_any _ (by omega) (by omega) _)) | (go_at_call 44; exact Calls.quiet_of (gcd_any _ _ (by omega) (by omega) _))))
  rw [HG.out, HW.out]
  have P3 := Lib.hid (And.intro (P2.out.1.drewN nq) (And.intro (P2.out.2.1.drewN nq) (And.intro (P2.out.2.2.1.drewN nq) (bDr P2.out.2.2.2 nq))))
  clear e1 e2 e3 e4 hz hz2 P2
  generalize w2.drewN nq = w3 at P3 ⊢
  have KEEP := Lib.hid (show ∀ W, Below w3.heap.size w3 W → _ from fun W hW => show (W.cell? ⟨w.heap.size, 0, none⟩ = some (.int .i64 a) ∧ W.cell? ⟨w.heap.size, 1, none⟩ = some (.int .i64 b) ∧ W.cell? ⟨w.heap.size + 1, 0, none⟩ = some (.int .i64 c) ∧ W.cell? ⟨w.heap.size + 1, 1, none⟩ = some (.int .i64 d)) from ⟨((P3.out.1.later hW).two).1.1, ((P3.out.1.later hW).two).1.2, ((P3.out.2.1.later hW).two).1.1, ((P3.out.2.1.later hW).two).1.2⟩)
  obtain ⟨⟨e1, e2⟩, -, hz⟩ := P3.out.1.two
  obtain ⟨⟨e3, e4⟩, -, hz2⟩ := P3.out.2.1.two
  have HX := Lib.hid (Below.refl w3.heap.size w3)
  have hgn : ¬ g = 0 := by omega
  have hx := Rep.hi_bd (a * (d / g))
  have hy := Rep.lo_bd (a * (d / g))
  have kx := Rep.hi_bd (c * (b / g))
  have ky := Rep.lo_bd (c * (b / g))
  have HH := Lib.hid (Rep.hi_congr_add (a * (d / g)) (c * (b / g)))
  have HL := Lib.hid (Rep.lo_congr_add (a * (d / g)) (c * (b / g)))
  have pb : -9223372036854775808 ≤ d / g ∧ d / g < 9223372036854775808 ∧ -9223372036854775808 ≤ b / g ∧ b / g < 9223372036854775808 ∧ -9223372036854775808 ≤ a ∧ a < 9223372036854775808 ∧ -9223372036854775808 ≤ c ∧ c < 9223372036854775808 := by omega
  obtain ⟨pb1, pb2, pb3, pb4, pb5, pb6, pb7, pb8⟩ := pb
  have t1 : IntKind.i64.wrap (d.tdiv g) = d / g := IntWalk.i64_quo d g ⟨by omega, by omega, by omega⟩
  have t2 : IntKind.i64.wrap (b.tdiv g) = b / g := IntWalk.i64_quo b g ⟨by omega, by omega, by omega⟩
  have hzl : -170141183460469231731687303715884105728 < a * (d / g) + c * (b / g) ∧ a * (d / g) + c * (b / g) < 170141183460469231731687303715884105728 := by
    have u1 := abs_mul_le (x := a) (y := d / g) (A := 1152921504606846976) (B := 1152921504606846976) (by omega) (by omega)
    have u2 := abs_mul_le (x := c) (y := b / g) (A := 1152921504606846976) (B := 1152921504606846976) (by omega) (by omega)
    omega
  go_upto_region 4 with (fail)
  go_cut [7] (fun s7 wx => NumP w3 60 (.int .u64 (Rep.hi (a * (d / g) + c * (b / g)))) (.int .u64 (Rep.lo (a * (d / g) + c * (b / g)))) s7 wx)
  case first =>
    go_wp2_with fail
    go_region_held3 (fun w' => w'.cell? ⟨w.heap.size, 0, none⟩ = some (.int .i64 a) ∧ w'.cell? ⟨w.heap.size, 1, none⟩ = some (.int .i64 b) ∧ w'.cell? ⟨w.heap.size + 1, 0, none⟩ = some (.int .i64 c) ∧ w'.cell? ⟨w.heap.size + 1, 1, none⟩ = some (.int .i64 d)) (first | exact KEEP.out _ HX.out | exact KEEP.out _ (bD1 HX.out) | exact KEEP.out _ (bAl HX.out _) | exact KEEP.out _ (bAl (bD1 HX.out) _) | exact KEEP.out _ (bD1 (bAl HX.out _)) | exact KEEP.out _ (bSt2 HX.out PN.out.2 PN.out.2 _ _) | exact KEEP.out _ (bD1 (bSt2 HX.out PN.out.2 PN.out.2 _ _)) | go_keep)
      (first | (go_at_call 46; refine (product_any _ _ _ ?_ ?_ ?_ ?_).mono ?_; (assumption); (assumption); (assumption); (assumption); rintro e w' ⟨rfl, hb⟩; (first | (have PN := Lib.hid (And.intro (Blk.later (Blk.newD _ _ _) hb) HX.out.size)) | (have PN := Lib.hid (And.intro (Blk.later (Blk.new _ _ _) hb) HX.out.size)) | (have PN := Lib.hid (And.intro (Blk.later PN.out.1 hb) PN.out.2)) | skip); (first | (obtain ⟨⟨n0, n1⟩, ⟨m0, m1⟩, nk⟩ := PN.out.1.two) | skip); have HX := Lib.hid (bTr (by first | exact HX.out | exact bD1 HX.out | exact bAl HX.out _ | exact bD1 (bAl HX.out _) | exact bAl (bD1 HX.out) _) hb)) | (go_at_call 47; refine (plus_any _ _ _ _ _ hx.1 hy.1 kx.1 ky.1 hx.2 hy.2 kx.2 ky.2).mono ?_; rintro e w' ⟨rfl, hb⟩; rw [HH.out, HL.out]; (first | (have PN := Lib.hid (And.intro (Blk.later (Blk.newD _ _ _) hb) HX.out.size)) | (have PN := Lib.hid (And.intro (Blk.later (Blk.new _ _ _) hb) HX.out.size)) | (have PN := Lib.hid (And.intro (Blk.later PN.out.1 hb) PN.out.2)) | skip); (first | (obtain ⟨⟨n0, n1⟩, ⟨m0, m1⟩, nk⟩ := PN.out.1.two) | skip); have HX := Lib.hid (bTr (by first | exact HX.out | exact bD1 HX.out | exact bAl HX.out _ | exact bD1 (bAl HX.out _) | exact bAl (bD1 HX.out) _) hb)))
    all_goals (go_wp2_with fail; go_meet)
    all_goals (first | exact ⟨_, rfl, HX.out.size, Blk.new _ _ _, bAl HX.out _⟩ | exact ⟨_, rfl, PN.out.2, (PN.out.1.set0 _).set1 _, bSt2 HX.out PN.out.2 PN.out.2 _ _⟩)
  case rest =>
    have hgr0 := P3.out.2.2.1.lt
    clear HX
    obtain ⟨g7, rfl, hg7, hn7, hx7⟩ := hcut
    have P4 := Lib.hid (And.intro (P3.out.1.later hx7) (And.intro (P3.out.2.1.later hx7) (And.intro (P3.out.2.2.1.later hx7) (And.intro (bTr P3.out.2.2.2 hx7) hn7))))
    have hgr : w.heap.size + 1 + 1 < g7 := by omega
    clear P3 KEEP hn7 hx7 e1 e2 e3 e4 hz hz2
    have pd : -9223372036854775808 ≤ d ∧ d < 9223372036854775808 := by omega
    obtain ⟨pd1, pd2⟩ := pd
    have hdp : 0 < d.natAbs := by omega
    have hdq : d.natAbs < 18446744073709551616 := by omega
    have hfp : 0 < (b / g).natAbs := by omega
    have hfq : (b / g).natAbs < 18446744073709551616 := by omega
    have KEEP := Lib.hid (show ∀ W, Below wc.heap.size wc W → _ from fun W hW => show (W.cell? ⟨w.heap.size, 1, none⟩ = some (.int .i64 b) ∧ W.cell? ⟨w.heap.size + 1, 1, none⟩ = some (.int .i64 d) ∧ W.cell? ⟨g7, 0, none⟩ = some (.int .u64 (Rep.hi (a * (d / g) + c * (b / g)))) ∧ W.cell? ⟨g7, 1, none⟩ = some (.int .u64 (Rep.lo (a * (d / g) + c * (b / g))))) from ⟨((P4.out.1.later hW).two).1.2, ((P4.out.2.1.later hW).two).1.2, ((P4.out.2.2.2.2.later hW).two).1.1, ((P4.out.2.2.2.2.later hW).two).1.2⟩)
    obtain ⟨k1, k2, k3, k4⟩ := KEEP.out _ (Below.refl _ _)
    have HX := Lib.hid (Below.refl wc.heap.size wc)
    obtain ⟨⟨r0, r1⟩, ⟨q0, q1⟩, hzr⟩ := P4.out.2.2.1.two
    go_wp2_with fail
    go_region_held3 (fun w' => w'.cell? ⟨w.heap.size, 1, none⟩ = some (.int .i64 b) ∧ w'.cell? ⟨w.heap.size + 1, 1, none⟩ = some (.int .i64 d) ∧ w'.cell? ⟨g7, 0, none⟩ = some (.int .u64 (Rep.hi (a * (d / g) + c * (b / g)))) ∧ w'.cell? ⟨g7, 1, none⟩ = some (.int .u64 (Rep.lo (a * (d / g) + c * (b / g))))) (first | exact KEEP.out _ HX.out | exact KEEP.out _ (bD1 HX.out) | (go_split_ands; refine ⟨?_, ?_, ?_, ?_⟩ <;> (rw [World.cell?_setCell_other _ _ _ _ (by first | (simp; done) | (simp; omega)), World.cell?_setCell_other _ _ _ _ (by first | (simp; done) | (simp; omega))]; assumption)) | go_keep)
      (first | (go_at_call 45; refine (magnitude_any _ (by assumption) (by assumption) _).mono ?_; rintro e w' ⟨rfl, rfl⟩) | (go_at_call 48; refine (quotient_any _ _ _ _ hzl.1 hzl.2 hdp hdq hfp hfq HCO.out).mono ?_; rintro e w' ⟨rfl, hb⟩; (first | (have PN := Lib.hid (And.intro (Blk.later (Blk.newD _ _ _) hb) HX.out.size)) | (have PN := Lib.hid (And.intro (Blk.later (Blk.new _ _ _) hb) HX.out.size)) | (have PN := Lib.hid (And.intro (Blk.later PN.out.1 hb) PN.out.2)) | skip); (first | (obtain ⟨⟨n0, n1⟩, ⟨m0, m1⟩, nk⟩ := PN.out.1.two) | skip); have HX := Lib.hid (bTr (by first | exact HX.out | exact bD1 HX.out | exact bAl HX.out _ | exact bD1 (bAl HX.out _) | exact bAl (bD1 HX.out) _) hb); have PR := P4.out.2.2.1.later HX.out; obtain ⟨⟨r0, r1⟩, ⟨q0, q1⟩, hzr⟩ := PR.two; clear PR))
    go_wp2
    refine bodyPost_ret (v := .tuple #[.agg #[.int .i64 (rnum (decide (a * (d / g) + c * (b / g) < 0)) (a * (d / g) + c * (b / g)).natAbs (d.natAbs * (b / g).natAbs)), .int .i64 (rden (a * (d / g) + c * (b / g)).natAbs (d.natAbs * (b / g).natAbs))], .int .i64 (rerr (a * (d / g) + c * (b / g)).natAbs (d.natAbs * (b / g).natAbs))]) (by simp [results, Try.results13, go_sem, r0, r1, hzr]) rfl ⟨ret_quot HQ.out, ?_⟩
    exact bSt (bSt (bTr P4.out.2.2.2.1 HX.out) (by simp; omega) _) (by simp; omega) _
end Go.Proofs.Ytlocgjhblcgpbaa
