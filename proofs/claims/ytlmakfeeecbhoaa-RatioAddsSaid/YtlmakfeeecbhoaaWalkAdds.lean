/-
  The walk of the statement on RatioAdds.
-/
import Derived.Test.YtlmakfeeecbhoaaRAdd
import Derived.Test.YtlmakfeeecbhoaaWalkField
namespace Go.Proofs.Ytlmakfeeecbhoaa
open Go.RowKit
set_option linter.unusedSimpArgs false
set_option linter.unusedVariables false

set_option maxRecDepth 100000 in
set_option maxHeartbeats 8000000 in
theorem walkRatioAdds (o : Option Addr) (n c : Nat) (zs : List Int) (w : World) (h : IsRow .i64 w o n c zs) :
    Calls Try.prog 3 #[.slice o n c] w fun e w' => e = .returned (.bool true) ∧ Below w.heap.size w w' := by
  obtain ⟨hr, h1, h2, h3⟩ := row_of h
  clear h
  go_enter Try.func3, Try.ntmps3
  go_wp2_with fail
  refine (tape_new hr h1 h2 h3).mono ?_
  rintro e w1 ⟨g, n', rfl, ht, hb1, hg⟩
  clear hr h1 h2 h3
  go_wp2_with fail
  refine (tape_loose ht).mono ?_
  rintro e w2 ⟨a1, a2, ha, rfl, ht2, hg2⟩
  have HB2 := Lib.hid (hb1.trans (bGr hg2 hg hb1.size))
  clear ht hg2 hb1
  go_wp2_with fail
  refine (tape_loose ht2).mono ?_
  rintro e w3 ⟨b1, b2, hb, rfl, ht3, hg3⟩
  have HB3 := Lib.hid (HB2.out.trans (bGr hg3 hg HB2.out.size))
  clear ht2 ht3 hg3 HB2 hg
  have Cxp := Lib.hid (fun w => ratio_add a1 a2 b1 b2 ha.1 ha.2 hb.1 hb.2 w)
  have Cxr := Lib.hid (fun w => r_add a1 a2 b1 b2 ha.1 ha.2 hb.1 hb.2 w)
  generalize resN (both2 a1 a2 b1 b2) (qn (a1 * b2 + b1 * a2) (a2 * b2)) = x1 at Cxp Cxr
  generalize resN (both2 a1 a2 b1 b2) (qd (a1 * b2 + b1 * a2) (a2 * b2)) = x2 at Cxp Cxr
  generalize resE (both2 a1 a2 b1 b2) (qe (a1 * b2 + b1 * a2) (a2 * b2)) = x3 at Cxp Cxr
  have Cyp := Lib.hid (fun w => ratio_sub a1 a2 b1 b2 ha.1 ha.2 hb.1 hb.2 w)
  have Cyr := Lib.hid (fun w => r_sub a1 a2 b1 b2 ha.1 ha.2 hb.1 hb.2 w)
  generalize resN (both2 a1 a2 b1 b2) (qn (a1 * b2 + -b1 * a2) (a2 * b2)) = y1 at Cyp Cyr
  generalize resN (both2 a1 a2 b1 b2) (qd (a1 * b2 + -b1 * a2) (a2 * b2)) = y2 at Cyp Cyr
  generalize resE (both2 a1 a2 b1 b2) (qe (a1 * b2 + -b1 * a2) (a2 * b2)) = y3 at Cyp Cyr
  clear ha hb
  go_wp2_with fail
  refine (Cxp.out _).mono ?_
  rintro e w4 ⟨rfl, hb⟩
  have H4 := Lib.hid (((((Held.nil w3).addAt a1 a2 (n := w3.heap.size) rfl).addAt b1 b2 (n := w3.heap.size + 1) (by simp))).later hb)
  have K4 := Lib.hid ((bTr (bAl (bAl (Below.refl w3.heap.size w3) _) _) hb))
  clear hb Cxp
  obtain ⟨⟨u1, u2⟩, -, u3⟩ := H4.out.at_ (g := w3.heap.size) (p := a1) (q := a2) (by simp)
  obtain ⟨⟨v1, v2⟩, -, v3⟩ := H4.out.at_ (g := w3.heap.size + 1) (p := b1) (q := b2) (by simp)
  go_wp2_with fail
  refine (Cxr.out _).mono ?_
  rintro e w5 ⟨rfl, hb⟩
  have H5 := Lib.hid ((H4.out.add x1 x2).later hb)
  have K5 := Lib.hid (bTr (bAl K4.out _) hb)
  clear hb Cxr u1 u2 u3 v1 v2 v3 H4 K4
  obtain ⟨⟨u1, u2⟩, -, u3⟩ := H5.out.at_ (g := w3.heap.size) (p := a1) (q := a2) (by simp)
  obtain ⟨⟨v1, v2⟩, -, v3⟩ := H5.out.at_ (g := w3.heap.size + 1) (p := b1) (q := b2) (by simp)
  go_wp2_with fail
  refine (Cyp.out _).mono ?_
  rintro e w6 ⟨rfl, hb⟩
  have H6 := Lib.hid ((H5.out.add x1 x2).later hb)
  have K6 := Lib.hid (bTr (bAl K5.out _) hb)
  clear hb Cyp u1 u2 u3 v1 v2 v3 H5 K5
  obtain ⟨⟨u1, u2⟩, -, u3⟩ := H6.out.at_ (g := w3.heap.size) (p := a1) (q := a2) (by simp)
  obtain ⟨⟨v1, v2⟩, -, v3⟩ := H6.out.at_ (g := w3.heap.size + 1) (p := b1) (q := b2) (by simp)
  go_wp2_with fail
  refine (Cyr.out _).mono ?_
  rintro e w7 ⟨rfl, hb⟩
  have H7 := Lib.hid ((H6.out.add y1 y2).later hb)
  have K7 := Lib.hid (bTr (bAl K6.out _) hb)
  clear hb Cyr u1 u2 u3 v1 v2 v3 H6 K6
  have heq : ∀ p q W, (binOp .eql 26 (.agg #[.int .i64 p, .int .i64 q]) (.agg #[.int .i64 p, .int .i64 q])).run Try.prog W = .ok (.bool true) W := fun p q W => by rw [eqlR, decide_eq_true rfl]
  obtain ⟨⟨s1, s2⟩, -, s3⟩ := H7.out.at_ (g := w4.heap.size) (p := x1) (q := x2) (by simp)
  obtain ⟨⟨t1, t2⟩, -, t3⟩ := H7.out.at_ (g := w5.heap.size) (p := x1) (q := x2) (by simp)
  obtain ⟨⟨p1, p2⟩, -, p3⟩ := H7.out.at_ (g := w6.heap.size) (p := y1) (q := y2) (by simp)
  have HBB := Lib.hid (HB3.out.trans ((bAl K7.out (Obj.cells #[.int .i64 y1, .int .i64 y2] 26)).mono HB3.out.size))
  clear H7 K7 HB3
  go_wp2_with fail
  refine (awake_any _).mono ?_
  rintro e w8 ⟨rfl, hb⟩
  have HE := Lib.hid (HBB.out.trans (hb.mono HBB.out.size))
  clear hb
  go_wp2
  go_ret
  exact ⟨rfl, HE.out⟩
end Go.Proofs.Ytlmakfeeecbhoaa
