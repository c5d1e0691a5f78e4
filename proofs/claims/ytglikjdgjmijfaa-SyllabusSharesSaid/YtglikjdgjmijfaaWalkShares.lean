/-
  The walk of the statement on Share.
-/
import Derived.Test.YtglikjdgjmijfaaSKit
import Derived.Test.YtglikjdgjmijfaaSShare
namespace Go.Proofs.Ytglikjdgjmijfaa
open Go.RowKit
set_option linter.unusedSimpArgs false
set_option linter.unusedVariables false

set_option maxRecDepth 100000 in
set_option maxHeartbeats 4000000 in
theorem walkSyllabusShares (o : Option Addr) (n c : Nat) (zs : List Int) (a : Int) (w : World) (h0 : IsRow .i64 w o n c zs) (l1 : -9223372036854775808 ≤ a) (u1 : a < 9223372036854775808) :
    Calls Try.prog 7 #[.slice o n c, .int .i64 a] w fun e w' => e = .returned (.bool true) ∧ Below w.heap.size w w' := by
  obtain ⟨hr, h1, h2, h3⟩ := row_of h0
  go_enter Try.func7, Try.ntmps7
  go_wp2_with fail
  refine (tape_new hr h1 h2 h3).mono ?_
  rintro e w1 ⟨g, n9, rfl, ht1, hb1, hg⟩
  go_wp2_with fail
  refine (draw_any 6 (by omega) (by omega) ht1).mono ?_
  rintro e w2 ⟨p, lt, lo, lc, rfl, hS, _, ht2, hg2, _, _, _, _, _⟩
  have HB2 := Lib.hid (hb1.trans (bGr hg2 hg hb1.size))
  generalize sylOf lt lo lc = S at hS ⊢
  have hb3 := bAl (Below.refl _ w2) (.cells (sylC p S) 27)
  have P3 := Lib.hid (Blk.new w2 27 (sylC p S))
  have HS3 := Lib.hid (hS.later hb3)
  have HB3 := Lib.hid (bAl HB2.out (.cells (sylC p S) 27))
  clear hr h1 h2 h3 hb1 ht1 hg hS ht2 hg2 hb3 HB2
  have HXX := Lib.hid (fun W => cut_any a 4 (by omega) (by omega) ⟨l1, u1⟩ W)
  generalize a % 4 = x at HXX
  have F1 := Lib.hid (fun W (hX : SylIn W W.heap.size p S) => share_any p S a W hX)
  have G1 := Lib.hid (fun W (hX : SylIn W W.heap.size p S) => rshare_any p S a W hX)
  have F2 := Lib.hid (fun W (hX : SylIn W W.heap.size p S) => share_any p S x W hX)
  have G2 := Lib.hid (fun W (hX : SylIn W W.heap.size p S) => rshare_any p S x W hX)
  generalize S.shr a = r1 at F1 G1
  generalize S.shr x = r2 at F2 G2
  obtain ⟨n1, d1, e1⟩ := r1
  obtain ⟨n2, d2, e2⟩ := r2
  unfold sylC at P3 HS3 HB3 F1 G1 F2 G2 ⊢
  unfold shV at F1 G1 F2 G2
  dsimp only at F1 G1 F2 G2
  go_wp2_with fail
  generalize w2.alloc _ = w3 at P3 HS3 HB3 ⊢
  generalize w2.heap.size = gs at P3 ⊢
  refine (HXX.out _).mono ?_
  rintro e w' ⟨rfl, hw'⟩
  obtain rfl := hw'
  have q0 := P3.out.cell 0
  have q1 := P3.out.cell 1
  have q2 := P3.out.cell 2
  go_wp2_with fail
  refine (F1.out w3 HS3.out).mono ?_
  rintro e y0 ⟨rfl, hb⟩
  have hbx := bTr hb (bAl (Below.refl _ y0) (.cells #[.int .i64 n1, .int .i64 d1] 50))
  have R01 := Lib.hid (Blk.new y0 50 #[.int .i64 n1, .int .i64 d1])
  have P4 := Lib.hid (P3.out.later hbx)
  have HS4 := Lib.hid (HS3.out.later hbx)
  have HB4 := Lib.hid (bTr HB3.out hbx)
  clear hb hbx P3 HS3 HB3 q0 q1 q2
  have q0 := P4.out.cell 0
  have q1 := P4.out.cell 1
  have q2 := P4.out.cell 2
  go_wp2_with fail
  generalize y0.alloc _ = x1 at P4 HS4 HB4 R01 q0 q1 q2 ⊢
  generalize y0.heap.size = g0 at R01 ⊢
  refine (G1.out x1 HS4.out).mono ?_
  rintro e y1 ⟨rfl, hb⟩
  have hbx := bTr hb (bAl (Below.refl _ y1) (.cells #[.int .i64 n1, .int .i64 d1] 50))
  have R12 := Lib.hid (Blk.new y1 50 #[.int .i64 n1, .int .i64 d1])
  have R02 := Lib.hid (R01.out.later hbx)
  clear R01
  have P5 := Lib.hid (P4.out.later hbx)
  have HS5 := Lib.hid (HS4.out.later hbx)
  have HB5 := Lib.hid (bTr HB4.out hbx)
  clear hb hbx P4 HS4 HB4 q0 q1 q2
  have q0 := P5.out.cell 0
  have q1 := P5.out.cell 1
  have q2 := P5.out.cell 2
  go_wp2_with fail
  generalize y1.alloc _ = x2 at P5 HS5 HB5 R02 R12 q0 q1 q2 ⊢
  generalize y1.heap.size = g1 at R12 ⊢
  refine (F2.out x2 HS5.out).mono ?_
  rintro e y2 ⟨rfl, hb⟩
  have hbx := bTr hb (bAl (Below.refl _ y2) (.cells #[.int .i64 n2, .int .i64 d2] 50))
  have R23 := Lib.hid (Blk.new y2 50 #[.int .i64 n2, .int .i64 d2])
  have R03 := Lib.hid (R02.out.later hbx)
  clear R02
  have R13 := Lib.hid (R12.out.later hbx)
  clear R12
  have P6 := Lib.hid (P5.out.later hbx)
  have HS6 := Lib.hid (HS5.out.later hbx)
  have HB6 := Lib.hid (bTr HB5.out hbx)
  clear hb hbx P5 HS5 HB5 q0 q1 q2
  have q0 := P6.out.cell 0
  have q1 := P6.out.cell 1
  have q2 := P6.out.cell 2
  go_wp2_with fail
  generalize y2.alloc _ = x3 at P6 HS6 HB6 R03 R13 R23 q0 q1 q2 ⊢
  generalize y2.heap.size = g2 at R23 ⊢
  refine (G2.out x3 HS6.out).mono ?_
  rintro e y3 ⟨rfl, hb⟩
  have hbx := bTr hb (bAl (Below.refl _ y3) (.cells #[.int .i64 n2, .int .i64 d2] 50))
  have R34 := Lib.hid (Blk.new y3 50 #[.int .i64 n2, .int .i64 d2])
  have R04 := Lib.hid (R03.out.later hbx)
  clear R03
  have R14 := Lib.hid (R13.out.later hbx)
  clear R13
  have R24 := Lib.hid (R23.out.later hbx)
  clear R23
  have P7 := Lib.hid (P6.out.later hbx)
  have HS7 := Lib.hid (HS6.out.later hbx)
  have HB7 := Lib.hid (bTr HB6.out hbx)
  clear hb hbx P6 HS6 HB6 q0 q1 q2
  have q0 := P7.out.cell 0
  have q1 := P7.out.cell 1
  have q2 := P7.out.cell 2
  obtain ⟨⟨a0, b0⟩, -, c0⟩ := R04.out.two
  obtain ⟨⟨a1, b1⟩, -, c1⟩ := R14.out.two
  obtain ⟨⟨a2, b2⟩, -, c2⟩ := R24.out.two
  obtain ⟨⟨a3, b3⟩, -, c3⟩ := R34.out.two
  have ht1 : (e1 == e1) = true := by simp
  have ht2 : (e2 == e2) = true := by simp
  have heq : ∀ p q W, (binOp .eql 50 (.agg #[.int .i64 p, .int .i64 q]) (.agg #[.int .i64 p, .int .i64 q])).run Try.prog W = .ok (.bool true) W := fun p q W => by rw [eqlR, decide_eq_true rfl]
  go_wp2_with fail
  refine (awake_any _).mono ?_
  rintro e w9 ⟨rfl, hb9⟩
  have HF := Lib.hid (bTr HB7.out hb9)
  clear hb9
  go_wp2_with fail
  go_ret
  exact ⟨rfl, HF.out⟩
end Go.Proofs.Ytglikjdgjmijfaa
