/-
  Enemy whole, of the program and of the reference.
-/
import Derived.Test.YtjciniffkdadaaaIEnemy
namespace Go.Proofs.Ytjciniffkdadaaa
open Go.RowKit
set_option linter.unusedSimpArgs false
set_option linter.unusedVariables false

set_option maxRecDepth 100000 in
set_option maxHeartbeats 4000000 in
theorem enemy_any (p q : IPtr) (x y : Itm) (w : World) (hs : ItmIn w w.heap.size p x) (hs2 : ItmIn w w.heap.size q y) :
    Calls Try.prog 27 #[.agg (itmC p x), .agg (itmC q y)] w fun e w' => e = .returned (.bool (eneB x y)) ∧ Below w.heap.size w w' := by
  have HB := Lib.hid (bAl (bAl (Below.refl _ w) (.cells (itmC p x) 33)) (.cells (itmC q y) 33))
  have P0 : Hid (Blk ((w.alloc (.cells (itmC p x) 33)).alloc (.cells (itmC q y) 33)) w.heap.size 33 (itmC p x)) := Lib.hid ((Blk.new _ _ _).alloc _)
  have P1 : Hid (Blk ((w.alloc (.cells (itmC p x) 33)).alloc (.cells (itmC q y) 33)) (w.heap.size + 1) 33 (itmC q y)) := Lib.hid (Blk.newAt (by simp))
  have HC := Lib.hid (fun W (hb : Below w.heap.size w W) => icheck_any p x W (hs.later hb))
  have HD := Lib.hid (fun W (hb : Below w.heap.size w W) => icheck_any q y W (hs2.later hb))
  have HE0 := Lib.hid (fun (hx : x.chk = 0) W (hb : Below w.heap.size w W) => contains_int p.o2 x.nE p.c2 _ x.E y.id W (hs.later hb).e (by have := (Itm.ok hx).2.1.2.2; omega))
  have HF0 := Lib.hid (fun (hy : y.chk = 0) W (hb : Below w.heap.size w W) => contains_int q.o2 y.nE q.c2 _ y.E x.id W (hs2.later hb).e (by have := (Itm.ok hy).2.1.2.2; omega))
  clear hs hs2
  have X1 := Lib.hid (fun h => ene_x (x := x) (y := y) h)
  have X2 := Lib.hid (fun hx h => ene_y (x := x) (y := y) hx h)
  have X3 := Lib.hid (fun hx hy h => ene_id (x := x) (y := y) hx hy h)
  have X4 := Lib.hid (fun hx hy => ene_all (x := x) (y := y) hx hy)
  generalize eneB x y = z at X1 X2 X3 X4 ⊢
  generalize hasE x.E y.id x.nE = ba at X4 HE0
  generalize hasE y.E x.id y.nE = bb at X4 HF0
  unfold itmC at HB P0 P1 HC HD ⊢
  by_cases hx : x.chk = 0
  · by_cases hy : y.chk = 0
    · have HE := Lib.hid (HE0.out hx)
      have HF := Lib.hid (HF0.out hy)
      have HZ := Lib.hid (X4.out hx hy)
      replace X3 := Lib.hid (X3.out hx hy)
      rw [hx] at HC
      rw [hy] at HD
      clear hx hy HE0 HF0 X1 X2 X4
      clear X3
      cases ba
      all_goals
        go_enter Try.func27, Try.ntmps27
        go_wp2_with (first | (go_at_call 19; first | (refine (HC.out _ HB.out).mono ?_; rintro e w5 ⟨rfl, hb⟩; have HB5 := Lib.hid (bTr HB.out hb); have P5 := Lib.hid (P0.out.later hb); have R5 := Lib.hid (P1.out.later hb); clear hb HC; have a0 := P5.out.cell 0; have a1 := P5.out.cell 1; have a2 := P5.out.cell 2; have a3 := P5.out.cell 3; have a4 := P5.out.cell 4; have b0 := R5.out.cell 0; have b1 := R5.out.cell 1; have b2 := R5.out.cell 2; have b3 := R5.out.cell 3; have b4 := R5.out.cell 4) | (refine (HD.out _ HB5.out).mono ?_; rintro e w6 ⟨rfl, hb⟩; have HB6 := Lib.hid (bTr HB5.out hb); have P6 := Lib.hid (P5.out.later hb); have R6 := Lib.hid (R5.out.later hb); clear hb HD; have c0 := P6.out.cell 0; have c1 := P6.out.cell 1; have c2 := P6.out.cell 2; have c3 := P6.out.cell 3; have c4 := P6.out.cell 4; have d0 := R6.out.cell 0; have d1 := R6.out.cell 1; have d2 := R6.out.cell 2; have d3 := R6.out.cell 3; have d4 := R6.out.cell 4)) | (go_at_call 48; first | (refine (HE.out _ HB6.out).mono ?_; rintro e w' ⟨rfl, hw'⟩; obtain rfl := hw'.symm; clear HE) | (refine (HF.out _ HB6.out).mono ?_; rintro e w' ⟨rfl, hw'⟩; obtain rfl := hw'.symm; clear HF)))
        go_ret
        exact ⟨retB (by rw [HZ.out]; simp), HB6.out⟩
    · have HZ := Lib.hid (X2.out hx hy)
      rw [hx] at HC
      clear hx X1 X2 X3 X4 HE0 HF0
      generalize y.chk = t at HD hy
      have ht : (t != 0) = true := by rw [bne_iff_ne]; exact hy
      have ht' : (t == 0) = false := by rw [beq_eq_false_iff_ne]; exact hy
      clear hy
      go_enter Try.func27, Try.ntmps27
      go_wp2_with (first | (go_at_call 19; first | (refine (HC.out _ HB.out).mono ?_; rintro e w5 ⟨rfl, hb⟩; have HB5 := Lib.hid (bTr HB.out hb); have P5 := Lib.hid (P0.out.later hb); have R5 := Lib.hid (P1.out.later hb); clear hb HC; have a0 := P5.out.cell 0; have a1 := P5.out.cell 1; have a2 := P5.out.cell 2; have a3 := P5.out.cell 3; have a4 := P5.out.cell 4; have b0 := R5.out.cell 0; have b1 := R5.out.cell 1; have b2 := R5.out.cell 2; have b3 := R5.out.cell 3; have b4 := R5.out.cell 4) | (refine (HD.out _ HB5.out).mono ?_; rintro e w6 ⟨rfl, hb⟩; have HB6 := Lib.hid (bTr HB5.out hb); have P6 := Lib.hid (P5.out.later hb); have R6 := Lib.hid (R5.out.later hb); clear hb HD; have c0 := P6.out.cell 0; have c1 := P6.out.cell 1; have c2 := P6.out.cell 2; have c3 := P6.out.cell 3; have c4 := P6.out.cell 4; have d0 := R6.out.cell 0; have d1 := R6.out.cell 1; have d2 := R6.out.cell 2; have d3 := R6.out.cell 3; have d4 := R6.out.cell 4)))
      go_ret
      exact ⟨retB HZ.out.symm, HB6.out⟩
  · have HZ := Lib.hid (X1.out hx)
    clear X1 X2 X3 X4 HE0 HF0 HD
    generalize x.chk = t at HC hx
    have ht : (t != 0) = true := by rw [bne_iff_ne]; exact hx
    have ht' : (t == 0) = false := by rw [beq_eq_false_iff_ne]; exact hx
    clear hx
    go_enter Try.func27, Try.ntmps27
    go_wp2_with (first | (go_at_call 19; first | (refine (HC.out _ HB.out).mono ?_; rintro e w5 ⟨rfl, hb⟩; have HB5 := Lib.hid (bTr HB.out hb); have P5 := Lib.hid (P0.out.later hb); have R5 := Lib.hid (P1.out.later hb); clear hb HC; have a0 := P5.out.cell 0; have a1 := P5.out.cell 1; have a2 := P5.out.cell 2; have a3 := P5.out.cell 3; have a4 := P5.out.cell 4; have b0 := R5.out.cell 0; have b1 := R5.out.cell 1; have b2 := R5.out.cell 2; have b3 := R5.out.cell 3; have b4 := R5.out.cell 4) | (refine (HD.out _ HB5.out).mono ?_; rintro e w6 ⟨rfl, hb⟩; have HB6 := Lib.hid (bTr HB5.out hb); have P6 := Lib.hid (P5.out.later hb); have R6 := Lib.hid (R5.out.later hb); clear hb HD; have c0 := P6.out.cell 0; have c1 := P6.out.cell 1; have c2 := P6.out.cell 2; have c3 := P6.out.cell 3; have c4 := P6.out.cell 4; have d0 := R6.out.cell 0; have d1 := R6.out.cell 1; have d2 := R6.out.cell 2; have d3 := R6.out.cell 3; have d4 := R6.out.cell 4)))
    go_ret
    exact ⟨retB HZ.out.symm, HB5.out⟩
set_option maxRecDepth 100000 in
set_option maxHeartbeats 4000000 in
theorem renemy_any (p q : IPtr) (x y : Itm) (w : World) (hs : ItmIn w w.heap.size p x) (hs2 : ItmIn w w.heap.size q y) :
    Calls Try.prog 28 #[.agg (itmC p x), .agg (itmC q y)] w fun e w' => e = .returned (.bool (eneB x y)) ∧ Below w.heap.size w w' := by
  have HB := Lib.hid (bAl (bAl (Below.refl _ w) (.cells (itmC p x) 33)) (.cells (itmC q y) 33))
  have P0 : Hid (Blk ((w.alloc (.cells (itmC p x) 33)).alloc (.cells (itmC q y) 33)) w.heap.size 33 (itmC p x)) := Lib.hid ((Blk.new _ _ _).alloc _)
  have P1 : Hid (Blk ((w.alloc (.cells (itmC p x) 33)).alloc (.cells (itmC q y) 33)) (w.heap.size + 1) 33 (itmC q y)) := Lib.hid (Blk.newAt (by simp))
  have HC := Lib.hid (fun W (hb : Below w.heap.size w W) => rcheck_any p x W (hs.later hb))
  have HD := Lib.hid (fun W (hb : Below w.heap.size w W) => rcheck_any q y W (hs2.later hb))
  have HE0 := Lib.hid (fun (hx : x.chk = 0) W (hb : Below w.heap.size w W) => rhas_any p.o2 x.nE p.c2 _ x.E y.id W (hs.later hb).e (by have := (Itm.ok hx).2.1.2.2; omega))
  have HF0 := Lib.hid (fun (hy : y.chk = 0) W (hb : Below w.heap.size w W) => rhas_any q.o2 y.nE q.c2 _ y.E x.id W (hs2.later hb).e (by have := (Itm.ok hy).2.1.2.2; omega))
  clear hs hs2
  have X1 := Lib.hid (fun h => ene_x (x := x) (y := y) h)
  have X2 := Lib.hid (fun hx h => ene_y (x := x) (y := y) hx h)
  have X3 := Lib.hid (fun hx hy h => ene_id (x := x) (y := y) hx hy h)
  have X4 := Lib.hid (fun hx hy => ene_all (x := x) (y := y) hx hy)
  generalize eneB x y = z at X1 X2 X3 X4 ⊢
  generalize hasE x.E y.id x.nE = ba at X4 HE0
  generalize hasE y.E x.id y.nE = bb at X4 HF0
  unfold itmC at HB P0 P1 HC HD ⊢
  by_cases hx : x.chk = 0
  · by_cases hy : y.chk = 0
    · have HE := Lib.hid (HE0.out hx)
      have HF := Lib.hid (HF0.out hy)
      have HZ := Lib.hid (X4.out hx hy)
      replace X3 := Lib.hid (X3.out hx hy)
      rw [hx] at HC
      rw [hy] at HD
      clear hx hy HE0 HF0 X1 X2 X4
      by_cases hid : x.id = y.id
      · have HZ2 := Lib.hid (X3.out hid)
        have hid' : (x.id != y.id) = false := by rw [hid]; simp
        clear hid X3 HE HF HZ
        go_enter Try.func28, Try.ntmps28
        go_wp2_with (first | (go_at_call 20; first | (refine (HC.out _ HB.out).mono ?_; rintro e w5 ⟨rfl, hb⟩; have HB5 := Lib.hid (bTr HB.out hb); have P5 := Lib.hid (P0.out.later hb); have R5 := Lib.hid (P1.out.later hb); clear hb HC; have a0 := P5.out.cell 0; have a1 := P5.out.cell 1; have a2 := P5.out.cell 2; have a3 := P5.out.cell 3; have a4 := P5.out.cell 4; have b0 := R5.out.cell 0; have b1 := R5.out.cell 1; have b2 := R5.out.cell 2; have b3 := R5.out.cell 3; have b4 := R5.out.cell 4) | (refine (HD.out _ HB5.out).mono ?_; rintro e w6 ⟨rfl, hb⟩; have HB6 := Lib.hid (bTr HB5.out hb); have P6 := Lib.hid (P5.out.later hb); have R6 := Lib.hid (R5.out.later hb); clear hb HD; have c0 := P6.out.cell 0; have c1 := P6.out.cell 1; have c2 := P6.out.cell 2; have c3 := P6.out.cell 3; have c4 := P6.out.cell 4; have d0 := R6.out.cell 0; have d1 := R6.out.cell 1; have d2 := R6.out.cell 2; have d3 := R6.out.cell 3; have d4 := R6.out.cell 4)))
        go_ret
        exact ⟨retB HZ2.out.symm, HB6.out⟩
      · have hid' : (x.id != y.id) = true := by rw [bne_iff_ne]; exact hid
        clear hid X3
        cases ba
        all_goals
          go_enter Try.func28, Try.ntmps28
          go_wp2_with (first | (go_at_call 20; first | (refine (HC.out _ HB.out).mono ?_; rintro e w5 ⟨rfl, hb⟩; have HB5 := Lib.hid (bTr HB.out hb); have P5 := Lib.hid (P0.out.later hb); have R5 := Lib.hid (P1.out.later hb); clear hb HC; have a0 := P5.out.cell 0; have a1 := P5.out.cell 1; have a2 := P5.out.cell 2; have a3 := P5.out.cell 3; have a4 := P5.out.cell 4; have b0 := R5.out.cell 0; have b1 := R5.out.cell 1; have b2 := R5.out.cell 2; have b3 := R5.out.cell 3; have b4 := R5.out.cell 4) | (refine (HD.out _ HB5.out).mono ?_; rintro e w6 ⟨rfl, hb⟩; have HB6 := Lib.hid (bTr HB5.out hb); have P6 := Lib.hid (P5.out.later hb); have R6 := Lib.hid (R5.out.later hb); clear hb HD; have c0 := P6.out.cell 0; have c1 := P6.out.cell 1; have c2 := P6.out.cell 2; have c3 := P6.out.cell 3; have c4 := P6.out.cell 4; have d0 := R6.out.cell 0; have d1 := R6.out.cell 1; have d2 := R6.out.cell 2; have d3 := R6.out.cell 3; have d4 := R6.out.cell 4)) | (go_at_call 49; first | (refine (HE.out _ HB6.out).mono ?_; rintro e w' ⟨rfl, hw'⟩; obtain rfl := hw'.symm; clear HE) | (refine (HF.out _ HB6.out).mono ?_; rintro e w' ⟨rfl, hw'⟩; obtain rfl := hw'.symm; clear HF)))
          go_ret
          exact ⟨retB (by rw [HZ.out]; simp), HB6.out⟩
    · have HZ := Lib.hid (X2.out hx hy)
      rw [hx] at HC
      clear hx X1 X2 X3 X4 HE0 HF0
      generalize y.chk = t at HD hy
      have ht : (t != 0) = true := by rw [bne_iff_ne]; exact hy
      have ht' : (t == 0) = false := by rw [beq_eq_false_iff_ne]; exact hy
      clear hy
      go_enter Try.func28, Try.ntmps28
      go_wp2_with (first | (go_at_call 20; first | (refine (HC.out _ HB.out).mono ?_; rintro e w5 ⟨rfl, hb⟩; have HB5 := Lib.hid (bTr HB.out hb); have P5 := Lib.hid (P0.out.later hb); have R5 := Lib.hid (P1.out.later hb); clear hb HC; have a0 := P5.out.cell 0; have a1 := P5.out.cell 1; have a2 := P5.out.cell 2; have a3 := P5.out.cell 3; have a4 := P5.out.cell 4; have b0 := R5.out.cell 0; have b1 := R5.out.cell 1; have b2 := R5.out.cell 2; have b3 := R5.out.cell 3; have b4 := R5.out.cell 4) | (refine (HD.out _ HB5.out).mono ?_; rintro e w6 ⟨rfl, hb⟩; have HB6 := Lib.hid (bTr HB5.out hb); have P6 := Lib.hid (P5.out.later hb); have R6 := Lib.hid (R5.out.later hb); clear hb HD; have c0 := P6.out.cell 0; have c1 := P6.out.cell 1; have c2 := P6.out.cell 2; have c3 := P6.out.cell 3; have c4 := P6.out.cell 4; have d0 := R6.out.cell 0; have d1 := R6.out.cell 1; have d2 := R6.out.cell 2; have d3 := R6.out.cell 3; have d4 := R6.out.cell 4)))
      go_ret
      exact ⟨retB HZ.out.symm, HB6.out⟩
  · have HZ := Lib.hid (X1.out hx)
    clear X1 X2 X3 X4 HE0 HF0 HD
    generalize x.chk = t at HC hx
    have ht : (t != 0) = true := by rw [bne_iff_ne]; exact hx
    have ht' : (t == 0) = false := by rw [beq_eq_false_iff_ne]; exact hx
    clear hx
    go_enter Try.func28, Try.ntmps28
    go_wp2_with (first | (go_at_call 20; first | (refine (HC.out _ HB.out).mono ?_; rintro e w5 ⟨rfl, hb⟩; have HB5 := Lib.hid (bTr HB.out hb); have P5 := Lib.hid (P0.out.later hb); have R5 := Lib.hid (P1.out.later hb); clear hb HC; have a0 := P5.out.cell 0; have a1 := P5.out.cell 1; have a2 := P5.out.cell 2; have a3 := P5.out.cell 3; have a4 := P5.out.cell 4; have b0 := R5.out.cell 0; have b1 := R5.out.cell 1; have b2 := R5.out.cell 2; have b3 := R5.out.cell 3; have b4 := R5.out.cell 4) | (refine (HD.out _ HB5.out).mono ?_; rintro e w6 ⟨rfl, hb⟩; have HB6 := Lib.hid (bTr HB5.out hb); have P6 := Lib.hid (P5.out.later hb); have R6 := Lib.hid (R5.out.later hb); clear hb HD; have c0 := P6.out.cell 0; have c1 := P6.out.cell 1; have c2 := P6.out.cell 2; have c3 := P6.out.cell 3; have c4 := P6.out.cell 4; have d0 := R6.out.cell 0; have d1 := R6.out.cell 1; have d2 := R6.out.cell 2; have d3 := R6.out.cell 3; have d4 := R6.out.cell 4)))
    go_ret
    exact ⟨retB HZ.out.symm, HB5.out⟩
end Go.Proofs.Ytjciniffkdadaaa
