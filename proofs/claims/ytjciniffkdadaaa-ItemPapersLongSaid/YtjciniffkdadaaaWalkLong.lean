/-
  The walk of the statement on long papers.
-/
import Derived.Test.YtjciniffkdadaaaIKit
import Derived.Test.YtjciniffkdadaaaIPapD
import Derived.Test.YtjciniffkdadaaaIPap3
namespace Go.Proofs.Ytjciniffkdadaaa
open Go.RowKit
set_option linter.unusedSimpArgs false
set_option linter.unusedVariables false

structure Lx (w0 : World) (gb : Nat) (code var : Int) (v1 : Value) (lp : List Pt) (wr : World) : Prop where
  be : Below w0.heap.size w0 wr
  bx : Blk wr gb 46 #[.int .i64 code, .int .i64 var, v1]
  r1 : wr.ownsRow (gb + 1) 23 6 v1 lp.length (pCells lp)
  ln : w0.heap.size ≤ gb
section
variable {w0 : World} {gb : Nat} {code var : Int} {v1 : Value} {lp : List Pt} {wr w2 : World}
theorem Lx.later (h : Lx w0 gb code var v1 lp wr) (hb : Below wr.heap.size wr w2) : Lx w0 gb code var v1 lp w2 := ⟨bTr h.be hb, h.bx.later hb, own_later h.r1 hb, h.ln⟩
theorem Lx.alloc (h : Lx w0 gb code var v1 lp wr) (x : Obj) : Lx w0 gb code var v1 lp (wr.alloc x) := h.later (bAl (Below.refl _ _) x)
theorem Lx.drew (h : Lx w0 gb code var v1 lp wr) : Lx w0 gb code var v1 lp wr.drew := h.later (bD1 (Below.refl _ _))
theorem Lx.put1 (h : Lx w0 gb code var v1 lp wr) {v' : Value} {xs : List Pt} (hg : wr.grownBy w2 v1.ownBlock) (h3 : w2.ownsRow (gb + 1) 23 6 v' (lp.length + xs.length) (pCells lp ++ pCells xs)) :
    Lx w0 gb code var v' (lp ++ xs) (w2.setCell ⟨gb, 2, none⟩ v') := by
  have hn := h.ln
  refine ⟨bSt (h.be.grown hg h.be.size (fun j hj => by have := (h.r1.lt j hj).1; omega)) (by show _ ≤ gb; omega) _, ?_, ?_, h.ln⟩
  · have := (h.bx.grown hg (row_ne h.r1 gb (Nat.lt_succ_self _))).set_ 2 v'
    simpa using this
  · rw [List.length_append, pCells_app]
    exact ownsRow_setCell_below h3 (by show gb < _; omega) _
end
def okPp (code var : Int) (n : Nat) (P : Nat → Pt) : Bool := Ppr.okB ⟨code, var, n, P⟩
def toPp (code var : Int) (n : Nat) (P : Nat → Pt) : Int := Ppr.tot ⟨code, var, n, P⟩
theorem vp_lit (o : Option Addr) (n c : Nat) (code var : Int) (P : Nat → Pt) (w : World) (hs : RowP w w.heap.size o n P) : Calls Try.prog 30 #[.agg #[.int .i64 code, .int .i64 var, .slice o n c]] w fun e w' => e = .returned (.bool (okPp code var n P)) ∧ Below w.heap.size w w' := vpaper_any o c ⟨code, var, n, P⟩ w hs
theorem rvp_lit (o : Option Addr) (n c : Nat) (code var : Int) (P : Nat → Pt) (w : World) (hs : RowP w w.heap.size o n P) : Calls Try.prog 31 #[.agg #[.int .i64 code, .int .i64 var, .slice o n c]] w fun e w' => e = .returned (.bool (okPp code var n P)) ∧ Below w.heap.size w w' := rvpaper_any o c ⟨code, var, n, P⟩ w hs
theorem pt_lit (o : Option Addr) (n c : Nat) (code var : Int) (P : Nat → Pt) (w : World) (hs : RowP w w.heap.size o n P) : Calls Try.prog 32 #[.agg #[.int .i64 code, .int .i64 var, .slice o n c]] w fun e w' => e = .returned (.int .i64 (toPp code var n P)) ∧ Below w.heap.size w w' := ptotal_any o c ⟨code, var, n, P⟩ w hs
theorem rpt_lit (o : Option Addr) (n c : Nat) (code var : Int) (P : Nat → Pt) (w : World) (hs : RowP w w.heap.size o n P) : Calls Try.prog 33 #[.agg #[.int .i64 code, .int .i64 var, .slice o n c]] w fun e w' => e = .returned (.int .i64 (toPp code var n P)) ∧ Below w.heap.size w w' := rptotal_any o c ⟨code, var, n, P⟩ w hs
attribute [local irreducible] okPp toPp in
set_option maxRecDepth 100000 in
set_option maxHeartbeats 8000000 in
theorem walkItemPapersLong (a0 a1 a2 a3 : Int) (l0 : -9223372036854775808 ≤ a0) (u0 : a0 < 9223372036854775808) (l1 : -9223372036854775808 ≤ a1) (u1 : a1 < 9223372036854775808) (l2 : -9223372036854775808 ≤ a2) (u2 : a2 < 9223372036854775808) (l3 : -9223372036854775808 ≤ a3) (u3 : a3 < 9223372036854775808) (w : World) :
    Calls Try.prog 9 #[.int .i64 a0, .int .i64 a1, .int .i64 a2, .int .i64 a3] w fun e w' => e = .returned (.bool true) ∧ Below w.heap.size w w' := by
  obtain ⟨j0, hj0, hy0, hy1, hy2⟩ := info_parts part_info
  have HC0 := Lib.hid (cut_any a0 27 (by omega) (by omega) ⟨l0, u0⟩)
  have HC1 := Lib.hid (cut_any a1 40 (by omega) (by omega) ⟨l1, u1⟩)
  have HC2 := Lib.hid (cut_any a2 33 (by omega) (by omega) ⟨l2, u2⟩)
  have HC3 := Lib.hid (cut_any a3 5 (by omega) (by omega) ⟨l3, u3⟩)
  have hu := cut_range a0 27 (by omega)
  generalize a0 % 27 = u at HC0 hu
  generalize a1 % 40 = r1 at HC1
  generalize a2 % 33 = code at HC2
  generalize a3 % 5 = var at HC3
  obtain ⟨y, hwy⟩ : ∃ y, IntKind.i64.wrap (1 + r1) = y := ⟨_, rfl⟩
  obtain ⟨hu0, hu1⟩ := hu
  clear l0 u0 l1 u1 l2 u2 l3 u3
  go_enter Try.func9, Try.ntmps9
  go_wp2_with (go_at_call 11; first | (refine (HC2.out _).mono ?_; rintro e w' ⟨rfl, hw'⟩; obtain rfl := hw'; clear HC2) | (refine (HC3.out _).mono ?_; rintro e w' ⟨rfl, hw'⟩; obtain rfl := hw'; clear HC3) | (refine (HC0.out _).mono ?_; rintro e w' ⟨rfl, hw'⟩; obtain rfl := hw'; clear HC0))
  have S1 : Hid (Lx w w.heap.size code var (.slice none 0 0) [] (w.alloc (.cells #[.int .i64 code, .int .i64 var, .slice none 0 0] 46))) := Lib.hid
    ⟨bAl (Below.refl _ _) _, Blk.new _ _ _, World.ownsRow_nil _ _ _ _, Nat.le_refl _⟩
  generalize w.alloc _ = ws at S1 ⊢
  obtain ⟨gb, hgb⟩ : ∃ gb, w.heap.size = gb := ⟨_, rfl⟩
  have HGB := Lib.hid hgb
  have S1' : Hid (Lx w gb code var (.slice none 0 0) [] ws) := Lib.hid (by rw [← hgb]; exact S1.out)
  rw [hgb]
  clear hgb S1
  go_loopw [10] (fun i wr => ∃ (k : Nat) (v1 : Value) (lp : List Pt), i = .int .i64 (u - k) ∧ (k : Int) ≤ u ∧ Hid (lp.length = k) ∧ Hid (Lx w gb code var v1 lp wr)) (fun i _ => (intOf i).toNat)
  case atStart => exact ⟨0, _, [], by simp, by omega, Lib.hid rfl, S1'⟩
  case round =>
    clear S1'
    obtain ⟨k, v1, lp, rfl, hk, HLP, S2⟩ := hrel
    generalize hwr0 : wr = w2 at S2 ⊢
    clear hwr0
    obtain ⟨p1, q1, rfl⟩ := own_any S2.out.r1
    by_cases hku : (k : Int) < u
    · have hp : 0 < u - (k : Int) := by omega
      have b0 : w2.cell? ⟨gb, 2, none⟩ = some (.slice p1 lp.length q1) := S2.out.bx.cell 2
      have hml : lp.length + 1 ≤ maxLen ∧ (lp.length + 1) * 48 ≤ 140737488355328 := ⟨by have := HLP.out; unfold maxLen; omega, by have := HLP.out; omega⟩
      have hwk : IntKind.i64.wrap (u - (k : Int) - 1) = u - ((k + 1 : Nat) : Int) := by rw [IntKind.wrap_i64]; omega
      go_wp2_with fail
      have hH : BoxG gb 2 (.slice p1 lp.length q1) w2.drew := b0
      refine wp_region_held_tail (BoxG gb 2 (.slice p1 lp.length q1)) 9 (by kernel_rfl) (by kernel_rfl) ?_
      simp only [List.drop_succ_cons, List.drop_zero]
      refine HeadW.take (i := 0) (oi := ?oi1) (v := ?v1) ?hi1 (by kernel_rfl) ?hQ1 (Or.inl ⟨?hg1, ?hy1⟩) hH ?rest1
      case hi1 => simp only [List.getElem?_toArray, List.getElem?_cons_succ, List.getElem?_cons_zero]; rfl
      case hQ1 => exact fun _ _ _ h => h
      case hg1 => rfl
      case hy1 => intro W hSw; have s1 := hSw; unfold BoxG at s1; go_simp; try with_reducible rfl
      case rest1 =>
      try simp only [Act.put, List.setIfInBounds_toArray, List.set_cons_zero, List.set_cons_succ]
      refine HeadW.take (i := 1) (oi := ?oi2) (v := ?v2) ?hi2 (by kernel_rfl) ?hQ2 (Or.inl ⟨?hg2, ?hy2⟩) hH ?rest2
      case hi2 => simp only [List.getElem?_toArray, List.getElem?_cons_succ, List.getElem?_cons_zero]; rfl
      case hQ2 => exact fun _ _ _ h => h
      case hg2 => rfl
      case hy2 => intro W hSw; have s1 := hSw; unfold BoxG at s1; go_simp; try with_reducible rfl
      case rest2 =>
      try simp only [Act.put, List.setIfInBounds_toArray, List.set_cons_zero, List.set_cons_succ]
      refine HeadW.take (i := 2) (oi := ?oi3) (v := ?v3) ?hi3 (by kernel_rfl) ?hQ3 (Or.inl ⟨?hg3, ?hy3⟩) hH ?rest3
      case hi3 => simp only [List.getElem?_toArray, List.getElem?_cons_succ, List.getElem?_cons_zero]; rfl
      case hQ3 => exact fun _ _ _ h => h
      case hg3 => rfl
      case hy3 => intro W hSw; have s1 := hSw; unfold BoxG at s1; go_simp; try with_reducible rfl
      case rest3 =>
      try simp only [Act.put, List.setIfInBounds_toArray, List.set_cons_zero, List.set_cons_succ]
      refine HeadW.one (i := 3) (o := ?oi4) ?hi4 (by kernel_rfl) ?st4
      case hi4 => simp only [List.getElem?_toArray, List.getElem?_cons_succ, List.getElem?_cons_zero]; rfl
      case st4 =>
      intro K hK
      go_simp
      go_at_call 11
      refine (HC1.out _).mono ?_
      rintro e w' ⟨rfl, hw'⟩
      obtain rfl := hw'
      try dsimp only
      refine hK.out _ _ hH ?_
      clear hK K
      try simp only [Act.put, List.setIfInBounds_toArray, List.set_cons_zero, List.set_cons_succ]
      refine HeadW.take (i := 4) (oi := ?oi5) (v := ?v5) ?hi5 (by kernel_rfl) ?hQ5 (Or.inl ⟨?hg5, ?hy5⟩) hH ?rest5
      case hi5 => simp only [List.getElem?_toArray, List.getElem?_cons_succ, List.getElem?_cons_zero]; rfl
      case hQ5 => exact fun _ _ _ h => h
      case hg5 => rfl
      case hy5 => intro W hSw; have s1 := hSw; unfold BoxG at s1; go_simp; try with_reducible rfl
      case rest5 =>
      try simp only [Act.put, List.setIfInBounds_toArray, List.set_cons_zero, List.set_cons_succ]
      refine HeadW.take (i := 5) (oi := ?oi6) (v := ?v6) ?hi6 (by kernel_rfl) ?hQ6 (Or.inl ⟨?hg6, ?hy6⟩) hH ?rest6
      case hi6 => simp only [List.getElem?_toArray, List.getElem?_cons_succ, List.getElem?_cons_zero]; rfl
      case hQ6 => exact fun _ _ _ h => h
      case hg6 => rfl
      case hy6 => intro W hSw; have s1 := hSw; unfold BoxG at s1; go_simp; try with_reducible rfl
      case rest6 =>
      try simp only [Act.put, List.setIfInBounds_toArray, List.set_cons_zero, List.set_cons_succ]
      refine HeadW.one (i := 6) (o := ?oi7) ?hi7 (by kernel_rfl) ?st7
      case hi7 => simp only [List.getElem?_toArray, List.getElem?_cons_succ, List.getElem?_cons_zero]; rfl
      case st7 =>
      intro K hK
      go_simp
      have S4 := Lib.hid (S2.out.drew.alloc (.cells #[.int .i64 1, .int .i64 y, .int .i64 0, .int .i64 0, .int .i64 0, .int .i64 0] 23))
      clear hH
      have hH : BoxG gb 2 (.slice p1 lp.length q1) _ := S4.out.bx.cell 2
      try dsimp only
      refine hK.out _ _ hH ?_
      clear hK K
      try simp only [Act.put, List.setIfInBounds_toArray, List.set_cons_zero, List.set_cons_succ]
      refine HeadW.one (i := 7) (o := ?oi8) ?hi8 (by kernel_rfl) ?st8
      case hi8 => simp only [List.getElem?_toArray, List.getElem?_cons_succ, List.getElem?_cons_zero]; rfl
      case st8 =>
      intro K hK
      refine step_append_lies _ rfl (.tmp 24) (.tmp 29) _ rfl (gb + 1) 23 j0 (.agg #[.int .i64 0, .int .i64 0, .int .i64 0, .int .i64 0, .int .i64 0, .int .i64 0]) 6 48 Try.underlying31 hj0 hy0 hy1 hy2 rfl (by decide) _ _ _ rfl S4.out.r1 ⟨w2.drew.heap.size, 0, none⟩ 1 1 (ptL ⟨1, y, 0, 0, 0, 0⟩) rfl rfl (cell_row w2.drew (ptL ⟨1, y, 0, 0, 0, 0⟩) _) (six_one _) (by decide) hml.1 hml.2 S4.out.bx.lt _ rfl ?_
      intro gq cap w9 h51 h52 h53 _
      have H9 := Lib.hid (S4.out.put1 (xs := [⟨1, y, 0, 0, 0, 0⟩]) h52 (by simpa [pCells] using h51))
      have BX := Lib.hid (S4.out.bx.grown h52 (row_ne S4.out.r1 gb (Nat.lt_succ_self _)))
      have hH5 : BoxG gb 2 (.slice p1 lp.length q1) w9 := BoxG.grown hH h52 S4.out.bx.lt (row_ne S4.out.r1 gb (Nat.lt_succ_self _))
      clear hH
      have hH := hH5
      clear hH5
      try dsimp only
      refine hK.out _ _ hH ?_
      clear hK K
      try simp only [Act.put, List.setIfInBounds_toArray, List.set_cons_zero, List.set_cons_succ]
      refine HeadW.take (i := 8) (oi := ?oi9) (v := ?v9) ?hi9 (by kernel_rfl) ?hQ9 (Or.inl ⟨?hg9, ?hy9⟩) hH ?rest9
      case hi9 => simp only [List.getElem?_toArray, List.getElem?_cons_succ, List.getElem?_cons_zero]; rfl
      case hQ9 => exact fun _ _ _ h => h
      case hg9 => rfl
      case hy9 => intro W hSw; have s1 := hSw; unfold BoxG at s1; go_simp; try with_reducible rfl
      case rest9 =>
      try simp only [Act.put, List.setIfInBounds_toArray, List.set_cons_zero, List.set_cons_succ]

      refine HeadW.done (by kernel_rfl) ?_
      have e2 := BX.out.cell 2
      have f2 := BX.out.frozen 2
      have e6 := BX.out.lt
      go_wp2_with fail
      go_roundw
      case rel => exact ⟨k + 1, _, lp ++ [⟨1, y, 0, 0, 0, 0⟩], by first | rfl | go_num, by omega, Lib.hid (by rw [List.length_append, HLP.out]; rfl), H9⟩
      case measure => simp [intOf]; omega
    · have hp : ¬ 0 < u - (k : Int) := by omega
      clear HLP
      have z0 := S2.out.bx.cell 0
      have z1 := S2.out.bx.cell 1
      have z2 := S2.out.bx.cell 2
      have zl := S2.out.bx.lt
      go_wp2_with fail
      obtain ⟨o5, c5, e5, a5, row5⟩ := rowP_own S2.out.r1
      injection e5 with e7 _ e8
      subst e7
      subst e8
      generalize hn : lp.length = nP at row5 ⊢
      have HR2 := Lib.hid row5
      have PB2 : Hid (Blk w2 gb 46 #[.int .i64 code, .int .i64 var, .slice p1 nP q1]) := Lib.hid (by rw [← hn]; exact S2.out.bx)
      have HB2 := Lib.hid S2.out.be
      clear hn row5 S2 z0 z1 z2 a5
      generalize ptAt lp = P at HR2
      obtain ⟨w5, hw5⟩ : ∃ w5, w2.alloc (.cells #[.int .i64 a2, .int .i64 a3, .slice p1 nP q1] 46) = w5 := ⟨_, rfl⟩
      have hb25 : Below w2.heap.size w2 w5 := by rw [← hw5]; exact bAl (Below.refl _ _) _
      have HB5 := Lib.hid (bTr HB2.out hb25)
      have HR5 := Lib.hid (HR2.out.later hb25)
      have PB5 := Lib.hid (PB2.out.later hb25)
      have PQ5 : Hid (Blk w5 w2.heap.size 46 #[.int .i64 a2, .int .i64 a3, .slice p1 nP q1]) := Lib.hid (by
        rw [← hw5]
        exact Blk.new _ _ _)
      rw [hw5]
      clear hw5 hb25 HR2 PB2 HB2
      have q0 : ∀ q : BelowOf w5, q.to.cell? ⟨gb, 0, none⟩ = some (.int .i64 code) := bq_cell PB5.out.lt (PB5.out.cell 0)
      have q1' : ∀ q : BelowOf w5, q.to.cell? ⟨gb, 1, none⟩ = some (.int .i64 var) := bq_cell PB5.out.lt (PB5.out.cell 1)
      have q2 : ∀ q : BelowOf w5, q.to.cell? ⟨gb, 2, none⟩ = some (.slice p1 nP q1) := bq_cell PB5.out.lt (PB5.out.cell 2)
      have q3 : ∀ q : BelowOf w5, q.to.cell? ⟨w2.heap.size, 0, none⟩ = some (.int .i64 a2) := bq_cell PQ5.out.lt (PQ5.out.cell 0)
      have q4 : ∀ q : BelowOf w5, q.to.cell? ⟨w2.heap.size, 1, none⟩ = some (.int .i64 a3) := bq_cell PQ5.out.lt (PQ5.out.cell 1)
      have q5 : ∀ q : BelowOf w5, q.to.cell? ⟨w2.heap.size, 2, none⟩ = some (.slice p1 nP q1) := bq_cell PQ5.out.lt (PQ5.out.cell 2)
      have HX' := Lib.hid (fun q : BelowOf w5 => HR5.out.later q.h)
      refine wp_region_below (by kernel_rfl) (by kernel_rfl) ?_
      repeat (go_big_quiet_step ((first | (go_at_call 30; exact bq_call (vp_lit _ _ _ _ _ P _ (HX'.out _))) | (go_at_call 31; exact bq_call (rvp_lit _ _ _ _ _ P _ (HX'.out _))) | (go_at_call 32; exact bq_call (pt_lit _ _ _ _ _ P _ (HX'.out _))) | (go_at_call 33; exact bq_call (rpt_lit _ _ _ _ _ P _ (HX'.out _))) | (go_at_call 14; exact bq_call (awake_any _)))))
      refine wpQuiet_nil ?_
      intro w8 hw'
      have HX := Lib.hid (show Below w5.heap.size w5 w8 by obtain ⟨pw, h⟩ := hw'; exact h ▸ pw.h)
      clear hw' q0 q1' q2 q3 q4 q5
      go_wp2_with fail
      exact bodyPost_ret (v := .bool true) (by simp [results, Try.results9, go_sem]) rfl ⟨rfl, bTr HB5.out HX.out⟩
end Go.Proofs.Ytjciniffkdadaaa
