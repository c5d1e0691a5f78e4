/-
  The papers that the statements draw from a tape.
-/
import Derived.Test.YtjciniffkdadaaaIPTape
namespace Go.Proofs.Ytjciniffkdadaaa
open Go.RowKit
set_option linter.unusedSimpArgs false
set_option linter.unusedVariables false

def BoxG (gb p : Nat) (v : Value) (W : World) : Prop := W.cell? ⟨gb, p, none⟩ = some v
theorem BoxG.grown {gb p : Nat} {v : Value} {W W' : World} {row : Option Nat} (h : BoxG gb p v W) (hg : W.grownBy W' row) (hb : gb < W.heap.size) (hne : some gb ≠ row) : BoxG gb p v W' :=
  (hg.cell_far ⟨gb, p, none⟩ hb hne).trans h
set_option maxRecDepth 100000 in
set_option maxHeartbeats 8000000 in
theorem paper_any (code var : Int) {w : World} {B g : Nat} {o : Option Addr} {n c : Nat} {z : Nat → Int} (h : Tp w B g o n c z) :
    Calls Try.prog 50 #[.pointer (some ⟨g, 0, none⟩), .int .i64 code, .int .i64 var] w (PapR code var w B g o n c z) := by
  obtain ⟨j0, hj0, hy0, hy1, hy2⟩ := info_parts part_info
  have hgl := h.lt
  have T0 := Lib.hid h
  clear h
  go_enter Try.func50, Try.ntmps50
  go_wp2_with fail
  have S1 : Hid (Qx w B g o n c z (w.heap.size + 1) (w.heap.size + 1) code var (.slice none 0 0) [] ((w.alloc (.cells #[.int .i64 0, .int .i64 0, .slice none 0 0] 46)).alloc (.cells #[.int .i64 code, .int .i64 var, .slice none 0 0] 46))) := Lib.hid
    ⟨(T0.out.alloc _).alloc _, gAlc (gAlc (gDr w 0 _) _) _, Blk.newAt (by simp), World.ownsRow_nil _ _ _ _, by omega, by simp, by simp [Value.ownBlock], hgl, by omega, ⟨_, _, _, (Blk.new _ _ _).alloc _⟩⟩
  generalize (w.alloc _).alloc _ = ws at S1 ⊢
  obtain ⟨gb, hgb⟩ : ∃ gb, w.heap.size + 1 = gb := ⟨_, rfl⟩
  rw [hgb] at S1 ⊢
  have HGB := Lib.hid hgb
  clear hgb T0
  refine (tape_range 1 6 (by omega) (by omega) (by omega) S1.out.tp).mono ?_
  rintro e w2 ⟨u, ⟨hu0, hu1⟩, rfl, ht2, hg2⟩
  have S2 := Lib.hid (S1.out.on ht2 hg2)
  clear ht2 hg2 S1
  go_wp2_with fail
  go_loopw [8] (fun i wr => ∃ (k : Nat) (v1 : Value) (lp : List Pt), i = .int .i64 (u - k) ∧ (k : Int) ≤ u ∧ Hid (lp.length = k) ∧ Hid (GoodP lp) ∧ Hid (Qx w B g o n c z gb gb code var v1 lp wr)) (fun i _ => (intOf i).toNat)
  case atStart => exact ⟨0, _, [], by simp, by omega, Lib.hid rfl, Lib.hid (fun j x hx => by simp at hx), S2⟩
  case round =>
    clear S2
    obtain ⟨k, v1, lp, rfl, hk, HLP, HGP, S2⟩ := hrel
    generalize hwr0 : wr = w2 at S2 ⊢
    clear hwr0
    by_cases hku : (k : Int) < u
    · have hp : 0 < u - (k : Int) := by omega
      obtain ⟨p1, q1, rfl⟩ := own_any S2.out.r1
      have b0 : w2.cell? ⟨gb, 2, none⟩ = some (.slice p1 lp.length q1) := S2.out.bx.cell 2
      have hml : lp.length + 1 ≤ maxLen ∧ (lp.length + 1) * 48 ≤ 140737488355328 := ⟨by have := HLP.out; unfold maxLen; omega, by have := HLP.out; omega⟩
      have hwk : IntKind.i64.wrap (u - (k : Int) - 1) = u - ((k + 1 : Nat) : Int) := by rw [IntKind.wrap_i64]; omega
      go_wp2_with fail
      have hH : BoxG gb 2 (.slice p1 lp.length q1) w2.drew := b0
      refine wp_region_held_tail (BoxG gb 2 (.slice p1 lp.length q1)) 7 (by kernel_rfl) (by kernel_rfl) ?_
      simp only [List.drop_succ_cons, List.drop_zero]
      refine HeadW.take (i := 0) (oi := ?oi1) (v := ?v1) ?hi1 (by kernel_rfl) ?hQ1 (Or.inl ⟨?hg1, ?hy1⟩) hH ?rest1
      case hi1 => simp only [List.getElem?_toArray, List.getElem?_cons_succ, List.getElem?_cons_zero]; rfl
      case hQ1 => exact fun _ _ _ h => h
      case hg1 => rfl
      case hy1 => intro W hSw; have s1 := hSw; unfold BoxG at s1; go_simp; try with_reducible rfl
      case rest1 =>
      try simp only [Act.put, List.setIfInBounds_toArray, List.set_cons_zero, List.set_cons_succ]
      refine HeadW.take (i := 1) (oi := ?oi2) (v := ?v2) ?hi2 (by kernel_rfl) ?hQ2 (Or.inl ⟨?hg2, ?hy2⟩) hH ?rest2
      case hi2 => simp only [List.getElem?_toArray, List.getElem?_cons_succ, List.getElem?_cons_zero]; rfl
      case hQ2 => exact fun _ _ _ h => h
      case hg2 => rfl
      case hy2 => intro W hSw; have s1 := hSw; unfold BoxG at s1; go_simp; try with_reducible rfl
      case rest2 =>
      try simp only [Act.put, List.setIfInBounds_toArray, List.set_cons_zero, List.set_cons_succ]
      refine HeadW.take (i := 2) (oi := ?oi3) (v := ?v3) ?hi3 (by kernel_rfl) ?hQ3 (Or.inl ⟨?hg3, ?hy3⟩) hH ?rest3
      case hi3 => simp only [List.getElem?_toArray, List.getElem?_cons_succ, List.getElem?_cons_zero]; rfl
      case hQ3 => exact fun _ _ _ h => h
      case hg3 => rfl
      case hy3 => intro W hSw; have s1 := hSw; unfold BoxG at s1; go_simp; try with_reducible rfl
      case rest3 =>
      try simp only [Act.put, List.setIfInBounds_toArray, List.set_cons_zero, List.set_cons_succ]
      refine HeadW.one (i := 3) (o := ?oi4) ?hi4 (by kernel_rfl) ?st4
      case hi4 => simp only [List.getElem?_toArray, List.getElem?_cons_succ, List.getElem?_cons_zero]; rfl
      case st4 =>
      intro K hK
      go_simp
      go_at_call 23
      refine (part_any 0 (by omega) (by omega) S2.out.drew.tp).mono ?_
      rintro e w3 ⟨p, rfl, ht3, hg3, hok0⟩
      have S3 := Lib.hid (S2.out.drew.on ht3 hg3)
      clear ht3 hg3
      clear hH
      have hH : BoxG gb 2 (.slice p1 lp.length q1) w3 := S3.out.bx.cell 2
      unfold ptC
      try dsimp only
      refine hK.out _ _ hH ?_
      clear hK K
      try simp only [Act.put, List.setIfInBounds_toArray, List.set_cons_zero, List.set_cons_succ]
      refine HeadW.one (i := 4) (o := ?oi5) ?hi5 (by kernel_rfl) ?st5
      case hi5 => simp only [List.getElem?_toArray, List.getElem?_cons_succ, List.getElem?_cons_zero]; rfl
      case st5 =>
      intro K hK
      go_simp
      have S4 := Lib.hid (S3.out.alloc (.cells #[.int .i64 p.kd, .int .i64 p.mx, .int .i64 p.tp, .int .i64 p.ob, .int .i64 p.op, .int .i64 p.ky] 23))
      clear hH
      have hH : BoxG gb 2 (.slice p1 lp.length q1) _ := S4.out.bx.cell 2
      try dsimp only
      refine hK.out _ _ hH ?_
      clear hK K
      try simp only [Act.put, List.setIfInBounds_toArray, List.set_cons_zero, List.set_cons_succ]
      refine HeadW.one (i := 5) (o := ?oi6) ?hi6 (by kernel_rfl) ?st6
      case hi6 => simp only [List.getElem?_toArray, List.getElem?_cons_succ, List.getElem?_cons_zero]; rfl
      case st6 =>
      intro K hK
      refine step_append_lies _ rfl (.tmp 19) (.tmp 22) _ rfl (gb) 23 j0 (.agg #[.int .i64 0, .int .i64 0, .int .i64 0, .int .i64 0, .int .i64 0, .int .i64 0]) 6 48 Try.underlying31 hj0 hy0 hy1 hy2 rfl (by decide) _ _ _ rfl S4.out.r1 ⟨w3.heap.size, 0, none⟩ 1 1 (ptL p) rfl rfl (cell_row w3 (ptL p) _) (six_one p) (by decide) hml.1 hml.2 S4.out.bz _ rfl ?_
      intro gq cap w9 h51 h52 h53 _
      have H9 := Lib.hid (S4.out.put1 (xs := [p]) h52 (by simpa [pCells] using h51) (own_new h53 S4.out.nb S4.out.bx.lt _ _))
      have MID := Lib.hid (S4.out.mid h52 (fun b hb => S4.out.ne hb))
      have hH5 : BoxG gb 2 (.slice p1 lp.length q1) w9 := BoxG.grown hH h52 S4.out.bx.lt (S4.out.ne (.inl rfl))
      clear hH
      have hH := hH5
      clear hH5
      try dsimp only
      refine hK.out _ _ hH ?_
      clear hK K
      try simp only [Act.put, List.setIfInBounds_toArray, List.set_cons_zero, List.set_cons_succ]
      refine HeadW.take (i := 6) (oi := ?oi7) (v := ?v7) ?hi7 (by kernel_rfl) ?hQ7 (Or.inl ⟨?hg7, ?hy7⟩) hH ?rest7
      case hi7 => simp only [List.getElem?_toArray, List.getElem?_cons_succ, List.getElem?_cons_zero]; rfl
      case hQ7 => exact fun _ _ _ h => h
      case hg7 => rfl
      case hy7 => intro W hSw; have s1 := hSw; unfold BoxG at s1; go_simp; try with_reducible rfl
      case rest7 =>
      try simp only [Act.put, List.setIfInBounds_toArray, List.set_cons_zero, List.set_cons_succ]

      refine HeadW.done (by kernel_rfl) ?_
      have e0 := MID.out.1.cell 0
      have e1 := MID.out.1.cell 1
      have e2 := MID.out.1.cell 2
      have ff0 := MID.out.1.frozen 0
      have ff1 := MID.out.1.frozen 1
      have ff2 := MID.out.1.frozen 2
      have e6 := MID.out.1.lt
      obtain ⟨x0, x1, x2, hr⟩ := MID.out.2
      have r0 := hr.cell 0
      have r1 := hr.cell 1
      have r2 := hr.cell 2
      have rf0 := hr.frozen 0
      have rf1 := hr.frozen 1
      have rf2 := hr.frozen 2
      have rl := hr.lt
      clear hr
      have hok := hok0 rfl
      clear hok0
      go_wp2_with fail
      go_roundw
      case rel => exact ⟨k + 1, _, lp ++ [p], by first | rfl | go_num, by omega, Lib.hid (by rw [List.length_append, HLP.out]; rfl), Lib.hid (push_all HGP.out hok), H9⟩
      case measure => simp [intOf]; omega
    · have hp : ¬ 0 < u - (k : Int) := by omega
      have HK1 := Lib.hid (show 1 ≤ lp.length by have := HLP.out; omega)
      have HK3 := Lib.hid (show lp.length ≤ 6 by have := HLP.out; omega)
      clear HLP
      obtain ⟨p1, q1, rfl⟩ := own_any S2.out.r1
      have MID := Lib.hid (S2.out.mid0)
      have hln := S2.out.ln
      have e0 := MID.out.1.cell 0
      have e1 := MID.out.1.cell 1
      have e2 := MID.out.1.cell 2
      have ff0 := MID.out.1.frozen 0
      have ff1 := MID.out.1.frozen 1
      have ff2 := MID.out.1.frozen 2
      have e6 := MID.out.1.lt
      obtain ⟨x0, x1, x2, hr⟩ := MID.out.2
      have r0 := hr.cell 0
      have r1 := hr.cell 1
      have r2 := hr.cell 2
      have rf0 := hr.frozen 0
      have rf1 := hr.frozen 1
      have rf2 := hr.frozen 2
      have rl := hr.lt
      clear hr
      have HDN := Lib.hid (fun W (hX : Qx w B g o n c z gb gb code var (.slice p1 lp.length q1) lp W) => (show PapR code var w B g o n c z (.returned (.agg #[.int .i64 code, .int .i64 var, (.slice p1 lp.length q1)])) W from Qx.pap (gb := gb) (by rw [← HGB.out] at hX ⊢; exact hX) HGP.out HK1.out HK3.out))
      go_wp2_with fail
      exact bodyPost_ret (v := .agg #[.int .i64 code, .int .i64 var, (.slice p1 lp.length q1)]) (by simp [results, Try.results50, go_sem, r0, r1, r2, rl]) rfl (HDN.out _ (((S2.out.res 0 (by decide) _).res 1 (by decide) _).res 2 (by decide) _))
set_option maxRecDepth 100000 in
set_option maxHeartbeats 16000000 in
theorem loose_any (N : Int) (hN : 0 < N) (hN1 : N < 1000) {w : World} {B g : Nat} {o : Option Addr} {n c : Nat} {z : Nat → Int} (h : Tp w B g o n c z) :
    Calls Try.prog 29 #[.pointer (some ⟨g, 0, none⟩), .int .i64 N] w (LooseR w B g o n c z) := by
  obtain ⟨j0, hj0, hy0, hy1, hy2⟩ := info_parts part_info
  have hgl := h.lt
  have T0 := Lib.hid (h.alloc (.cells #[.int .i64 0, .int .i64 0, .slice none 0 0] 46))
  have G0 : Hid (w.grownBy (w.alloc (.cells #[.int .i64 0, .int .i64 0, .slice none 0 0] 46)) (some g)) := Lib.hid (gAlc (gDr w 0 _) _)
  have PR0 : Hid (Blk (w.alloc (.cells #[.int .i64 0, .int .i64 0, .slice none 0 0] 46)) w.heap.size 46 #[.int .i64 0, .int .i64 0, .slice none 0 0]) := Lib.hid (Blk.new _ _ _)
  have hne : some w.heap.size ≠ some g := fun e => by injection e; omega
  clear h
  go_enter Try.func29, Try.ntmps29
  go_wp2_with fail
  refine (tape_range 0 3 (by omega) (by omega) (by omega) T0.out).mono ?_
  rintro e w1 ⟨code, hcode, rfl, ht1, hg1⟩
  have T1 := Lib.hid ht1
  have G1 := Lib.hid (gTr G0.out hg1)
  have PR1 := Lib.hid (PR0.out.grown hg1 hne)
  clear ht1 hg1 T0 G0 PR0 hcode
  go_wp2_with fail
  refine (tape_next 3 (by omega) (by omega) T1.out).mono ?_
  rintro e w2 ⟨var, hvar, rfl, ht2, hg2⟩
  have T2 := Lib.hid ht2
  have G2 := Lib.hid (gTr G1.out hg2)
  have PR2 := Lib.hid (PR1.out.grown hg2 hne)
  clear ht2 hg2 T1 G1 PR1 hvar
  go_wp2_with fail
  refine (paper_any code var T2.out).mono ?_
  rintro e w3 ⟨v1, lp, rfl, hown, hsz3, ht3, hg3, _, hl1, hl6⟩
  have S3 : Hid (Qx w B g o n c z w3.heap.size (w2.heap.size + 1) code var v1 lp (w3.alloc (.cells #[.int .i64 code, .int .i64 var, v1] 46))) := Lib.hid
    ⟨ht3.alloc _, gAlc (gTr G2.out hg3) _, Blk.new _ _ _, own_later hown (bAl (Below.refl _ _) _), by have := PR2.out.lt; omega, by simp; omega, fun e => by have := (hown.lt _ e).2; omega, hgl, by have := PR2.out.lt; omega, ⟨_, _, _, (PR2.out.grown hg3 hne).alloc _⟩⟩
  have HL6 := Lib.hid hl6
  obtain ⟨p1, q1, rfl⟩ := own_any hown
  clear hown hsz3 ht3 hg3 hl1 hl6 T2 G2 PR2
  generalize w2.heap.size + 1 = Br at S3
  have HD := Lib.hid (fun code' var' v1' lp' W (hX : Qx w B g o n c z w3.heap.size Br code' var' v1' lp' W) => hX.loose)
  go_wp2_with fail
  generalize w3.alloc _ = w4 at S3 ⊢
  generalize w3.heap.size = gb at S3 HD ⊢
  refine (tape_one N (by omega) (by omega) S3.out.tp).mono ?_
  rintro e w5 ⟨bb, rfl, ht5, hg5⟩
  have S5 := Lib.hid (S3.out.on ht5 hg5)
  clear ht5 hg5 S3
  cases bb
  · have MID := Lib.hid (S5.out.mid0)
    have hln := S5.out.ln
    have e0 := MID.out.1.cell 0
    have e1 := MID.out.1.cell 1
    have e2 := MID.out.1.cell 2
    have ff0 := MID.out.1.frozen 0
    have ff1 := MID.out.1.frozen 1
    have ff2 := MID.out.1.frozen 2
    have e6 := MID.out.1.lt
    obtain ⟨x0, x1, x2, hr⟩ := MID.out.2
    have r0 := hr.cell 0
    have r1 := hr.cell 1
    have r2 := hr.cell 2
    have rf0 := hr.frozen 0
    have rf1 := hr.frozen 1
    have rf2 := hr.frozen 2
    have rl := hr.lt
    clear hr
    go_wp2_with fail
    exact bodyPost_ret (v := .agg #[.int .i64 code, .int .i64 var, (.slice p1 lp.length q1)]) (by simp [results, Try.results29, go_sem, r0, r1, r2, rl]) rfl (HD.out _ _ _ _ _ (((S5.out.res 0 (by decide) _).res 1 (by decide) _).res 2 (by decide) _))
  · go_wp2_with fail
    refine (tape_next 5 (by omega) (by omega) S5.out.tp).mono ?_
    rintro e w6 ⟨q, ⟨hq0, hq1⟩, rfl, ht6, hg6⟩
    have S6 := Lib.hid (S5.out.on ht6 hg6)
    clear ht6 hg6 S5
    have hml : lp.length + 1 ≤ maxLen ∧ (lp.length + 1) * 48 ≤ 140737488355328 := ⟨by have := HL6.out; unfold maxLen; omega, by have := HL6.out; omega⟩
    have hqs : q = 0 ∨ q = 1 ∨ q = 2 ∨ q = 3 ∨ q = 4 := by omega
    clear hq0 hq1
    rcases hqs with rfl | rfl | rfl | rfl | rfl
    · go_wp2_with fail
      refine (tape_wild S6.out.tp).mono ?_
      rintro e w8 ⟨vz, hvz, rfl, ht8, hg8⟩
      have S8 := Lib.hid (S6.out.on ht8 hg8)
      clear ht8 hg8 hvz
      have MID := Lib.hid (S8.out.mid0)
      have hln := S8.out.ln
      have e0 := MID.out.1.cell 0
      have e1 := MID.out.1.cell 1
      have e2 := MID.out.1.cell 2
      have ff0 := MID.out.1.frozen 0
      have ff1 := MID.out.1.frozen 1
      have ff2 := MID.out.1.frozen 2
      have e6 := MID.out.1.lt
      obtain ⟨x0, x1, x2, hr⟩ := MID.out.2
      have r0 := hr.cell 0
      have r1 := hr.cell 1
      have r2 := hr.cell 2
      have rf0 := hr.frozen 0
      have rf1 := hr.frozen 1
      have rf2 := hr.frozen 2
      have rl := hr.lt
      clear hr
      go_wp2_with fail
      exact bodyPost_ret (v := .agg #[.int .i64 vz, .int .i64 var, (.slice p1 lp.length q1)]) (by simp [results, Try.results29, go_sem, r0, r1, r2, rl]) rfl (HD.out _ _ _ _ _ ((((S8.out.put 0 (.int .i64 vz) rfl).res 0 (by decide) _).res 1 (by decide) _).res 2 (by decide) _))
    · go_wp2_with fail
      refine (tape_range (-1) 5 (by omega) (by omega) (by omega) S6.out.tp).mono ?_
      rintro e w8 ⟨vz, hvz, rfl, ht8, hg8⟩
      have S8 := Lib.hid (S6.out.on ht8 hg8)
      clear ht8 hg8 hvz
      have MID := Lib.hid (S8.out.mid0)
      have hln := S8.out.ln
      have e0 := MID.out.1.cell 0
      have e1 := MID.out.1.cell 1
      have e2 := MID.out.1.cell 2
      have ff0 := MID.out.1.frozen 0
      have ff1 := MID.out.1.frozen 1
      have ff2 := MID.out.1.frozen 2
      have e6 := MID.out.1.lt
      obtain ⟨x0, x1, x2, hr⟩ := MID.out.2
      have r0 := hr.cell 0
      have r1 := hr.cell 1
      have r2 := hr.cell 2
      have rf0 := hr.frozen 0
      have rf1 := hr.frozen 1
      have rf2 := hr.frozen 2
      have rl := hr.lt
      clear hr
      go_wp2_with fail
      exact bodyPost_ret (v := .agg #[.int .i64 code, .int .i64 vz, (.slice p1 lp.length q1)]) (by simp [results, Try.results29, go_sem, r0, r1, r2, rl]) rfl (HD.out _ _ _ _ _ ((((S8.out.put 1 (.int .i64 vz) rfl).res 0 (by decide) _).res 1 (by decide) _).res 2 (by decide) _))
    · have MID := Lib.hid (S6.out.mid0)
      have hln := S6.out.ln
      have e0 := MID.out.1.cell 0
      have e1 := MID.out.1.cell 1
      have e2 := MID.out.1.cell 2
      have ff0 := MID.out.1.frozen 0
      have ff1 := MID.out.1.frozen 1
      have ff2 := MID.out.1.frozen 2
      have e6 := MID.out.1.lt
      obtain ⟨x0, x1, x2, hr⟩ := MID.out.2
      have r0 := hr.cell 0
      have r1 := hr.cell 1
      have r2 := hr.cell 2
      have rf0 := hr.frozen 0
      have rf1 := hr.frozen 1
      have rf2 := hr.frozen 2
      have rl := hr.lt
      clear hr
      go_wp2_with fail
      exact bodyPost_ret (v := .agg #[.int .i64 code, .int .i64 var, (.slice none 0 0)]) (by simp [results, Try.results29, go_sem, r0, r1, r2, rl]) rfl (HD.out _ _ _ _ _ (((S6.out.none_.res 0 (by decide) _).res 1 (by decide) _).res 2 (by decide) _))
    · have b0 : w6.cell? ⟨gb, 2, none⟩ = some (.slice p1 lp.length q1) := S6.out.bx.cell 2
      go_wp2_with fail
      have hH : BoxG gb 2 (.slice p1 lp.length q1) w6.drew := b0
      refine wp_region_held_tail (BoxG gb 2 (.slice p1 lp.length q1)) 7 (by kernel_rfl) (by kernel_rfl) ?_
      simp only [List.drop_succ_cons, List.drop_zero]
      refine HeadW.take (i := 0) (oi := ?oi8) (v := ?v8) ?hi8 (by kernel_rfl) ?hQ8 (Or.inl ⟨?hg8, ?hy8⟩) hH ?rest8
      case hi8 => simp only [List.getElem?_toArray, List.getElem?_cons_succ, List.getElem?_cons_zero]; rfl
      case hQ8 => exact fun _ _ _ h => h
      case hg8 => rfl
      case hy8 => intro W hSw; have s1 := hSw; unfold BoxG at s1; go_simp; try with_reducible rfl
      case rest8 =>
      try simp only [Act.put, List.setIfInBounds_toArray, List.set_cons_zero, List.set_cons_succ]
      refine HeadW.take (i := 1) (oi := ?oi9) (v := ?v9) ?hi9 (by kernel_rfl) ?hQ9 (Or.inl ⟨?hg9, ?hy9⟩) hH ?rest9
      case hi9 => simp only [List.getElem?_toArray, List.getElem?_cons_succ, List.getElem?_cons_zero]; rfl
      case hQ9 => exact fun _ _ _ h => h
      case hg9 => rfl
      case hy9 => intro W hSw; have s1 := hSw; unfold BoxG at s1; go_simp; try with_reducible rfl
      case rest9 =>
      try simp only [Act.put, List.setIfInBounds_toArray, List.set_cons_zero, List.set_cons_succ]
      refine HeadW.take (i := 2) (oi := ?oi10) (v := ?v10) ?hi10 (by kernel_rfl) ?hQ10 (Or.inl ⟨?hg10, ?hy10⟩) hH ?rest10
      case hi10 => simp only [List.getElem?_toArray, List.getElem?_cons_succ, List.getElem?_cons_zero]; rfl
      case hQ10 => exact fun _ _ _ h => h
      case hg10 => rfl
      case hy10 => intro W hSw; have s1 := hSw; unfold BoxG at s1; go_simp; try with_reducible rfl
      case rest10 =>
      try simp only [Act.put, List.setIfInBounds_toArray, List.set_cons_zero, List.set_cons_succ]
      refine HeadW.one (i := 3) (o := ?oi11) ?hi11 (by kernel_rfl) ?st11
      case hi11 => simp only [List.getElem?_toArray, List.getElem?_cons_succ, List.getElem?_cons_zero]; rfl
      case st11 =>
      intro K hK
      go_simp
      go_at_call 23
      refine (part_any 1 (by omega) (by omega) S6.out.drew.tp).mono ?_
      rintro e w3 ⟨p, rfl, ht3, hg3, hok0⟩
      have S3 := Lib.hid (S6.out.drew.on ht3 hg3)
      clear ht3 hg3
      clear hH
      have hH : BoxG gb 2 (.slice p1 lp.length q1) w3 := S3.out.bx.cell 2
      unfold ptC
      try dsimp only
      refine hK.out _ _ hH ?_
      clear hK K
      try simp only [Act.put, List.setIfInBounds_toArray, List.set_cons_zero, List.set_cons_succ]
      refine HeadW.one (i := 4) (o := ?oi12) ?hi12 (by kernel_rfl) ?st12
      case hi12 => simp only [List.getElem?_toArray, List.getElem?_cons_succ, List.getElem?_cons_zero]; rfl
      case st12 =>
      intro K hK
      go_simp
      have S4 := Lib.hid (S3.out.alloc (.cells #[.int .i64 p.kd, .int .i64 p.mx, .int .i64 p.tp, .int .i64 p.ob, .int .i64 p.op, .int .i64 p.ky] 23))
      clear hH
      have hH : BoxG gb 2 (.slice p1 lp.length q1) _ := S4.out.bx.cell 2
      try dsimp only
      refine hK.out _ _ hH ?_
      clear hK K
      try simp only [Act.put, List.setIfInBounds_toArray, List.set_cons_zero, List.set_cons_succ]
      refine HeadW.one (i := 5) (o := ?oi13) ?hi13 (by kernel_rfl) ?st13
      case hi13 => simp only [List.getElem?_toArray, List.getElem?_cons_succ, List.getElem?_cons_zero]; rfl
      case st13 =>
      intro K hK
      refine step_append_lies _ rfl (.tmp 48) (.tmp 51) _ rfl (Br) 23 j0 (.agg #[.int .i64 0, .int .i64 0, .int .i64 0, .int .i64 0, .int .i64 0, .int .i64 0]) 6 48 Try.underlying31 hj0 hy0 hy1 hy2 rfl (by decide) _ _ _ rfl S4.out.r1 ⟨w3.heap.size, 0, none⟩ 1 1 (ptL p) rfl rfl (cell_row w3 (ptL p) _) (six_one p) (by decide) hml.1 hml.2 S4.out.bz _ rfl ?_
      intro gq cap w9 h51 h52 h53 _
      have H9 := Lib.hid (S4.out.put1 (xs := [p]) h52 (by simpa [pCells] using h51) (own_new h53 S4.out.nb S4.out.bx.lt _ _))
      have MID := Lib.hid (S4.out.mid h52 (fun b hb => S4.out.ne hb))
      have hH5 : BoxG gb 2 (.slice p1 lp.length q1) w9 := BoxG.grown hH h52 S4.out.bx.lt (S4.out.ne (.inl rfl))
      clear hH
      have hH := hH5
      clear hH5
      try dsimp only
      refine hK.out _ _ hH ?_
      clear hK K
      try simp only [Act.put, List.setIfInBounds_toArray, List.set_cons_zero, List.set_cons_succ]
      refine HeadW.take (i := 6) (oi := ?oi14) (v := ?v14) ?hi14 (by kernel_rfl) ?hQ14 (Or.inl ⟨?hg14, ?hy14⟩) hH ?rest14
      case hi14 => simp only [List.getElem?_toArray, List.getElem?_cons_succ, List.getElem?_cons_zero]; rfl
      case hQ14 => exact fun _ _ _ h => h
      case hg14 => rfl
      case hy14 => intro W hSw; have s1 := hSw; unfold BoxG at s1; go_simp; try with_reducible rfl
      case rest14 =>
      try simp only [Act.put, List.setIfInBounds_toArray, List.set_cons_zero, List.set_cons_succ]

      refine HeadW.done (by kernel_rfl) ?_
      have hln := S6.out.ln
      have e0 := MID.out.1.cell 0
      have e1 := MID.out.1.cell 1
      have e2 := MID.out.1.cell 2
      have ff0 := MID.out.1.frozen 0
      have ff1 := MID.out.1.frozen 1
      have ff2 := MID.out.1.frozen 2
      have e6 := MID.out.1.lt
      obtain ⟨x0, x1, x2, hr⟩ := MID.out.2
      have r0 := hr.cell 0
      have r1 := hr.cell 1
      have r2 := hr.cell 2
      have rf0 := hr.frozen 0
      have rf1 := hr.frozen 1
      have rf2 := hr.frozen 2
      have rl := hr.lt
      clear hr
      go_wp2_with fail
      exact bodyPost_ret (v := .agg #[.int .i64 code, .int .i64 var, (.slice (some ⟨gq, 0, none⟩) (lp.length + 1) cap)]) (by simp [results, Try.results29, go_sem, r0, r1, r2, rl]) rfl (HD.out _ _ _ _ _ (((H9.out.res 0 (by decide) _).res 1 (by decide) _).res 2 (by decide) _))
    · clear hml
      go_wp2_with fail
      go_loopw [6] (fun i wr => ∃ (k : Nat) (v1 : Value) (lq : List Pt), i = .int .i64 k ∧ k ≤ 6 ∧ Hid (lq.length ≤ 6 + k) ∧ Hid (Qx w B g o n c z gb Br code var v1 lq wr)) (fun i _ => 7 - (intOf i).toNat)
      case atStart => exact ⟨0, _, lp, rfl, by omega, HL6, S6⟩
      case round =>
        clear S6
        obtain ⟨k, v1, lq, rfl, hk, HLQ, S6⟩ := hrel
        generalize hwr0 : wr = w8 at S6 ⊢
        clear hwr0
        obtain ⟨p2, q2, rfl⟩ := own_any S6.out.r1
        by_cases hk6 : k < 6
        · have hk6' : (k : Int) < 6 := by omega
          have S8 := Lib.hid (S6.out.alloc (.cells #[.int .i64 1, .int .i64 40, .int .i64 0, .int .i64 0, .int .i64 0, .int .i64 0] 23))
          have HML := Lib.hid (show lq.length + 1 ≤ maxLen ∧ (lq.length + 1) * 48 ≤ 140737488355328 from ⟨by have := HLQ.out; unfold maxLen; omega, by have := HLQ.out; omega⟩)
          have b2 := S6.out.bx.cell 2
          have bl := S6.out.bx.lt
          have bf := S6.out.bx.frozen 2
          go_wp2_with (at_builtin; refine wpList_append_own_at _ rfl (.tmp 27) (.tmp 29) 31 rfl Br 23 j0 (.agg #[.int .i64 0, .int .i64 0, .int .i64 0, .int .i64 0, .int .i64 0, .int .i64 0]) 6 48 Try.underlying31 hj0 hy0 hy1 hy2 rfl (by decide) _ _ _ rfl S8.out.r1 ⟨w8.heap.size, 0, none⟩ 1 1 (ptL ⟨1, 40, 0, 0, 0, 0⟩) rfl rfl ?c1 ?c2 HML.out.1 HML.out.2 S8.out.bz ?_; (case c1 => exact cell_row w8 (ptL ⟨1, 40, 0, 0, 0, 0⟩) _); (case c2 => exact six_one _); intro v6 w9 hown6 hgrow6 hnil6 hat6; obtain ⟨p6, q6, rfl⟩ := own_any hown6; have H9 := Lib.hid (S8.out.put1 (xs := [⟨1, 40, 0, 0, 0, 0⟩]) hgrow6 (by simpa [pCells] using hown6) (fun e => by rcases hat6 with h | h; exact S8.out.nb (h.symm.trans e); have h2 := h.symm.trans e; have h3 := S8.out.bx.lt; injection h2; omega)); have MID := Lib.hid (S8.out.mid hgrow6 (fun b hb => S8.out.ne hb)); clear hown6 hgrow6 hnil6 hat6 b2 bl bf; have e2 := MID.out.1.cell 2; have ff2 := MID.out.1.frozen 2; have e6 := MID.out.1.lt)
          go_roundw
          case rel => exact ⟨k + 1, _, lq ++ [⟨1, 40, 0, 0, 0, 0⟩], by go_num, by omega, Lib.hid (by rw [List.length_append]; have := HLQ.out; show lq.length + 1 ≤ _; omega), H9⟩
          case measure => simp [intOf]; omega
        · have hk6' : ¬ (k : Int) < 6 := by omega
          have MID := Lib.hid (S6.out.mid0)
          have hln := S6.out.ln
          have e0 := MID.out.1.cell 0
          have e1 := MID.out.1.cell 1
          have e2 := MID.out.1.cell 2
          have ff0 := MID.out.1.frozen 0
          have ff1 := MID.out.1.frozen 1
          have ff2 := MID.out.1.frozen 2
          have e6 := MID.out.1.lt
          obtain ⟨x0, x1, x2, hr⟩ := MID.out.2
          have r0 := hr.cell 0
          have r1 := hr.cell 1
          have r2 := hr.cell 2
          have rf0 := hr.frozen 0
          have rf1 := hr.frozen 1
          have rf2 := hr.frozen 2
          have rl := hr.lt
          clear hr
          go_wp2_with fail
          exact bodyPost_ret (v := .agg #[.int .i64 code, .int .i64 var, (.slice p2 lq.length q2)]) (by simp [results, Try.results29, go_sem, r0, r1, r2, rl]) rfl (HD.out _ _ _ _ _ (((S6.out.res 0 (by decide) _).res 1 (by decide) _).res 2 (by decide) _))
end Go.Proofs.Ytjciniffkdadaaa
