/-
  The item that the statements draw from a tape.
-/
import Derived.Test.YtjciniffkdadaaaITape
import Derived.Test.YtjciniffkdadaaaHeldTail
namespace Go.Proofs.Ytjciniffkdadaaa
open Go.RowKit
set_option linter.unusedSimpArgs false
set_option linter.unusedVariables false

def BoxF (gb p : Nat) (v : Value) (W : World) : Prop := W.cell? ⟨gb, p, none⟩ = some v
theorem BoxF.grown {gb p : Nat} {v : Value} {W W' : World} {row : Option Nat} (h : BoxF gb p v W) (hg : W.grownBy W' row) (hb : gb + 1 ≤ W.heap.size) (hne : ∀ b, b < gb + 1 → some b ≠ row) : BoxF gb p v W' :=
  (hg.cell_far ⟨gb, p, none⟩ (by show gb < W.heap.size; omega) (hne gb (by omega))).trans h
/-- the item's cell p, and the part at the head of its list -/
def BoxP (gb p : Nat) (v : Value) (bp fp : Nat) (x : Pt) (W : World) : Prop := W.cell? ⟨gb, p, none⟩ = some v ∧ W.cell? ⟨bp, fp, none⟩ = some (.int .i64 x.kd) ∧ W.cell? ⟨bp, fp + 1, none⟩ = some (.int .i64 x.mx) ∧ W.cell? ⟨bp, fp + 2, none⟩ = some (.int .i64 x.tp) ∧ W.cell? ⟨bp, fp + 3, none⟩ = some (.int .i64 x.ob) ∧ W.cell? ⟨bp, fp + 4, none⟩ = some (.int .i64 x.op) ∧ W.cell? ⟨bp, fp + 5, none⟩ = some (.int .i64 x.ky)
theorem parts_one : ∀ (l : List Pt), ∀ u ∈ pCells l, u.oneCell' = true := by
  intro l u hu
  unfold pCells at hu
  rw [List.mem_flatMap] at hu
  obtain ⟨p, _, hp⟩ := hu
  exact six_one p u hp
set_option maxRecDepth 100000 in
set_option maxHeartbeats 16000000 in
theorem item_any (N id ver : Int) (hN : 0 ≤ N) (hN1 : N < 1000) (hid : 0 ≤ id ∧ id ≤ 9999) (hver : 1 ≤ ver ∧ ver ≤ 8) {w : World} {B g : Nat} {o : Option Addr} {n c : Nat} {z : Nat → Int} (h : Tp w B g o n c z) :
    Calls Try.prog 16 #[.pointer (some ⟨g, 0, none⟩), .int .i64 id, .int .i64 ver, .int .i64 N] w (ItemR N id ver w B g o n c z) := by
  obtain ⟨i0, hi0, hz0, hz1, hz2⟩ := info_parts int_info
  obtain ⟨j0, hj0, hy0, hy1, hy2⟩ := info_parts part_info
  have HID := Lib.hid hid
  have HVER := Lib.hid hver
  clear hid hver
  have hgl := h.lt
  have T0 := Lib.hid (h.alloc (.cells #[.int .i64 0, .int .i64 0, .string ⟨#[]⟩, .slice none 0 0, .slice none 0 0] 33))
  have G0 : Hid (w.grownBy (w.alloc (.cells #[.int .i64 0, .int .i64 0, .string ⟨#[]⟩, .slice none 0 0, .slice none 0 0] 33)) (some g)) := Lib.hid (gAlc (gDr w 0 _) _)
  have PR0 : Hid (Blk (w.alloc (.cells #[.int .i64 0, .int .i64 0, .string ⟨#[]⟩, .slice none 0 0, .slice none 0 0] 33)) w.heap.size 33 #[.int .i64 0, .int .i64 0, .string ⟨#[]⟩, .slice none 0 0, .slice none 0 0]) := Lib.hid (Blk.new _ _ _)
  have hne : some w.heap.size ≠ some g := fun e => by injection e; omega
  clear h
  go_enter Try.func16, Try.ntmps16
  go_wp2_with fail
  refine (word_any T0.out).mono ?_
  rintro e w1 ⟨s, rfl, hs1, hs2, hs3, ht1, hg1⟩
  have T1 := Lib.hid ht1
  have G1 := Lib.hid (gTr G0.out hg1)
  have PR1 := Lib.hid (PR0.out.grown hg1 hne)
  obtain ⟨hs4, hs5⟩ := low_stem hs3 hs2
  have hss : (1 : Nat) + s.size ≤ 100 := by omega
  clear ht1 hg1 T0 G0 PR0 hs3 hs1 hs2
  go_wp2_with fail
  have HST := Lib.hid hs4
  have HSZ := Lib.hid hs5
  clear hs4 hs5 hss
  have S1 : Hid (Ix w B g o n c z w1.heap.size id ver (⟨#[113]⟩ ++ s) (.slice none 0 0) (.slice none 0 0) [] [] (w1.alloc (.cells #[.int .i64 id, .int .i64 ver, .string (⟨#[113]⟩ ++ s), .slice none 0 0, .slice none 0 0] 33))) := Lib.hid
    ⟨T1.out.alloc _, gAlc G1.out _, Blk.new _ _ _, World.ownsRow_nil _ _ _ _, World.ownsRow_nil _ _ _ _, hgl, PR1.out.lt, ⟨_, _, _, _, _, PR1.out.alloc _⟩⟩
  generalize w1.alloc _ = ws at S1 ⊢
  generalize w1.heap.size = gb at S1 ⊢
  generalize (⟨#[113]⟩ ++ s : ByteArray) = st at S1 HST HSZ ⊢
  clear T1 G1 PR1
  refine (tape_range 1 3 (by omega) (by omega) (by omega) S1.out.tp).mono ?_
  rintro e w2 ⟨u, ⟨hu0, hu1⟩, rfl, ht2, hg2⟩
  have S2 := Lib.hid (S1.out.on ht2 hg2)
  clear ht2 hg2 S1
  go_wp2_with fail
  go_loopw [10] (fun i wr => ∃ (k : Nat) (v1 : Value) (lp : List Pt), i = .int .i64 (u - k) ∧ (k : Int) ≤ u ∧ Hid (lp.length = k) ∧ Hid (GoodP lp) ∧ Hid (Ix w B g o n c z gb id ver st v1 (.slice none 0 0) lp [] wr)) (fun i _ => (intOf i).toNat)
  case atStart => exact ⟨0, _, [], by simp, by omega, Lib.hid rfl, Lib.hid (fun j x hx => by simp at hx), S2⟩
  case round =>
    clear S2
    obtain ⟨k, v1, lp, rfl, hk, HLP, HGP, S2⟩ := hrel
    generalize hwr0 : wr = w2 at S2 ⊢
    clear hwr0
    by_cases hku : (k : Int) < u
    · have hp : 0 < u - (k : Int) := by omega
      obtain ⟨p1, q1, rfl⟩ := own_any S2.out.r1
      have b0 : w2.cell? ⟨gb, 3, none⟩ = some (.slice p1 lp.length q1) := S2.out.bx.cell 3
      have hml1 : lp.length + 1 ≤ maxLen := by have := HLP.out; unfold maxLen; omega
      have hml2 : (lp.length + 1) * 48 ≤ 140737488355328 := by have := HLP.out; omega
      have hwk : IntKind.i64.wrap (u - (k : Int) - 1) = u - ((k + 1 : Nat) : Int) := by rw [IntKind.wrap_i64]; omega
      go_wp2_with fail
      have hH : BoxF gb 3 (.slice p1 lp.length q1) w2.drew := b0
      refine wp_region_held_tail (BoxF gb 3 (.slice p1 lp.length q1)) 7 (by kernel_rfl) (by kernel_rfl) ?_
      simp only [List.drop_succ_cons, List.drop_zero]
      refine HeadW.take (i := 0) (oi := ?oi1) (v := ?v1) ?hi1 (by kernel_rfl) ?hQ1 (Or.inl ⟨?hg1, ?hy1⟩) hH ?rest1
      case hi1 => simp only [List.getElem?_toArray, List.getElem?_cons_succ, List.getElem?_cons_zero]; rfl
      case hQ1 => exact fun _ _ _ h => h
      case hg1 => rfl
      case hy1 => intro W hSw; have s1 := hSw; unfold BoxF at s1; go_simp; try with_reducible rfl
      case rest1 =>
      try simp only [Act.put, List.setIfInBounds_toArray, List.set_cons_zero, List.set_cons_succ]
      refine HeadW.take (i := 1) (oi := ?oi2) (v := ?v2) ?hi2 (by kernel_rfl) ?hQ2 (Or.inl ⟨?hg2, ?hy2⟩) hH ?rest2
      case hi2 => simp only [List.getElem?_toArray, List.getElem?_cons_succ, List.getElem?_cons_zero]; rfl
      case hQ2 => exact fun _ _ _ h => h
      case hg2 => rfl
      case hy2 => intro W hSw; have s1 := hSw; unfold BoxF at s1; go_simp; try with_reducible rfl
      case rest2 =>
      try simp only [Act.put, List.setIfInBounds_toArray, List.set_cons_zero, List.set_cons_succ]
      refine HeadW.take (i := 2) (oi := ?oi3) (v := ?v3) ?hi3 (by kernel_rfl) ?hQ3 (Or.inl ⟨?hg3, ?hy3⟩) hH ?rest3
      case hi3 => simp only [List.getElem?_toArray, List.getElem?_cons_succ, List.getElem?_cons_zero]; rfl
      case hQ3 => exact fun _ _ _ h => h
      case hg3 => rfl
      case hy3 => intro W hSw; have s1 := hSw; unfold BoxF at s1; go_simp; try with_reducible rfl
      case rest3 =>
      try simp only [Act.put, List.setIfInBounds_toArray, List.set_cons_zero, List.set_cons_succ]
      refine HeadW.one (i := 3) (o := ?oi4) ?hi4 (by kernel_rfl) ?st4
      case hi4 => simp only [List.getElem?_toArray, List.getElem?_cons_succ, List.getElem?_cons_zero]; rfl
      case st4 =>
      intro K hK
      go_simp
      go_at_call 23
      refine (part_any 0 (by omega) (by omega) S2.out.drew.tp).mono ?_
      rintro e w3 ⟨p, rfl, ht3, hg3, hok0⟩
      have hok := hok0 rfl
      have S3 := Lib.hid (S2.out.drew.on ht3 hg3)
      clear ht3 hg3 hok0
      clear hH
      have hH : BoxF gb 3 (.slice p1 lp.length q1) w3 := S3.out.bx.cell 3
      unfold ptC
      try dsimp only
      refine hK.out _ _ hH ?_
      clear hK K
      try simp only [Act.put, List.setIfInBounds_toArray, List.set_cons_zero, List.set_cons_succ]
      refine HeadW.one (i := 4) (o := ?oi5) ?hi5 (by kernel_rfl) ?st5
      case hi5 => simp only [List.getElem?_toArray, List.getElem?_cons_succ, List.getElem?_cons_zero]; rfl
      case st5 =>
      intro K hK
      go_simp
      have S4 := Lib.hid (S3.out.alloc (.cells #[.int .i64 p.kd, .int .i64 p.mx, .int .i64 p.tp, .int .i64 p.ob, .int .i64 p.op, .int .i64 p.ky] 23))
      clear hH
      have hH : BoxF gb 3 (.slice p1 lp.length q1) _ := S4.out.bx.cell 3
      try dsimp only
      refine hK.out _ _ hH ?_
      clear hK K
      try simp only [Act.put, List.setIfInBounds_toArray, List.set_cons_zero, List.set_cons_succ]
      refine HeadW.one (i := 5) (o := ?oi6) ?hi6 (by kernel_rfl) ?st6
      case hi6 => simp only [List.getElem?_toArray, List.getElem?_cons_succ, List.getElem?_cons_zero]; rfl
      case st6 =>
      intro K hK
      refine step_append_lies _ rfl (.tmp 25) (.tmp 28) _ rfl (gb + 1) 23 j0 (.agg #[.int .i64 0, .int .i64 0, .int .i64 0, .int .i64 0, .int .i64 0, .int .i64 0]) 6 48 Try.underlying31 hj0 hy0 hy1 hy2 rfl (by decide) _ _ _ rfl S4.out.r1 ⟨w3.heap.size, 0, none⟩ 1 1 (ptL p) rfl rfl (cell_row w3 (ptL p) _) (six_one p) (by decide) hml1 hml2 S4.out.sz _ rfl ?_
      intro gq cap w5 h51 h52 _ _
      have H5 := Lib.hid (S4.out.put1 (xs := [p]) h52 (by simpa [pCells] using h51))
      have BX5 := Lib.hid (S4.out.bx.grown h52 (row_ne S4.out.r1 gb (Nat.lt_succ_self _)))
      have hH5 : BoxF gb 3 (.slice p1 lp.length q1) w5 := BoxF.grown hH h52 S4.out.sz (row_ne S4.out.r1)
      clear hH
      have hH := hH5
      clear hH5
      try dsimp only
      refine hK.out _ _ hH ?_
      clear hK K
      try simp only [Act.put, List.setIfInBounds_toArray, List.set_cons_zero, List.set_cons_succ]
      refine HeadW.take (i := 6) (oi := ?oi7) (v := ?v7) ?hi7 (by kernel_rfl) ?hQ7 (Or.inl ⟨?hg7, ?hy7⟩) hH ?rest7
      case hi7 => simp only [List.getElem?_toArray, List.getElem?_cons_succ, List.getElem?_cons_zero]; rfl
      case hQ7 => exact fun _ _ _ h => h
      case hg7 => rfl
      case hy7 => intro W hSw; have s1 := hSw; unfold BoxF at s1; go_simp; try with_reducible rfl
      case rest7 =>
      try simp only [Act.put, List.setIfInBounds_toArray, List.set_cons_zero, List.set_cons_succ]
      refine HeadW.done (by kernel_rfl) ?_
      have e0 := BX5.out.cell 0
      have e1 := BX5.out.cell 1
      have e2 := BX5.out.cell 2
      have e3 := BX5.out.cell 3
      have e4 := BX5.out.cell 4
      have i3 := BX5.out.frozen 3
      have i4 := BX5.out.frozen 4
      have e6 := BX5.out.lt
      go_wp2
      go_roundw
      case rel => exact ⟨k + 1, _, lp ++ [p], by first | rfl | go_num, by omega, Lib.hid (by rw [List.length_append, HLP.out]; rfl), Lib.hid (push_all HGP.out hok), H5⟩
      case measure => simp [intOf]; omega
    · have hp : ¬ 0 < u - (k : Int) := by omega
      have HK1 := Lib.hid (show 1 ≤ lp.length by have := HLP.out; omega)
      have HK3 := Lib.hid (show lp.length ≤ 3 by have := HLP.out; omega)
      clear HLP
      go_wp2_with fail
      go_loopw [11] (fun i wr => ∃ (k : Nat) (v2 : Value) (le : List Int), i = .int .i64 k ∧ k ≤ 6 ∧ Hid (le.length ≤ k) ∧ Hid (GoodE id k le) ∧ Hid (Ix w B g o n c z gb id ver st v1 v2 lp le wr)) (fun i _ => 7 - (intOf i).toNat)
      case atStart => exact ⟨0, _, [], rfl, by omega, Lib.hid (Nat.le_refl _), Lib.hid (GoodE.nil id), S2⟩
      case round =>
        clear S2
        obtain ⟨k, v2, le, rfl, hk, HLE, HGE, S2⟩ := hrel
        generalize hwr0 : wr = w2 at S2 ⊢
        clear hwr0
        by_cases hk6 : k < 6
        · have hk6' : (k : Int) < 6 := by omega
          by_cases hne1 : (k : Int) = id
          · have hne' : ((k : Int) != id) = false := by rw [hne1]; simp
            clear hne1
            go_wp2_with fail
            go_roundw
            case rel => exact ⟨k + 1, _, le, by go_num, by omega, Lib.hid (by have := HLE.out; omega), Lib.hid HGE.out.skip, S2⟩
            case measure => simp [intOf]; omega
          · have hne' : ((k : Int) != id) = true := by rw [bne_iff_ne]; exact hne1
            have HNE := Lib.hid hne1
            clear hne1
            go_wp2_with fail
            refine (tape_one 8 (by omega) (by omega) S2.out.tp).mono ?_
            rintro e w6 ⟨bb, rfl, ht6, hg6⟩
            have S6 := Lib.hid (S2.out.on ht6 hg6)
            clear ht6 hg6 S2
            cases bb
            · go_wp2_with fail
              go_roundw
              case rel => exact ⟨k + 1, _, le, by go_num, by omega, Lib.hid (by have := HLE.out; omega), Lib.hid HGE.out.skip, S6⟩
              case measure => simp [intOf]; omega
            · obtain ⟨p2, q2, rfl⟩ := own_any S6.out.r2
              obtain ⟨⟨e0, e1, e2, e3, e4⟩, ⟨f0, f1, f2, f3, f4⟩, e6⟩ := S6.out.facts
              have hml1 : le.length + 1 ≤ maxLen := by have := HLE.out; unfold maxLen; omega
              have hml2 : (le.length + 1) * 8 ≤ 140737488355328 := by have := HLE.out; omega
              have S7 := Lib.hid (S6.out.alloc (.cells #[.int .i64 (k : Int)] 3))
              have HLEN := Lib.hid (And.intro hml1 hml2)
              clear hml1 hml2
              have hge := e6
              go_wp2_with (at_builtin; refine wpList_append_own_at _ rfl (.tmp 43) (.tmp 45) 28 rfl (gb + 1) 3 i0 (.int .i64 0) 1 8 Try.underlying28 hi0 hz0 hz1 hz2 rfl (by decide) _ _ _ rfl S7.out.r2 ⟨w6.heap.size, 0, none⟩ 1 1 [.int .i64 (k : Int)] rfl rfl ?c1 ?c2 ?c3 ?c4 ?c5 ?_; (case c1 => exact cell_one_new _ _ _); (case c2 => intro u hu; simp at hu; subst hu; rfl); (case c3 => exact HLEN.out.1); (case c4 => exact HLEN.out.2); (case c5 => exact S7.out.sz); intro v' w3 hown3 hgrow hnil hat; obtain ⟨p5, q5, rfl⟩ := own_any hown3; have H5 := Lib.hid (S7.out.put2 hgrow hown3); have BX5 := Lib.hid (S7.out.bx.grown hgrow (row_ne S7.out.r2 gb (Nat.lt_succ_self _))); clear hown3 hgrow hnil hat e0 e1 e2 e3 e4 f0 f1 f2 f3 f4 e6; have e4 := BX5.out.cell 4; have f4 := BX5.out.frozen 4; have e6 := BX5.out.lt)
              go_roundw
              case rel => exact ⟨k + 1, _, le ++ [(k : Int)], by go_num, by omega, Lib.hid (by rw [List.length_append]; have := HLE.out; show le.length + 1 ≤ k + 1; omega), Lib.hid (HGE.out.push hk6 HNE.out), H5⟩
              case measure => simp [intOf]; omega
        · have hk6' : ¬ (k : Int) < 6 := by omega
          have HL6 := Lib.hid (show le.length ≤ 6 by have := HLE.out; omega)
          clear HLE
          obtain ⟨p1, q1, rfl⟩ := own_any S2.out.r1
          obtain ⟨p2, q2, rfl⟩ := own_any S2.out.r2
          have hgl := S2.out.gl
          have hB0 : lp.length ≤ 9 ∧ le.length ≤ 7 ∧ st.size ≤ 60 := ⟨by have := HK3.out; omega, by have := HL6.out; omega, by have := HSZ.out; omega⟩
          have HBB := Lib.hid hB0
          clear hB0
          by_cases hN0 : N = 0
          · subst hN0
            have HD := Lib.hid (fun W (hX : Ix w B g o n c z gb id ver st (.slice p1 lp.length q1) (.slice p2 le.length q2) lp le W) => hX.done (N := 0) (id0 := id) (ver0 := ver) HBB.out.1 HBB.out.2.1 HBB.out.2.2 (fun _ => ⟨itm_good ⟨HID.out.1, HID.out.2, HVER.out.1, HVER.out.2⟩ HST.out (by have := HSZ.out; omega) HGP.out HK1.out (by have := HK3.out; omega) HGE.out.1 (by have := HL6.out; omega), rfl, rfl, HK3.out⟩))
            have MID := Lib.hid (S2.out.mid0)
            have hln := S2.out.ln
            have e0 := MID.out.1.cell 0
            have e1 := MID.out.1.cell 1
            have e2 := MID.out.1.cell 2
            have e3 := MID.out.1.cell 3
            have e4 := MID.out.1.cell 4
            have ff0 := MID.out.1.frozen 0
            have ff1 := MID.out.1.frozen 1
            have ff2 := MID.out.1.frozen 2
            have ff3 := MID.out.1.frozen 3
            have ff4 := MID.out.1.frozen 4
            have e6 := MID.out.1.lt
            obtain ⟨x0, x1, x2, x3, x4, hr⟩ := MID.out.2
            have r0 := hr.cell 0
            have r1 := hr.cell 1
            have r2 := hr.cell 2
            have r3 := hr.cell 3
            have r4 := hr.cell 4
            have rf0 := hr.frozen 0
            have rf1 := hr.frozen 1
            have rf2 := hr.frozen 2
            have rf3 := hr.frozen 3
            have rf4 := hr.frozen 4
            have rl := hr.lt
            clear hr
            go_wp2_with fail
            exact bodyPost_ret (v := .agg #[.int .i64 id, .int .i64 ver, .string st, (.slice p1 lp.length q1), (.slice p2 le.length q2)]) (by simp [results, Try.results16, go_sem, r0, r1, r2, r3, r4, rl]) rfl (HD.out _ (((((S2.out.res 0 (by decide) _).res 1 (by decide) _).res 2 (by decide) _).res 3 (by decide) _).res 4 (by decide) _))
          · have hNp : 0 < N := by omega
            have HD := Lib.hid (fun id' ver' st' v1' v2' lp' le' W (hX : Ix w B g o n c z gb id' ver' st' v1' v2' lp' le' W) (h1 : lp'.length ≤ 9) (h2 : le'.length ≤ 7) (h3 : st'.size ≤ 60) => hX.done (N := N) (id0 := id) (ver0 := ver) h1 h2 h3 (fun h0 => absurd h0 hN0))
            clear hN0
            go_wp2_with fail
            refine (tape_one N (by omega) (by omega) S2.out.tp).mono ?_
            rintro e w4 ⟨bb, rfl, ht4, hg4⟩
            have S4 := Lib.hid (S2.out.on ht4 hg4)
            clear ht4 hg4 S2
            cases bb
            · have MID := Lib.hid (S4.out.mid0)
              have hln := S4.out.ln
              have e0 := MID.out.1.cell 0
              have e1 := MID.out.1.cell 1
              have e2 := MID.out.1.cell 2
              have e3 := MID.out.1.cell 3
              have e4 := MID.out.1.cell 4
              have ff0 := MID.out.1.frozen 0
              have ff1 := MID.out.1.frozen 1
              have ff2 := MID.out.1.frozen 2
              have ff3 := MID.out.1.frozen 3
              have ff4 := MID.out.1.frozen 4
              have e6 := MID.out.1.lt
              obtain ⟨x0, x1, x2, x3, x4, hr⟩ := MID.out.2
              have r0 := hr.cell 0
              have r1 := hr.cell 1
              have r2 := hr.cell 2
              have r3 := hr.cell 3
              have r4 := hr.cell 4
              have rf0 := hr.frozen 0
              have rf1 := hr.frozen 1
              have rf2 := hr.frozen 2
              have rf3 := hr.frozen 3
              have rf4 := hr.frozen 4
              have rl := hr.lt
              clear hr
              have hB := HBB.out
              go_wp2_with fail
              exact bodyPost_ret (v := .agg #[.int .i64 id, .int .i64 ver, .string st, (.slice p1 lp.length q1), (.slice p2 le.length q2)]) (by simp [results, Try.results16, go_sem, r0, r1, r2, r3, r4, rl]) rfl (HD.out _ _ _ _ _ _ _ _ (((((S4.out.res 0 (by decide) _).res 1 (by decide) _).res 2 (by decide) _).res 3 (by decide) _).res 4 (by decide) _) hB.1 hB.2.1 hB.2.2)
            · go_wp2_with fail
              refine (tape_next 7 (by omega) (by omega) S4.out.tp).mono ?_
              rintro e w5 ⟨q, ⟨hq0, hq1⟩, rfl, ht5, hg5⟩
              have S5 := Lib.hid (S4.out.on ht5 hg5)
              clear ht5 hg5 S4
              have hl3 := HK3.out
              have hl6 := HL6.out
              have hm1 : lp.length + 1 ≤ maxLen ∧ (lp.length + 1) * 48 ≤ 140737488355328 := ⟨by unfold maxLen; omega, by omega⟩
              have hm6 : lp.length + 6 ≤ maxLen ∧ (lp.length + 6) * 48 ≤ 140737488355328 := ⟨by unfold maxLen; omega, by omega⟩
              have hm2 : le.length + 1 ≤ maxLen ∧ (le.length + 1) * 8 ≤ 140737488355328 := ⟨by unfold maxLen; omega, by omega⟩
              have hB := HBB.out
              have hqs : q = 0 ∨ q = 1 ∨ q = 2 ∨ q = 3 ∨ q = 4 ∨ q = 5 ∨ q = 6 := by omega
              clear hq0 hq1
              rcases hqs with rfl | rfl | rfl | rfl | rfl | rfl | rfl
              · go_wp2_with fail
                refine (tape_wild S5.out.tp).mono ?_
                rintro e w8 ⟨vz, hvz, rfl, ht8, hg8⟩
                have S8 := Lib.hid (S5.out.on ht8 hg8)
                clear ht8 hg8 hvz
                have MID := Lib.hid (S8.out.mid0)
                have hln := S8.out.ln
                have e0 := MID.out.1.cell 0
                have e1 := MID.out.1.cell 1
                have e2 := MID.out.1.cell 2
                have e3 := MID.out.1.cell 3
                have e4 := MID.out.1.cell 4
                have ff0 := MID.out.1.frozen 0
                have ff1 := MID.out.1.frozen 1
                have ff2 := MID.out.1.frozen 2
                have ff3 := MID.out.1.frozen 3
                have ff4 := MID.out.1.frozen 4
                have e6 := MID.out.1.lt
                obtain ⟨x0, x1, x2, x3, x4, hr⟩ := MID.out.2
                have r0 := hr.cell 0
                have r1 := hr.cell 1
                have r2 := hr.cell 2
                have r3 := hr.cell 3
                have r4 := hr.cell 4
                have rf0 := hr.frozen 0
                have rf1 := hr.frozen 1
                have rf2 := hr.frozen 2
                have rf3 := hr.frozen 3
                have rf4 := hr.frozen 4
                have rl := hr.lt
                clear hr
                go_wp2_with fail
                exact bodyPost_ret (v := .agg #[.int .i64 vz, .int .i64 ver, .string st, (.slice p1 lp.length q1), (.slice p2 le.length q2)]) (by simp [results, Try.results16, go_sem, r0, r1, r2, r3, r4, rl]) rfl (HD.out _ _ _ _ _ _ _ _ ((((((S8.out.put 0 (.int .i64 vz) rfl).res 0 (by decide) _).res 1 (by decide) _).res 2 (by decide) _).res 3 (by decide) _).res 4 (by decide) _) hB.1 hB.2.1 hB.2.2)
              · go_wp2_with fail
                refine (pickL [0, 8, 9, -1] (by decide) (by decide) _ S5.out.tp).mono ?_
                rintro e w8 ⟨vz, hvz, rfl, ht8, hg8⟩
                have S8 := Lib.hid ((S5.out.alloc _).on ht8 hg8)
                clear ht8 hg8 hvz
                have MID := Lib.hid (S8.out.mid0)
                have hln := S8.out.ln
                have e0 := MID.out.1.cell 0
                have e1 := MID.out.1.cell 1
                have e2 := MID.out.1.cell 2
                have e3 := MID.out.1.cell 3
                have e4 := MID.out.1.cell 4
                have ff0 := MID.out.1.frozen 0
                have ff1 := MID.out.1.frozen 1
                have ff2 := MID.out.1.frozen 2
                have ff3 := MID.out.1.frozen 3
                have ff4 := MID.out.1.frozen 4
                have e6 := MID.out.1.lt
                obtain ⟨x0, x1, x2, x3, x4, hr⟩ := MID.out.2
                have r0 := hr.cell 0
                have r1 := hr.cell 1
                have r2 := hr.cell 2
                have r3 := hr.cell 3
                have r4 := hr.cell 4
                have rf0 := hr.frozen 0
                have rf1 := hr.frozen 1
                have rf2 := hr.frozen 2
                have rf3 := hr.frozen 3
                have rf4 := hr.frozen 4
                have rl := hr.lt
                clear hr
                go_wp2_with fail
                exact bodyPost_ret (v := .agg #[.int .i64 id, .int .i64 vz, .string st, (.slice p1 lp.length q1), (.slice p2 le.length q2)]) (by simp [results, Try.results16, go_sem, r0, r1, r2, r3, r4, rl]) rfl (HD.out _ _ _ _ _ _ _ _ ((((((S8.out.put 1 (.int .i64 vz) rfl).res 0 (by decide) _).res 1 (by decide) _).res 2 (by decide) _).res 3 (by decide) _).res 4 (by decide) _) hB.1 hB.2.1 hB.2.2)
              · go_wp2_with fail
                have S6 := Lib.hid (S5.out.alloc (.cells #[.string ⟨#[]⟩, .string ⟨#[116, 97, 98, 9]⟩, .string ⟨#[48, 49, 50, 51, 52, 53, 54, 55, 56, 57, 48, 49, 50, 51, 52, 53, 54, 55, 56, 57, 48, 49, 50, 51, 52, 53, 54, 55, 56, 57, 48, 49, 50, 51, 52, 53, 54, 55, 56, 57, 120]⟩] 9))
                have PS : Hid (Blk (w5.alloc (.cells #[.string ⟨#[]⟩, .string ⟨#[116, 97, 98, 9]⟩, .string ⟨#[48, 49, 50, 51, 52, 53, 54, 55, 56, 57, 48, 49, 50, 51, 52, 53, 54, 55, 56, 57, 48, 49, 50, 51, 52, 53, 54, 55, 56, 57, 48, 49, 50, 51, 52, 53, 54, 55, 56, 57, 120]⟩] 9)) w5.heap.size 9 #[.string ⟨#[]⟩, .string ⟨#[116, 97, 98, 9]⟩, .string ⟨#[48, 49, 50, 51, 52, 53, 54, 55, 56, 57, 48, 49, 50, 51, 52, 53, 54, 55, 56, 57, 48, 49, 50, 51, 52, 53, 54, 55, 56, 57, 48, 49, 50, 51, 52, 53, 54, 55, 56, 57, 120]⟩]) := Lib.hid (Blk.new _ _ _)
                have hsz5 := S5.out.sz
                refine (tape_next 3 (by omega) (by omega) S6.out.tp).mono ?_
                rintro e w8 ⟨qs, ⟨hs0, hs1⟩, rfl, ht8, hg8⟩
                have S8 := Lib.hid (S6.out.on ht8 hg8)
                have PS8 := Lib.hid (PS.out.grown hg8 (fun e => by injection e; have := S5.out.gl; have := S5.out.ln; omega))
                clear ht8 hg8 PS S6
                have MID := Lib.hid (S8.out.mid0)
                have hln := S8.out.ln
                have hqs : qs = 0 ∨ qs = 1 ∨ qs = 2 := by omega
                clear hs0 hs1
                have k0 := PS8.out.cell 0
                have k1 := PS8.out.cell 1
                have k2 := PS8.out.cell 2
                have e0 := MID.out.1.cell 0
                have e1 := MID.out.1.cell 1
                have e2 := MID.out.1.cell 2
                have e3 := MID.out.1.cell 3
                have e4 := MID.out.1.cell 4
                have ff0 := MID.out.1.frozen 0
                have ff1 := MID.out.1.frozen 1
                have ff2 := MID.out.1.frozen 2
                have ff3 := MID.out.1.frozen 3
                have ff4 := MID.out.1.frozen 4
                have e6 := MID.out.1.lt
                obtain ⟨x0, x1, x2, x3, x4, hr⟩ := MID.out.2
                have r0 := hr.cell 0
                have r1 := hr.cell 1
                have r2 := hr.cell 2
                have r3 := hr.cell 3
                have r4 := hr.cell 4
                have rf0 := hr.frozen 0
                have rf1 := hr.frozen 1
                have rf2 := hr.frozen 2
                have rf3 := hr.frozen 3
                have rf4 := hr.frozen 4
                have rl := hr.lt
                clear hr
                rcases hqs with rfl | rfl | rfl
                · go_wp2_with fail
                  exact bodyPost_ret (v := .agg #[.int .i64 id, .int .i64 ver, .string ⟨#[]⟩, (.slice p1 lp.length q1), (.slice p2 le.length q2)]) (by simp [results, Try.results16, go_sem, r0, r1, r2, r3, r4, rl]) rfl (HD.out _ _ _ _ _ _ _ _ ((((((S8.out.put 2 (.string ⟨#[]⟩) rfl).res 0 (by decide) _).res 1 (by decide) _).res 2 (by decide) _).res 3 (by decide) _).res 4 (by decide) _) hB.1 hB.2.1 (by decide))
                · go_wp2_with fail
                  exact bodyPost_ret (v := .agg #[.int .i64 id, .int .i64 ver, .string ⟨#[116, 97, 98, 9]⟩, (.slice p1 lp.length q1), (.slice p2 le.length q2)]) (by simp [results, Try.results16, go_sem, r0, r1, r2, r3, r4, rl]) rfl (HD.out _ _ _ _ _ _ _ _ ((((((S8.out.put 2 (.string ⟨#[116, 97, 98, 9]⟩) rfl).res 0 (by decide) _).res 1 (by decide) _).res 2 (by decide) _).res 3 (by decide) _).res 4 (by decide) _) hB.1 hB.2.1 (by decide))
                · go_wp2_with fail
                  exact bodyPost_ret (v := .agg #[.int .i64 id, .int .i64 ver, .string ⟨#[48, 49, 50, 51, 52, 53, 54, 55, 56, 57, 48, 49, 50, 51, 52, 53, 54, 55, 56, 57, 48, 49, 50, 51, 52, 53, 54, 55, 56, 57, 48, 49, 50, 51, 52, 53, 54, 55, 56, 57, 120]⟩, (.slice p1 lp.length q1), (.slice p2 le.length q2)]) (by simp [results, Try.results16, go_sem, r0, r1, r2, r3, r4, rl]) rfl (HD.out _ _ _ _ _ _ _ _ ((((((S8.out.put 2 (.string ⟨#[48, 49, 50, 51, 52, 53, 54, 55, 56, 57, 48, 49, 50, 51, 52, 53, 54, 55, 56, 57, 48, 49, 50, 51, 52, 53, 54, 55, 56, 57, 48, 49, 50, 51, 52, 53, 54, 55, 56, 57, 120]⟩) rfl).res 0 (by decide) _).res 1 (by decide) _).res 2 (by decide) _).res 3 (by decide) _).res 4 (by decide) _) hB.1 hB.2.1 (by decide))
              · have MID := Lib.hid (S5.out.mid0)
                have hln := S5.out.ln
                have e0 := MID.out.1.cell 0
                have e1 := MID.out.1.cell 1
                have e2 := MID.out.1.cell 2
                have e3 := MID.out.1.cell 3
                have e4 := MID.out.1.cell 4
                have ff0 := MID.out.1.frozen 0
                have ff1 := MID.out.1.frozen 1
                have ff2 := MID.out.1.frozen 2
                have ff3 := MID.out.1.frozen 3
                have ff4 := MID.out.1.frozen 4
                have e6 := MID.out.1.lt
                obtain ⟨x0, x1, x2, x3, x4, hr⟩ := MID.out.2
                have r0 := hr.cell 0
                have r1 := hr.cell 1
                have r2 := hr.cell 2
                have r3 := hr.cell 3
                have r4 := hr.cell 4
                have rf0 := hr.frozen 0
                have rf1 := hr.frozen 1
                have rf2 := hr.frozen 2
                have rf3 := hr.frozen 3
                have rf4 := hr.frozen 4
                have rl := hr.lt
                clear hr
                go_wp2_with fail
                exact bodyPost_ret (v := .agg #[.int .i64 id, .int .i64 ver, .string st, (.slice none 0 0), (.slice p2 le.length q2)]) (by simp [results, Try.results16, go_sem, r0, r1, r2, r3, r4, rl]) rfl (HD.out _ _ _ _ _ _ _ _ (((((S5.out.none_.res 0 (by decide) _).res 1 (by decide) _).res 2 (by decide) _).res 3 (by decide) _).res 4 (by decide) _) (by show (0 : Nat) ≤ 9; omega) hB.2.1 hB.2.2)
              · have HS0 : BoxF gb 3 (.slice p1 lp.length q1) w5.drew := S5.out.bx.cell 3
                go_wp2_with fail
                have hH : BoxF gb 3 (.slice p1 lp.length q1) w5.drew := HS0
                refine wp_region_held_tail (BoxF gb 3 (.slice p1 lp.length q1)) 7 (by kernel_rfl) (by kernel_rfl) ?_
                simp only [List.drop_succ_cons, List.drop_zero]
                refine HeadW.take (i := 0) (oi := ?oi8) (v := ?v8) ?hi8 (by kernel_rfl) ?hQ8 (Or.inl ⟨?hg8, ?hy8⟩) hH ?rest8
                case hi8 => simp only [List.getElem?_toArray, List.getElem?_cons_succ, List.getElem?_cons_zero]; rfl
                case hQ8 => exact fun _ _ _ h => h
                case hg8 => rfl
                case hy8 => intro W hSw; have s1 := hSw; unfold BoxF at s1; go_simp; try with_reducible rfl
                case rest8 =>
                try simp only [Act.put, List.setIfInBounds_toArray, List.set_cons_zero, List.set_cons_succ]
                refine HeadW.take (i := 1) (oi := ?oi9) (v := ?v9) ?hi9 (by kernel_rfl) ?hQ9 (Or.inl ⟨?hg9, ?hy9⟩) hH ?rest9
                case hi9 => simp only [List.getElem?_toArray, List.getElem?_cons_succ, List.getElem?_cons_zero]; rfl
                case hQ9 => exact fun _ _ _ h => h
                case hg9 => rfl
                case hy9 => intro W hSw; have s1 := hSw; unfold BoxF at s1; go_simp; try with_reducible rfl
                case rest9 =>
                try simp only [Act.put, List.setIfInBounds_toArray, List.set_cons_zero, List.set_cons_succ]
                refine HeadW.take (i := 2) (oi := ?oi10) (v := ?v10) ?hi10 (by kernel_rfl) ?hQ10 (Or.inl ⟨?hg10, ?hy10⟩) hH ?rest10
                case hi10 => simp only [List.getElem?_toArray, List.getElem?_cons_succ, List.getElem?_cons_zero]; rfl
                case hQ10 => exact fun _ _ _ h => h
                case hg10 => rfl
                case hy10 => intro W hSw; have s1 := hSw; unfold BoxF at s1; go_simp; try with_reducible rfl
                case rest10 =>
                try simp only [Act.put, List.setIfInBounds_toArray, List.set_cons_zero, List.set_cons_succ]
                refine HeadW.one (i := 3) (o := ?oi11) ?hi11 (by kernel_rfl) ?st11
                case hi11 => simp only [List.getElem?_toArray, List.getElem?_cons_succ, List.getElem?_cons_zero]; rfl
                case st11 =>
                intro K hK
                go_simp
                go_at_call 23
                refine (part_any 1 (by omega) (by omega) S5.out.drew.tp).mono ?_
                rintro e w6 ⟨p, rfl, ht6, hg6, _⟩
                have S6 := Lib.hid (S5.out.drew.on ht6 hg6)
                clear ht6 hg6
                clear hH
                have hH : BoxF gb 3 (.slice p1 lp.length q1) w6 := S6.out.bx.cell 3
                unfold ptC
                try dsimp only
                refine hK.out _ _ hH ?_
                clear hK K
                try simp only [Act.put, List.setIfInBounds_toArray, List.set_cons_zero, List.set_cons_succ]
                refine HeadW.one (i := 4) (o := ?oi12) ?hi12 (by kernel_rfl) ?st12
                case hi12 => simp only [List.getElem?_toArray, List.getElem?_cons_succ, List.getElem?_cons_zero]; rfl
                case st12 =>
                intro K hK
                go_simp
                have S8 := Lib.hid (S6.out.alloc (.cells #[.int .i64 p.kd, .int .i64 p.mx, .int .i64 p.tp, .int .i64 p.ob, .int .i64 p.op, .int .i64 p.ky] 23))
                clear hH
                have hH : BoxF gb 3 (.slice p1 lp.length q1) _ := S8.out.bx.cell 3
                try dsimp only
                refine hK.out _ _ hH ?_
                clear hK K
                try simp only [Act.put, List.setIfInBounds_toArray, List.set_cons_zero, List.set_cons_succ]
                refine HeadW.one (i := 5) (o := ?oi13) ?hi13 (by kernel_rfl) ?st13
                case hi13 => simp only [List.getElem?_toArray, List.getElem?_cons_succ, List.getElem?_cons_zero]; rfl
                case st13 =>
                intro K hK
                refine step_append_lies _ rfl (.tmp 111) (.tmp 114) _ rfl (gb + 1) 23 j0 (.agg #[.int .i64 0, .int .i64 0, .int .i64 0, .int .i64 0, .int .i64 0, .int .i64 0]) 6 48 Try.underlying31 hj0 hy0 hy1 hy2 rfl (by decide) _ _ _ rfl S8.out.r1 ⟨w6.heap.size, 0, none⟩ 1 1 (ptL p) rfl rfl (cell_row w6 (ptL p) _) (six_one p) (by decide) hm1.1 hm1.2 S8.out.sz _ rfl ?_
                intro gq cap w9 h51 h52 _ _
                have H9 := Lib.hid (S8.out.put1 (xs := [p]) h52 (by simpa [pCells] using h51))
                have MID := Lib.hid (S8.out.mid h52 (row_ne S8.out.r1))
                have hH5 : BoxF gb 3 (.slice p1 lp.length q1) w9 := BoxF.grown hH h52 S8.out.sz (row_ne S8.out.r1)
                clear hH
                have hH := hH5
                clear hH5
                try dsimp only
                refine hK.out _ _ hH ?_
                clear hK K
                try simp only [Act.put, List.setIfInBounds_toArray, List.set_cons_zero, List.set_cons_succ]
                refine HeadW.take (i := 6) (oi := ?oi14) (v := ?v14) ?hi14 (by kernel_rfl) ?hQ14 (Or.inl ⟨?hg14, ?hy14⟩) hH ?rest14
                case hi14 => simp only [List.getElem?_toArray, List.getElem?_cons_succ, List.getElem?_cons_zero]; rfl
                case hQ14 => exact fun _ _ _ h => h
                case hg14 => rfl
                case hy14 => intro W hSw; have s1 := hSw; unfold BoxF at s1; go_simp; try with_reducible rfl
                case rest14 =>
                try simp only [Act.put, List.setIfInBounds_toArray, List.set_cons_zero, List.set_cons_succ]
                refine HeadW.done (by kernel_rfl) ?_
                have hln := S5.out.ln
                have e0 := MID.out.1.cell 0
                have e1 := MID.out.1.cell 1
                have e2 := MID.out.1.cell 2
                have e3 := MID.out.1.cell 3
                have e4 := MID.out.1.cell 4
                have ff0 := MID.out.1.frozen 0
                have ff1 := MID.out.1.frozen 1
                have ff2 := MID.out.1.frozen 2
                have ff3 := MID.out.1.frozen 3
                have ff4 := MID.out.1.frozen 4
                have e6 := MID.out.1.lt
                obtain ⟨x0, x1, x2, x3, x4, hr⟩ := MID.out.2
                have r0 := hr.cell 0
                have r1 := hr.cell 1
                have r2 := hr.cell 2
                have r3 := hr.cell 3
                have r4 := hr.cell 4
                have rf0 := hr.frozen 0
                have rf1 := hr.frozen 1
                have rf2 := hr.frozen 2
                have rf3 := hr.frozen 3
                have rf4 := hr.frozen 4
                have rl := hr.lt
                clear hr
                go_wp2_with fail
                exact bodyPost_ret (v := .agg #[.int .i64 id, .int .i64 ver, .string st, (.slice (some ⟨gq, 0, none⟩) (lp.length + 1) cap), (.slice p2 le.length q2)]) (by simp [results, Try.results16, go_sem, r0, r1, r2, r3, r4, rl]) rfl (HD.out _ _ _ _ _ _ _ _ (((((H9.out.res 0 (by decide) _).res 1 (by decide) _).res 2 (by decide) _).res 3 (by decide) _).res 4 (by decide) _) (by rw [List.length_append]; show lp.length + 1 ≤ 9; omega) hB.2.1 hB.2.2)
              · have HS0 : BoxF gb 4 (.slice p2 le.length q2) w5.drew := S5.out.bx.cell 4
                go_wp2_with fail
                have hH : BoxF gb 4 (.slice p2 le.length q2) w5.drew := HS0
                refine wp_region_held_tail (BoxF gb 4 (.slice p2 le.length q2)) 9 (by kernel_rfl) (by kernel_rfl) ?_
                simp only [List.drop_succ_cons, List.drop_zero]
                refine HeadW.take (i := 0) (oi := ?oi15) (v := ?v15) ?hi15 (by kernel_rfl) ?hQ15 (Or.inl ⟨?hg15, ?hy15⟩) hH ?rest15
                case hi15 => simp only [List.getElem?_toArray, List.getElem?_cons_succ, List.getElem?_cons_zero]; rfl
                case hQ15 => exact fun _ _ _ h => h
                case hg15 => rfl
                case hy15 => intro W hSw; have s1 := hSw; unfold BoxF at s1; go_simp; try with_reducible rfl
                case rest15 =>
                try simp only [Act.put, List.setIfInBounds_toArray, List.set_cons_zero, List.set_cons_succ]
                refine HeadW.take (i := 1) (oi := ?oi16) (v := ?v16) ?hi16 (by kernel_rfl) ?hQ16 (Or.inl ⟨?hg16, ?hy16⟩) hH ?rest16
                case hi16 => simp only [List.getElem?_toArray, List.getElem?_cons_succ, List.getElem?_cons_zero]; rfl
                case hQ16 => exact fun _ _ _ h => h
                case hg16 => rfl
                case hy16 => intro W hSw; have s1 := hSw; unfold BoxF at s1; go_simp; try with_reducible rfl
                case rest16 =>
                try simp only [Act.put, List.setIfInBounds_toArray, List.set_cons_zero, List.set_cons_succ]
                refine HeadW.take (i := 2) (oi := ?oi17) (v := ?v17) ?hi17 (by kernel_rfl) ?hQ17 (Or.inl ⟨?hg17, ?hy17⟩) hH ?rest17
                case hi17 => simp only [List.getElem?_toArray, List.getElem?_cons_succ, List.getElem?_cons_zero]; rfl
                case hQ17 => exact fun _ _ _ h => h
                case hg17 => rfl
                case hy17 => intro W hSw; have s1 := hSw; unfold BoxF at s1; go_simp; try with_reducible rfl
                case rest17 =>
                try simp only [Act.put, List.setIfInBounds_toArray, List.set_cons_zero, List.set_cons_succ]
                refine HeadW.take (i := 3) (oi := ?oi18) (v := ?v18) ?hi18 (by kernel_rfl) ?hQ18 (Or.inl ⟨?hg18, ?hy18⟩) hH ?rest18
                case hi18 => simp only [List.getElem?_toArray, List.getElem?_cons_succ, List.getElem?_cons_zero]; rfl
                case hQ18 => exact fun _ _ _ h => h
                case hg18 => rfl
                case hy18 => intro W hSw; have s1 := hSw; unfold BoxF at s1; go_simp; try with_reducible rfl
                case rest18 =>
                try simp only [Act.put, List.setIfInBounds_toArray, List.set_cons_zero, List.set_cons_succ]
                refine HeadW.one (i := 4) (o := ?oi19) ?hi19 (by kernel_rfl) ?st19
                case hi19 => simp only [List.getElem?_toArray, List.getElem?_cons_succ, List.getElem?_cons_zero]; rfl
                case st19 =>
                intro K hK
                go_simp
                have S6 := Lib.hid (S5.out.drew.alloc (.cells #[.int .i64 0, .int .i64 id, .int .i64 (-1), .int .i64 10000, .int .i64 3] 3))
                clear hH
                have hH : BoxF gb 4 (.slice p2 le.length q2) _ := S6.out.bx.cell 4
                try dsimp only
                refine hK.out _ _ hH ?_
                clear hK K
                try simp only [Act.put, List.setIfInBounds_toArray, List.set_cons_zero, List.set_cons_succ]
                refine HeadW.one (i := 5) (o := ?oi20) ?hi20 (by kernel_rfl) ?st20
                case hi20 => simp only [List.getElem?_toArray, List.getElem?_cons_succ, List.getElem?_cons_zero]; rfl
                case st20 =>
                intro K hK
                go_simp
                go_at_call 41
                refine (pickL [0, id, -1, 10000, 3] (by simp) (by simp) w5.drew S5.out.drew.tp).mono ?_
                rintro e w6 ⟨vz, hvz, rfl, ht6, hg6⟩
                have S7 := Lib.hid (S6.out.on ht6 hg6)
                clear ht6 hg6 hvz
                clear hH
                have hH : BoxF gb 4 (.slice p2 le.length q2) w6 := S7.out.bx.cell 4
                try dsimp only
                refine hK.out _ _ hH ?_
                clear hK K
                try simp only [Act.put, List.setIfInBounds_toArray, List.set_cons_zero, List.set_cons_succ]
                refine HeadW.one (i := 6) (o := ?oi21) ?hi21 (by kernel_rfl) ?st21
                case hi21 => simp only [List.getElem?_toArray, List.getElem?_cons_succ, List.getElem?_cons_zero]; rfl
                case st21 =>
                intro K hK
                go_simp
                have S8 := Lib.hid (S7.out.alloc (.cells #[.int .i64 vz] 3))
                clear hH
                have hH : BoxF gb 4 (.slice p2 le.length q2) _ := S8.out.bx.cell 4
                try dsimp only
                refine hK.out _ _ hH ?_
                clear hK K
                try simp only [Act.put, List.setIfInBounds_toArray, List.set_cons_zero, List.set_cons_succ]
                refine HeadW.one (i := 7) (o := ?oi22) ?hi22 (by kernel_rfl) ?st22
                case hi22 => simp only [List.getElem?_toArray, List.getElem?_cons_succ, List.getElem?_cons_zero]; rfl
                case st22 =>
                intro K hK
                refine step_append_lies _ rfl (.tmp 120) (.tmp 125) _ rfl (gb + 1) 3 i0 (.int .i64 0) 1 8 Try.underlying28 hi0 hz0 hz1 hz2 rfl (by decide) _ _ _ rfl S8.out.r2 ⟨w6.heap.size, 0, none⟩ 1 1 [.int .i64 vz] rfl rfl (cell_one_new _ _ _) (oneCell1 _ rfl) (by decide) hm2.1 hm2.2 S8.out.sz _ rfl ?_
                intro gq cap w9 h51 h52 _ _
                have H9 := Lib.hid (S8.out.put2 (x := vz) h52 h51)
                have MID := Lib.hid (S8.out.mid h52 (row_ne S8.out.r2))
                have hH5 : BoxF gb 4 (.slice p2 le.length q2) w9 := BoxF.grown hH h52 S8.out.sz (row_ne S8.out.r2)
                clear hH
                have hH := hH5
                clear hH5
                try dsimp only
                refine hK.out _ _ hH ?_
                clear hK K
                try simp only [Act.put, List.setIfInBounds_toArray, List.set_cons_zero, List.set_cons_succ]
                refine HeadW.take (i := 8) (oi := ?oi23) (v := ?v23) ?hi23 (by kernel_rfl) ?hQ23 (Or.inl ⟨?hg23, ?hy23⟩) hH ?rest23
                case hi23 => simp only [List.getElem?_toArray, List.getElem?_cons_succ, List.getElem?_cons_zero]; rfl
                case hQ23 => exact fun _ _ _ h => h
                case hg23 => rfl
                case hy23 => intro W hSw; have s1 := hSw; unfold BoxF at s1; go_simp; try with_reducible rfl
                case rest23 =>
                try simp only [Act.put, List.setIfInBounds_toArray, List.set_cons_zero, List.set_cons_succ]
                refine HeadW.done (by kernel_rfl) ?_
                have hln := S5.out.ln
                have e0 := MID.out.1.cell 0
                have e1 := MID.out.1.cell 1
                have e2 := MID.out.1.cell 2
                have e3 := MID.out.1.cell 3
                have e4 := MID.out.1.cell 4
                have ff0 := MID.out.1.frozen 0
                have ff1 := MID.out.1.frozen 1
                have ff2 := MID.out.1.frozen 2
                have ff3 := MID.out.1.frozen 3
                have ff4 := MID.out.1.frozen 4
                have e6 := MID.out.1.lt
                obtain ⟨x0, x1, x2, x3, x4, hr⟩ := MID.out.2
                have r0 := hr.cell 0
                have r1 := hr.cell 1
                have r2 := hr.cell 2
                have r3 := hr.cell 3
                have r4 := hr.cell 4
                have rf0 := hr.frozen 0
                have rf1 := hr.frozen 1
                have rf2 := hr.frozen 2
                have rf3 := hr.frozen 3
                have rf4 := hr.frozen 4
                have rl := hr.lt
                clear hr
                go_wp2_with fail
                exact bodyPost_ret (v := .agg #[.int .i64 id, .int .i64 ver, .string st, (.slice p1 lp.length q1), (.slice (some ⟨gq, 0, none⟩) (le.length + 1) cap)]) (by simp [results, Try.results16, go_sem, r0, r1, r2, r3, r4, rl]) rfl (HD.out _ _ _ _ _ _ _ _ (((((H9.out.res 0 (by decide) _).res 1 (by decide) _).res 2 (by decide) _).res 3 (by decide) _).res 4 (by decide) _) hB.1 (by rw [List.length_append]; show le.length + 1 ≤ 7; omega) hB.2.2)
              · obtain ⟨o', c', hv', _, hrow⟩ := rowP_own S5.out.r1
                obtain ⟨bp, fp, ho, hlt, c0, c1', c2', c3, c4, c5⟩ := hrow 0 (by have := HK1.out; omega)
                injection hv' with e1 _ e3
                rw [ho] at e1
                subst e1
                subst e3
                clear ho hrow
                rw [Nat.zero_mul, Nat.add_zero] at c0 c1' c2' c3 c4 c5
                generalize ptAt lp 0 = xq at c0 c1' c2' c3 c4 c5
                have hl1 : (0 : Int) < (lp.length : Int) := by have := HK1.out; omega
                have hl1' : 0 < lp.length := by have := HK1.out; omega
                have b0 := S5.out.bx.cell 3
                have bl0 := S5.out.bx.lt
                go_wp2_with fail
                have hH : BoxP gb 3 (.slice (some ⟨bp, fp, none⟩) lp.length q1) bp fp xq w5.drew := ⟨b0, c0, c1', c2', c3, c4, c5⟩
                refine wp_region_held_tail (BoxP gb 3 (.slice (some ⟨bp, fp, none⟩) lp.length q1) bp fp xq) 27 (by kernel_rfl) (by kernel_rfl) ?_
                simp only [List.drop_succ_cons, List.drop_zero]
                refine HeadW.take (i := 0) (oi := ?oi24) (v := ?v24) ?hi24 (by kernel_rfl) ?hQ24 (Or.inl ⟨?hg24, ?hy24⟩) hH ?rest24
                case hi24 => simp only [List.getElem?_toArray, List.getElem?_cons_succ, List.getElem?_cons_zero]; rfl
                case hQ24 => exact fun _ _ _ h => h
                case hg24 => rfl
                case hy24 => intro W hSw; obtain ⟨s1, k0, k1, k2, k3, k4, k5⟩ := hSw; go_simp; try with_reducible rfl
                case rest24 =>
                try simp only [Act.put, List.setIfInBounds_toArray, List.set_cons_zero, List.set_cons_succ]
                refine HeadW.take (i := 1) (oi := ?oi25) (v := ?v25) ?hi25 (by kernel_rfl) ?hQ25 (Or.inl ⟨?hg25, ?hy25⟩) hH ?rest25
                case hi25 => simp only [List.getElem?_toArray, List.getElem?_cons_succ, List.getElem?_cons_zero]; rfl
                case hQ25 => exact fun _ _ _ h => h
                case hg25 => rfl
                case hy25 => intro W hSw; obtain ⟨s1, k0, k1, k2, k3, k4, k5⟩ := hSw; go_simp; try with_reducible rfl
                case rest25 =>
                try simp only [Act.put, List.setIfInBounds_toArray, List.set_cons_zero, List.set_cons_succ]
                refine HeadW.take (i := 2) (oi := ?oi26) (v := ?v26) ?hi26 (by kernel_rfl) ?hQ26 (Or.inl ⟨?hg26, ?hy26⟩) hH ?rest26
                case hi26 => simp only [List.getElem?_toArray, List.getElem?_cons_succ, List.getElem?_cons_zero]; rfl
                case hQ26 => exact fun _ _ _ h => h
                case hg26 => rfl
                case hy26 => intro W hSw; obtain ⟨s1, k0, k1, k2, k3, k4, k5⟩ := hSw; go_simp; try with_reducible rfl
                case rest26 =>
                try simp only [Act.put, List.setIfInBounds_toArray, List.set_cons_zero, List.set_cons_succ]
                refine HeadW.take (i := 3) (oi := ?oi27) (v := ?v27) ?hi27 (by kernel_rfl) ?hQ27 (Or.inl ⟨?hg27, ?hy27⟩) hH ?rest27
                case hi27 => simp only [List.getElem?_toArray, List.getElem?_cons_succ, List.getElem?_cons_zero]; rfl
                case hQ27 => exact fun _ _ _ h => h
                case hg27 => rfl
                case hy27 => intro W hSw; obtain ⟨s1, k0, k1, k2, k3, k4, k5⟩ := hSw; go_simp; try with_reducible rfl
                case rest27 =>
                try simp only [Act.put, List.setIfInBounds_toArray, List.set_cons_zero, List.set_cons_succ]
                refine HeadW.take (i := 4) (oi := ?oi28) (v := ?v28) ?hi28 (by kernel_rfl) ?hQ28 (Or.inl ⟨?hg28, ?hy28⟩) hH ?rest28
                case hi28 => simp only [List.getElem?_toArray, List.getElem?_cons_succ, List.getElem?_cons_zero]; rfl
                case hQ28 => exact fun _ _ _ h => h
                case hg28 => rfl
                case hy28 => intro W hSw; obtain ⟨s1, k0, k1, k2, k3, k4, k5⟩ := hSw; go_simp; try with_reducible rfl
                case rest28 =>
                try simp only [Act.put, List.setIfInBounds_toArray, List.set_cons_zero, List.set_cons_succ]
                refine HeadW.take (i := 5) (oi := ?oi29) (v := ?v29) ?hi29 (by kernel_rfl) ?hQ29 (Or.inl ⟨?hg29, ?hy29⟩) hH ?rest29
                case hi29 => simp only [List.getElem?_toArray, List.getElem?_cons_succ, List.getElem?_cons_zero]; rfl
                case hQ29 => exact fun _ _ _ h => h
                case hg29 => rfl
                case hy29 => intro W hSw; obtain ⟨s1, k0, k1, k2, k3, k4, k5⟩ := hSw; go_simp; try with_reducible rfl
                case rest29 =>
                try simp only [Act.put, List.setIfInBounds_toArray, List.set_cons_zero, List.set_cons_succ]
                refine HeadW.take (i := 6) (oi := ?oi30) (v := ?v30) ?hi30 (by kernel_rfl) ?hQ30 (Or.inl ⟨?hg30, ?hy30⟩) hH ?rest30
                case hi30 => simp only [List.getElem?_toArray, List.getElem?_cons_succ, List.getElem?_cons_zero]; rfl
                case hQ30 => exact fun _ _ _ h => h
                case hg30 => rfl
                case hy30 => intro W hSw; obtain ⟨s1, k0, k1, k2, k3, k4, k5⟩ := hSw; go_simp; try with_reducible rfl
                case rest30 =>
                try simp only [Act.put, List.setIfInBounds_toArray, List.set_cons_zero, List.set_cons_succ]
                refine HeadW.take (i := 7) (oi := ?oi31) (v := ?v31) ?hi31 (by kernel_rfl) ?hQ31 (Or.inl ⟨?hg31, ?hy31⟩) hH ?rest31
                case hi31 => simp only [List.getElem?_toArray, List.getElem?_cons_succ, List.getElem?_cons_zero]; rfl
                case hQ31 => exact fun _ _ _ h => h
                case hg31 => rfl
                case hy31 => intro W hSw; obtain ⟨s1, k0, k1, k2, k3, k4, k5⟩ := hSw; go_simp; try with_reducible rfl
                case rest31 =>
                try simp only [Act.put, List.setIfInBounds_toArray, List.set_cons_zero, List.set_cons_succ]
                refine HeadW.take (i := 8) (oi := ?oi32) (v := ?v32) ?hi32 (by kernel_rfl) ?hQ32 (Or.inl ⟨?hg32, ?hy32⟩) hH ?rest32
                case hi32 => simp only [List.getElem?_toArray, List.getElem?_cons_succ, List.getElem?_cons_zero]; rfl
                case hQ32 => exact fun _ _ _ h => h
                case hg32 => rfl
                case hy32 => intro W hSw; obtain ⟨s1, k0, k1, k2, k3, k4, k5⟩ := hSw; go_simp; try with_reducible rfl
                case rest32 =>
                try simp only [Act.put, List.setIfInBounds_toArray, List.set_cons_zero, List.set_cons_succ]
                refine HeadW.take (i := 9) (oi := ?oi33) (v := ?v33) ?hi33 (by kernel_rfl) ?hQ33 (Or.inl ⟨?hg33, ?hy33⟩) hH ?rest33
                case hi33 => simp only [List.getElem?_toArray, List.getElem?_cons_succ, List.getElem?_cons_zero]; rfl
                case hQ33 => exact fun _ _ _ h => h
                case hg33 => rfl
                case hy33 => intro W hSw; obtain ⟨s1, k0, k1, k2, k3, k4, k5⟩ := hSw; go_simp; try with_reducible rfl
                case rest33 =>
                try simp only [Act.put, List.setIfInBounds_toArray, List.set_cons_zero, List.set_cons_succ]
                refine HeadW.take (i := 10) (oi := ?oi34) (v := ?v34) ?hi34 (by kernel_rfl) ?hQ34 (Or.inl ⟨?hg34, ?hy34⟩) hH ?rest34
                case hi34 => simp only [List.getElem?_toArray, List.getElem?_cons_succ, List.getElem?_cons_zero]; rfl
                case hQ34 => exact fun _ _ _ h => h
                case hg34 => rfl
                case hy34 => intro W hSw; obtain ⟨s1, k0, k1, k2, k3, k4, k5⟩ := hSw; go_simp; try with_reducible rfl
                case rest34 =>
                try simp only [Act.put, List.setIfInBounds_toArray, List.set_cons_zero, List.set_cons_succ]
                refine HeadW.take (i := 11) (oi := ?oi35) (v := ?v35) ?hi35 (by kernel_rfl) ?hQ35 (Or.inl ⟨?hg35, ?hy35⟩) hH ?rest35
                case hi35 => simp only [List.getElem?_toArray, List.getElem?_cons_succ, List.getElem?_cons_zero]; rfl
                case hQ35 => exact fun _ _ _ h => h
                case hg35 => rfl
                case hy35 => intro W hSw; obtain ⟨s1, k0, k1, k2, k3, k4, k5⟩ := hSw; go_simp; try with_reducible rfl
                case rest35 =>
                try simp only [Act.put, List.setIfInBounds_toArray, List.set_cons_zero, List.set_cons_succ]
                refine HeadW.take (i := 12) (oi := ?oi36) (v := ?v36) ?hi36 (by kernel_rfl) ?hQ36 (Or.inl ⟨?hg36, ?hy36⟩) hH ?rest36
                case hi36 => simp only [List.getElem?_toArray, List.getElem?_cons_succ, List.getElem?_cons_zero]; rfl
                case hQ36 => exact fun _ _ _ h => h
                case hg36 => rfl
                case hy36 => intro W hSw; obtain ⟨s1, k0, k1, k2, k3, k4, k5⟩ := hSw; go_simp; try with_reducible rfl
                case rest36 =>
                try simp only [Act.put, List.setIfInBounds_toArray, List.set_cons_zero, List.set_cons_succ]
                refine HeadW.take (i := 13) (oi := ?oi37) (v := ?v37) ?hi37 (by kernel_rfl) ?hQ37 (Or.inl ⟨?hg37, ?hy37⟩) hH ?rest37
                case hi37 => simp only [List.getElem?_toArray, List.getElem?_cons_succ, List.getElem?_cons_zero]; rfl
                case hQ37 => exact fun _ _ _ h => h
                case hg37 => rfl
                case hy37 => intro W hSw; obtain ⟨s1, k0, k1, k2, k3, k4, k5⟩ := hSw; go_simp; try with_reducible rfl
                case rest37 =>
                try simp only [Act.put, List.setIfInBounds_toArray, List.set_cons_zero, List.set_cons_succ]
                refine HeadW.take (i := 14) (oi := ?oi38) (v := ?v38) ?hi38 (by kernel_rfl) ?hQ38 (Or.inl ⟨?hg38, ?hy38⟩) hH ?rest38
                case hi38 => simp only [List.getElem?_toArray, List.getElem?_cons_succ, List.getElem?_cons_zero]; rfl
                case hQ38 => exact fun _ _ _ h => h
                case hg38 => rfl
                case hy38 => intro W hSw; obtain ⟨s1, k0, k1, k2, k3, k4, k5⟩ := hSw; go_simp; try with_reducible rfl
                case rest38 =>
                try simp only [Act.put, List.setIfInBounds_toArray, List.set_cons_zero, List.set_cons_succ]
                refine HeadW.take (i := 15) (oi := ?oi39) (v := ?v39) ?hi39 (by kernel_rfl) ?hQ39 (Or.inl ⟨?hg39, ?hy39⟩) hH ?rest39
                case hi39 => simp only [List.getElem?_toArray, List.getElem?_cons_succ, List.getElem?_cons_zero]; rfl
                case hQ39 => exact fun _ _ _ h => h
                case hg39 => rfl
                case hy39 => intro W hSw; obtain ⟨s1, k0, k1, k2, k3, k4, k5⟩ := hSw; go_simp; try with_reducible rfl
                case rest39 =>
                try simp only [Act.put, List.setIfInBounds_toArray, List.set_cons_zero, List.set_cons_succ]
                refine HeadW.take (i := 16) (oi := ?oi40) (v := ?v40) ?hi40 (by kernel_rfl) ?hQ40 (Or.inl ⟨?hg40, ?hy40⟩) hH ?rest40
                case hi40 => simp only [List.getElem?_toArray, List.getElem?_cons_succ, List.getElem?_cons_zero]; rfl
                case hQ40 => exact fun _ _ _ h => h
                case hg40 => rfl
                case hy40 => intro W hSw; obtain ⟨s1, k0, k1, k2, k3, k4, k5⟩ := hSw; go_simp; try with_reducible rfl
                case rest40 =>
                try simp only [Act.put, List.setIfInBounds_toArray, List.set_cons_zero, List.set_cons_succ]
                refine HeadW.take (i := 17) (oi := ?oi41) (v := ?v41) ?hi41 (by kernel_rfl) ?hQ41 (Or.inl ⟨?hg41, ?hy41⟩) hH ?rest41
                case hi41 => simp only [List.getElem?_toArray, List.getElem?_cons_succ, List.getElem?_cons_zero]; rfl
                case hQ41 => exact fun _ _ _ h => h
                case hg41 => rfl
                case hy41 => intro W hSw; obtain ⟨s1, k0, k1, k2, k3, k4, k5⟩ := hSw; go_simp; try with_reducible rfl
                case rest41 =>
                try simp only [Act.put, List.setIfInBounds_toArray, List.set_cons_zero, List.set_cons_succ]
                refine HeadW.take (i := 18) (oi := ?oi42) (v := ?v42) ?hi42 (by kernel_rfl) ?hQ42 (Or.inl ⟨?hg42, ?hy42⟩) hH ?rest42
                case hi42 => simp only [List.getElem?_toArray, List.getElem?_cons_succ, List.getElem?_cons_zero]; rfl
                case hQ42 => exact fun _ _ _ h => h
                case hg42 => rfl
                case hy42 => intro W hSw; obtain ⟨s1, k0, k1, k2, k3, k4, k5⟩ := hSw; go_simp; try with_reducible rfl
                case rest42 =>
                try simp only [Act.put, List.setIfInBounds_toArray, List.set_cons_zero, List.set_cons_succ]
                refine HeadW.take (i := 19) (oi := ?oi43) (v := ?v43) ?hi43 (by kernel_rfl) ?hQ43 (Or.inl ⟨?hg43, ?hy43⟩) hH ?rest43
                case hi43 => simp only [List.getElem?_toArray, List.getElem?_cons_succ, List.getElem?_cons_zero]; rfl
                case hQ43 => exact fun _ _ _ h => h
                case hg43 => rfl
                case hy43 => intro W hSw; obtain ⟨s1, k0, k1, k2, k3, k4, k5⟩ := hSw; go_simp; try with_reducible rfl
                case rest43 =>
                try simp only [Act.put, List.setIfInBounds_toArray, List.set_cons_zero, List.set_cons_succ]
                refine HeadW.take (i := 20) (oi := ?oi44) (v := ?v44) ?hi44 (by kernel_rfl) ?hQ44 (Or.inl ⟨?hg44, ?hy44⟩) hH ?rest44
                case hi44 => simp only [List.getElem?_toArray, List.getElem?_cons_succ, List.getElem?_cons_zero]; rfl
                case hQ44 => exact fun _ _ _ h => h
                case hg44 => rfl
                case hy44 => intro W hSw; obtain ⟨s1, k0, k1, k2, k3, k4, k5⟩ := hSw; go_simp; try with_reducible rfl
                case rest44 =>
                try simp only [Act.put, List.setIfInBounds_toArray, List.set_cons_zero, List.set_cons_succ]
                refine HeadW.take (i := 21) (oi := ?oi45) (v := ?v45) ?hi45 (by kernel_rfl) ?hQ45 (Or.inl ⟨?hg45, ?hy45⟩) hH ?rest45
                case hi45 => simp only [List.getElem?_toArray, List.getElem?_cons_succ, List.getElem?_cons_zero]; rfl
                case hQ45 => exact fun _ _ _ h => h
                case hg45 => rfl
                case hy45 => intro W hSw; obtain ⟨s1, k0, k1, k2, k3, k4, k5⟩ := hSw; go_simp; try with_reducible rfl
                case rest45 =>
                try simp only [Act.put, List.setIfInBounds_toArray, List.set_cons_zero, List.set_cons_succ]
                refine HeadW.take (i := 22) (oi := ?oi46) (v := ?v46) ?hi46 (by kernel_rfl) ?hQ46 (Or.inl ⟨?hg46, ?hy46⟩) hH ?rest46
                case hi46 => simp only [List.getElem?_toArray, List.getElem?_cons_succ, List.getElem?_cons_zero]; rfl
                case hQ46 => exact fun _ _ _ h => h
                case hg46 => rfl
                case hy46 => intro W hSw; obtain ⟨s1, k0, k1, k2, k3, k4, k5⟩ := hSw; go_simp; try with_reducible rfl
                case rest46 =>
                try simp only [Act.put, List.setIfInBounds_toArray, List.set_cons_zero, List.set_cons_succ]
                refine HeadW.take (i := 23) (oi := ?oi47) (v := ?v47) ?hi47 (by kernel_rfl) ?hQ47 (Or.inl ⟨?hg47, ?hy47⟩) hH ?rest47
                case hi47 => simp only [List.getElem?_toArray, List.getElem?_cons_succ, List.getElem?_cons_zero]; rfl
                case hQ47 => exact fun _ _ _ h => h
                case hg47 => rfl
                case hy47 => intro W hSw; obtain ⟨s1, k0, k1, k2, k3, k4, k5⟩ := hSw; go_simp; try with_reducible rfl
                case rest47 =>
                try simp only [Act.put, List.setIfInBounds_toArray, List.set_cons_zero, List.set_cons_succ]
                refine HeadW.take (i := 24) (oi := ?oi48) (v := ?v48) ?hi48 (by kernel_rfl) ?hQ48 (Or.inl ⟨?hg48, ?hy48⟩) hH ?rest48
                case hi48 => simp only [List.getElem?_toArray, List.getElem?_cons_succ, List.getElem?_cons_zero]; rfl
                case hQ48 => exact fun _ _ _ h => h
                case hg48 => rfl
                case hy48 => intro W hSw; obtain ⟨s1, k0, k1, k2, k3, k4, k5⟩ := hSw; go_simp; try with_reducible rfl
                case rest48 =>
                try simp only [Act.put, List.setIfInBounds_toArray, List.set_cons_zero, List.set_cons_succ]
                refine HeadW.take (i := 25) (oi := ?oi49) (v := ?v49) ?hi49 (by kernel_rfl) ?hQ49 (Or.inl ⟨?hg49, ?hy49⟩) hH ?rest49
                case hi49 => simp only [List.getElem?_toArray, List.getElem?_cons_succ, List.getElem?_cons_zero]; rfl
                case hQ49 => exact fun _ _ _ h => h
                case hg49 => rfl
                case hy49 => intro W hSw; obtain ⟨s1, k0, k1, k2, k3, k4, k5⟩ := hSw; go_simp; try with_reducible rfl
                case rest49 =>
                try simp only [Act.put, List.setIfInBounds_toArray, List.set_cons_zero, List.set_cons_succ]
                refine HeadW.one (i := 26) (o := ?oi50) ?hi50 (by kernel_rfl) ?st50
                case hi50 => simp only [List.getElem?_toArray, List.getElem?_cons_succ, List.getElem?_cons_zero]; rfl
                case st50 =>
                intro K hK
                go_simp
                have hA := bAl (Below.refl _ w5.drew) (.cells (pCells [xq, xq, xq, xq, xq, xq]).toArray 23)
                have hH2 : BoxP gb 3 (.slice (some ⟨bp, fp, none⟩) lp.length q1) bp fp xq (w5.drew.alloc (.cells (pCells [xq, xq, xq, xq, xq, xq]).toArray 23)) := ⟨(hA.cell (p := ⟨gb, 3, none⟩) bl0).trans hH.1, (hA.cell (p := ⟨bp, fp, none⟩) hlt).trans hH.2.1, (hA.cell (p := ⟨bp, fp + 1, none⟩) hlt).trans hH.2.2.1, (hA.cell (p := ⟨bp, fp + 2, none⟩) hlt).trans hH.2.2.2.1, (hA.cell (p := ⟨bp, fp + 3, none⟩) hlt).trans hH.2.2.2.2.1, (hA.cell (p := ⟨bp, fp + 4, none⟩) hlt).trans hH.2.2.2.2.2.1, (hA.cell (p := ⟨bp, fp + 5, none⟩) hlt).trans hH.2.2.2.2.2.2⟩
                clear hA
                try dsimp only
                refine hK.out _ _ hH2 ?_
                clear hK K
                try simp only [Act.put, List.setIfInBounds_toArray, List.set_cons_zero, List.set_cons_succ]

                refine HeadW.done (by kernel_rfl) ?_
                clear b0 bl0 hH
                have S6 := Lib.hid S5.out.drew
                have S8 := Lib.hid (S6.out.alloc (.cells (pCells [xq, xq, xq, xq, xq, xq]).toArray 23))
                clear c0 c1' c2' c3 c4 c5
                have b3 := S6.out.bx.cell 3
                have bl := S6.out.bx.lt
                have hln := S6.out.ln
                go_wp2_with (at_builtin; refine wpList_append_own_at _ rfl (.tmp 58) (.tmp 83) 31 rfl (gb + 1) 23 j0 (.agg #[.int .i64 0, .int .i64 0, .int .i64 0, .int .i64 0, .int .i64 0, .int .i64 0]) 6 48 Try.underlying31 hj0 hy0 hy1 hy2 rfl (by decide) _ _ _ ?ch S8.out.r1 ⟨w5.heap.size, 0, none⟩ 6 6 (pCells [xq, xq, xq, xq, xq, xq]) ?cx rfl ?c1 ?c2 hm6.1 hm6.2 S8.out.sz ?_; (case ch => rfl); (case cx => rfl); (case c1 => exact cell_row w5.drew (pCells [xq, xq, xq, xq, xq, xq]) _); (case c2 => exact parts_one _); intro v6 w9 hown6 hgrow6 hnil6 hat6; obtain ⟨p6, q6, rfl⟩ := own_any hown6; have H9 := Lib.hid (S8.out.put1 (xs := [xq, xq, xq, xq, xq, xq]) hgrow6 hown6); have MID := Lib.hid (S8.out.mid hgrow6 (row_ne S8.out.r1)); have e0 := MID.out.1.cell 0; have e1 := MID.out.1.cell 1; have e2 := MID.out.1.cell 2; have e3 := MID.out.1.cell 3; have e4 := MID.out.1.cell 4; have ff0 := MID.out.1.frozen 0; have ff1 := MID.out.1.frozen 1; have ff2 := MID.out.1.frozen 2; have ff3 := MID.out.1.frozen 3; have ff4 := MID.out.1.frozen 4; have e6 := MID.out.1.lt; obtain ⟨x0, x1, x2, x3, x4, hr⟩ := MID.out.2; have r0 := hr.cell 0; have r1 := hr.cell 1; have r2 := hr.cell 2; have r3 := hr.cell 3; have r4 := hr.cell 4; have rf0 := hr.frozen 0; have rf1 := hr.frozen 1; have rf2 := hr.frozen 2; have rf3 := hr.frozen 3; have rf4 := hr.frozen 4; have rl := hr.lt; clear hr; clear hown6 hgrow6 hnil6 hat6 b3 bl)
                exact bodyPost_ret (v := .agg #[.int .i64 id, .int .i64 ver, .string st, (.slice p6 (lp.length + 6) q6), (.slice p2 le.length q2)]) (by simp [results, Try.results16, go_sem, r0, r1, r2, r3, r4, rl]) rfl (HD.out _ _ _ _ _ _ _ _ (((((H9.out.res 0 (by decide) _).res 1 (by decide) _).res 2 (by decide) _).res 3 (by decide) _).res 4 (by decide) _) (by rw [List.length_append]; show lp.length + 6 ≤ 9; omega) hB.2.1 hB.2.2)

end Go.Proofs.Ytjciniffkdadaaa
