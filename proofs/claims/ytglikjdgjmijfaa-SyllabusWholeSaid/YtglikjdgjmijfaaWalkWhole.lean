/-
  The walk of the statement that the shares of all components add up to 1.
-/
import Derived.Test.YtglikjdgjmijfaaSKit
import Derived.Test.YtglikjdgjmijfaaSWholeM
namespace Go.Proofs.Ytglikjdgjmijfaa
open Go.RowKit
set_option linter.unusedSimpArgs false
set_option linter.unusedVariables false

theorem rat_info : (Try.prog.info? 50).map (fun i => (i.zero, i.size, i.bytes)) = some (some (.agg #[.int .i64 0, .int .i64 0]), 2, 16) := by kernel_rfl
def rCells (l : List Fr) : List Value := l.flatMap fun x => [.int .i64 x.1, .int .i64 x.2]
theorem rCells_snoc (l : List Fr) (x : Fr) : rCells (l ++ [x]) = rCells l ++ [.int .i64 x.1, .int .i64 x.2] := by unfold rCells; simp
theorem rCells_at : ∀ (l : List Fr) (j : Nat) (x : Fr), l[j]? = some x → (rCells l)[j * 2]? = some (.int .i64 x.1) ∧ (rCells l)[j * 2 + 1]? = some (.int .i64 x.2)
  | [], j, x, h => by simp at h
  | a :: t, 0, x, h => by simp at h; subst h; simp [rCells]
  | a :: t, j + 1, x, h => by
    have ih := rCells_at t j x (by simpa using h)
    have e : rCells (a :: t) = .int .i64 a.1 :: .int .i64 a.2 :: rCells t := by simp [rCells]
    rw [e, show (j + 1) * 2 = j * 2 + 1 + 1 by omega]
    simp only [List.getElem?_cons_succ]
    exact ih
theorem rowR_own {w : World} {B : Nat} {v : Value} {e : TypeId} {lt : List Fr} (h : w.ownsRow B e 2 v lt.length (rCells lt)) : ∃ o c, v = .slice o lt.length c ∧ lt.length ≤ c ∧ RowR w w.heap.size o lt.length (fun i => lt.getD i (0, 0)) := by
  rcases h.2 with ⟨rfl, h0⟩ | ⟨g, cap, cur, rfl, hb, hc, hmc, hm, _⟩
  · exact ⟨none, 0, by rw [h0], by omega, fun i hi => by omega⟩
  · refine ⟨_, cap, rfl, hmc, fun i hi => ⟨g, 0, rfl, (Array.getElem?_eq_some_iff.1 hc).1, ?_⟩⟩
    obtain ⟨e0, e1⟩ := rCells_at lt i _ (getD_at (d := (0, 0)) hi)
    exact ⟨by rw [Nat.zero_add]; exact (h.cellAt (i * 2) (by omega)).trans e0, by rw [Nat.zero_add]; exact (h.cellAt (i * 2 + 1) (by omega)).trans e1⟩
structure Wx (w0 : World) (gb : Nat) (v1 v2 v3 v : Value) (ls : List Fr) (wr : World) : Prop where
  be : Below w0.heap.size w0 wr
  bx : Blk wr gb 27 #[v1, v2, v3]
  r1 : wr.ownsRow (gb + 1) 50 2 v ls.length (rCells ls)
  gs : gb = w0.heap.size
section
variable {w0 : World} {gb : Nat} {v1 v2 v3 v : Value} {ls : List Fr} {wr w2 : World}
theorem Wx.later (h : Wx w0 gb v1 v2 v3 v ls wr) (hb : Below wr.heap.size wr w2) : Wx w0 gb v1 v2 v3 v ls w2 := ⟨bTr h.be hb, h.bx.later hb, own_later h.r1 hb, h.gs⟩
theorem Wx.push (h : Wx w0 gb v1 v2 v3 v ls wr) {v' : Value} {x : Fr} (hg : wr.grownBy w2 v.ownBlock) (h3 : w2.ownsRow (gb + 1) 50 2 v' (ls.length + 1) (rCells ls ++ [.int .i64 x.1, .int .i64 x.2])) : Wx w0 gb v1 v2 v3 v' (ls ++ [x]) w2 := by
  have hs := h.gs
  have hl := h.bx.lt
  refine ⟨h.be.grown hg (by omega) (fun j hj => by have := (h.r1.lt j hj).1; omega), h.bx.grown hg (fun e => by have := (h.r1.lt gb e.symm).1; omega), ?_, h.gs⟩
  rw [List.length_append, rCells_snoc]
  exact h3
end
theorem shr_none {S : Syl} {k : Nat} (h : S.chk = 0) (hk : k < S.nC) (hW : S.wsum = 0) : S.shr (k : Int) = (0, 0, 10) := by
  unfold Syl.shr
  rw [if_pos h, if_pos ⟨by omega, by omega⟩, if_pos hW]
theorem shr_some {S : Syl} {k : Nat} (h : S.chk = 0) (hk : k < S.nC) (hW : 0 < S.wsum) (hW1 : S.wsum ≤ 6000) (hc : 0 ≤ S.cw k ∧ S.cw k ≤ 1000) : S.shr (k : Int) = ((shF S.cw S.wsum k).1, (shF S.cw S.wsum k).2, 0) := by
  unfold Syl.shr
  obtain ⟨a, b, c⟩ := new_q (n := S.cw k) hW
  rw [if_pos h, if_pos ⟨by omega, by omega⟩, if_neg (by omega), Int.toNat_natCast, a, b, c, (share_ok hW hW1 hc.1 hc.2).1]
  rfl
set_option maxRecDepth 100000 in
set_option maxHeartbeats 8000000 in
theorem walkSyllabusWhole (o : Option Addr) (n c : Nat) (zs : List Int) (w : World) (h0 : IsRow .i64 w o n c zs) :
    Calls Try.prog 10 #[.slice o n c] w fun e w' => e = .returned (.bool true) ∧ Below w.heap.size w w' := by
  obtain ⟨hr, h1, h2, h3⟩ := row_of h0
  obtain ⟨i0, hi0, hz0, hz1, hz2⟩ := info_parts rat_info
  go_enter Try.func10, Try.ntmps10
  go_wp2_with fail
  refine (tape_new hr h1 h2 h3).mono ?_
  rintro e w1 ⟨g, n9, rfl, ht1, hb1, hg⟩
  go_wp2_with fail
  refine (draw_any 0 (by omega) (by omega) ht1).mono ?_
  rintro e w2 ⟨p, lt, lo, lc, rfl, hS, _, ht2, hg2, _, _, _, _, hz⟩
  obtain ⟨hchk, _, _⟩ := hz rfl
  have HB2 := Lib.hid (hb1.trans (bGr hg2 hg hb1.size))
  clear hz
  generalize sylOf lt lo lc = S at hS hchk ⊢
  have HS := Lib.hid hS
  obtain ⟨_, _, hn6, _, hcw⟩ := S.ok hchk
  have HCW := Lib.hid hcw
  have HCK := Lib.hid hchk
  have hwb : 0 ≤ S.wsum ∧ S.wsum ≤ 1000 * S.nC := sumN_bd hcw
  have hw6 : S.wsum ≤ 6000 := by omega
  have HWS := Lib.hid (show S.wsum = sumN S.cw S.nC from rfl)
  have HPB := Lib.hid (fun (k : Nat) (hk : k ≤ S.nC) => (show 0 ≤ sumN S.cw k ∧ sumN S.cw k ≤ 6000 by have := sumN_bd (f := S.cw) (m := 1000) (n := k) (fun i hi => hcw i (by omega)); omega))
  have HW : Hid (Wx w2 w2.heap.size (.slice p.o1 S.nT p.c1) (.slice p.o2 S.nO p.c2) (.slice p.o3 S.nC p.c3) (.slice none 0 0) [] (w2.alloc (.cells (sylC p S) 27))) := Lib.hid ⟨bAl (Below.refl _ _) _, Blk.new _ _ _, World.ownsRow_nil _ _ _ _, rfl⟩
  clear hr h1 h2 h3 hb1 ht1 hg hS ht2 hg2 hcw hchk
  unfold sylC at HW ⊢
  go_wp2_with fail
  generalize w2.alloc _ = w3 at HW ⊢
  generalize hgs : w2.heap.size = gs at HW ⊢
  have HGS := Lib.hid hgs
  clear hgs
  by_cases hW0 : S.wsum = 0
  · go_loopw [4, 5, 6] (fun v s i wr => ∃ (k : Nat), i = .int .i64 k ∧ k ≤ S.nC ∧ v = .slice none 0 0 ∧ s = .int .i64 (sumN S.cw k) ∧ Hid (Wx w2 gs (.slice p.o1 S.nT p.c1) (.slice p.o2 S.nO p.c2) (.slice p.o3 S.nC p.c3) (.slice none 0 0) [] wr)) (fun _ _ i _ => S.nC - (intOf i).toNat)
    case atStart => exact ⟨0, rfl, Nat.zero_le _, rfl, rfl, HW⟩
    case round =>
      clear HW
      obtain ⟨k, rfl, hk, rfl, rfl, HW⟩ := hrel
      have q0 := HW.out.bx.cell 0
      have q1 := HW.out.bx.cell 1
      have q2 := HW.out.bx.cell 2
      by_cases hkn : k < S.nC
      · have hkn' : (k : Int) < (S.nC : Int) := by omega
        have HSY := Lib.hid (HS.out.later HW.out.be)
        obtain ⟨b3, f3, ho3, _, _, hcc, _⟩ := HSY.out.c k hkn
        have F1 := Lib.hid (share_any p S (k : Int) wr HSY.out)
        rw [shr_none HCK.out hkn hW0] at F1
        unfold shV sylC at F1
        rw [ho3] at F1 q2
        clear ho3
        have hpb := HPB.out k hk
        have hcb := HCW.out k hkn
        have HSN := Lib.hid (show sumN S.cw (k + 1) = sumN S.cw k + S.cw k from rfl)
        generalize S.cw k = x at hcc hcb HSN
        generalize sumN S.cw k = sk at hpb HSN ⊢
        go_wp2_with fail
        refine F1.out.mono ?_
        rintro e w6 ⟨rfl, hb⟩
        have HW6 := Lib.hid (HW.out.later hb)
        have HW7 := Lib.hid (HW6.out.later (bAl (Below.refl _ w6) (.cells #[.int .i64 0, .int .i64 0] 50)))
        clear hb
        go_wp2_with fail
        go_roundw
        case rel => exact ⟨k + 1, by go_num, by omega, rfl, by rw [HSN.out], HW7⟩
        case measure => simp [intOf]; omega
      · obtain rfl : k = S.nC := by omega
        have hzz : sumN S.cw S.nC = 0 := by rw [← HWS.out]; exact hW0
        rw [hzz]
        go_wp2_with fail
        refine (awake_any _).mono ?_
        rintro e w10 ⟨rfl, hb⟩
        have HF := Lib.hid (bTr HB2.out (bTr HW.out.be hb))
        clear hb
        go_wp2_with fail
        go_ret
        exact ⟨rfl, HF.out⟩
  · have hWp : 0 < S.wsum := by omega
    have HWO := Lib.hid (whole_one (c := S.cw) hn6 HCW.out (by rw [← HWS.out]; exact hWp))
    rw [← HWS.out] at HWO
    have HVA := Lib.hid (fun (i : Nat) (hi : i < S.nC) => (share_ok (c := S.cw) hWp hw6 (HCW.out i hi).1 (HCW.out i hi).2).2.1)
    have HSH := Lib.hid (fun (k : Nat) (hk : k < S.nC) => shr_some HCK.out hk hWp hw6 (HCW.out k hk))
    go_loopw [4, 5, 6] (fun v s i wr => ∃ (k : Nat) (ls : List Fr), i = .int .i64 k ∧ k ≤ S.nC ∧ s = .int .i64 (sumN S.cw k) ∧ Hid (ls.length = k) ∧ Hid (∀ j, j < k → ls.getD j (0, 0) = shF S.cw S.wsum j) ∧ Hid (Wx w2 gs (.slice p.o1 S.nT p.c1) (.slice p.o2 S.nO p.c2) (.slice p.o3 S.nC p.c3) v ls wr)) (fun _ _ i _ => S.nC - (intOf i).toNat)
    case atStart => exact ⟨0, [], rfl, Nat.zero_le _, rfl, Lib.hid rfl, Lib.hid (fun j hj => absurd hj (Nat.not_lt_zero _)), HW⟩
    case round =>
      clear HW
      obtain ⟨k, ls, rfl, hk, rfl, HL, HG, HW⟩ := hrel
      have q0 := HW.out.bx.cell 0
      have q1 := HW.out.bx.cell 1
      have q2 := HW.out.bx.cell 2
      by_cases hkn : k < S.nC
      · have hkn' : (k : Int) < (S.nC : Int) := by omega
        have HSY := Lib.hid (HS.out.later HW.out.be)
        obtain ⟨b3, f3, ho3, _, _, hcc, _⟩ := HSY.out.c k hkn
        have F1 := Lib.hid (share_any p S (k : Int) wr HSY.out)
        rw [HSH.out k hkn] at F1
        unfold shV sylC at F1
        rw [ho3] at F1 q2
        clear ho3
        have hpb := HPB.out k hk
        have hcb := HCW.out k hkn
        have HSN := Lib.hid (show sumN S.cw (k + 1) = sumN S.cw k + S.cw k from rfl)
        have HG2 := Lib.hid (show ∀ j, j < k + 1 → (ls ++ [((shF S.cw S.wsum k).1, (shF S.cw S.wsum k).2)]).getD j (0, 0) = shF S.cw S.wsum j from fun j hj => by
          have := HL.out
          by_cases e : j = k
          · subst e; rw [List.getD_eq_getElem?_getD, ← this]; simp
          · rw [List.getD_eq_getElem?_getD, List.getElem?_append_left (by omega), ← List.getD_eq_getElem?_getD]; exact HG.out j (by omega))
        have hml1 : ls.length + 1 ≤ maxLen := by have := HL.out; unfold maxLen; omega
        have hml2 : (ls.length + 1) * 16 ≤ 140737488355328 := by have := HL.out; omega
        generalize (shF S.cw S.wsum k).1 = x1 at F1 HG2
        generalize (shF S.cw S.wsum k).2 = x2 at F1 HG2
        generalize S.cw k = x at hcc hcb HSN
        generalize sumN S.cw k = sk at hpb HSN ⊢
        go_wp2_with fail
        refine F1.out.mono ?_
        rintro e w6 ⟨rfl, hb⟩
        have HW6 := Lib.hid (HW.out.later hb)
        have HW7 := Lib.hid (HW6.out.later (bAl (Below.refl _ w6) (.cells #[.int .i64 x1, .int .i64 x2] 50)))
        have HW8 := Lib.hid (HW7.out.later (bAl (Below.refl _ (w6.alloc (.cells #[.int .i64 x1, .int .i64 x2] 50))) (.cells #[.int .i64 x1, .int .i64 x2] 50)))
        have HL2 := Lib.hid (show (ls ++ [(x1, x2)]).length = k + 1 by rw [List.length_append, HL.out]; rfl)
        clear hb q0 q1 q2 HW
        go_wp2_with (at_builtin; refine wpList_append_own_at _ rfl (.tmp 43) (.tmp 45) 54 rfl (gs + 1) 50 i0 (.agg #[.int .i64 0, .int .i64 0]) 2 16 Try.underlying54 hi0 hz0 hz1 hz2 rfl (by decide) _ _ _ rfl HW8.out.r1 ⟨w6.heap.size + 1, 0, none⟩ 1 1 [.int .i64 x1, .int .i64 x2] rfl rfl ?c1 ?c2 hml1 hml2 ?c5 ?_; (case c1 => have := cell_two_new (w6.alloc (.cells #[.int .i64 x1, .int .i64 x2] 50)) (.int .i64 x1) (.int .i64 x2) 50; simpa using this); (case c2 => intro u hu; simp at hu; rcases hu with rfl | rfl <;> rfl); (case c5 => exact HW8.out.bx.lt); intro v6 w9 hown6 hgrow6 hnil6 hat6; have HM7 := Lib.hid (HW8.out.push (x := (x1, x2)) hgrow6 hown6); clear hown6 hgrow6 hnil6 hat6)
        go_roundw
        case rel => exact ⟨k + 1, ls ++ [(x1, x2)], by go_num, by omega, by rw [HSN.out], HL2, HG2, HM7⟩
        case measure => simp [intOf]; omega
      · obtain rfl : k = S.nC := by omega
        obtain ⟨o5, c5, rfl, hc5, hrr⟩ := rowR_own HW.out.r1
        have hlen := HL.out
        rw [hlen] at hrr hc5 ⊢
        have HRR := Lib.hid (show RowR wr wr.heap.size o5 S.nC (shF S.cw S.wsum) from fun i hi => by
          obtain ⟨b, off, e1, e2, e3, e4⟩ := hrr i hi
          have e5 : ls.getD i (0, 0) = shF S.cw S.wsum i := HG.out i hi
          refine ⟨b, off, e1, e2, e3.trans ?_, e4.trans ?_⟩
          · show some (Value.int .i64 (ls.getD i (0, 0)).1) = _; rw [e5]
          · show some (Value.int .i64 (ls.getD i (0, 0)).2) = _; rw [e5])
        have F1 := Lib.hid (sum_yes o5 S.nC c5 (shF S.cw S.wsum) wr HRR.out (by omega) HVA.out)
        rw [HWO.out.1, HWO.out.2.1, HWO.out.2.2] at F1
        have hnz : (sumN S.cw S.nC == 0) = false := by rw [beq_eq_false_iff_ne, ← HWS.out]; exact hW0
        clear hrr hlen HL HG
        generalize sumN S.cw S.nC = ww at hnz ⊢
        have heq : ∀ W, (binOp .eql 50 (.agg #[.int .i64 1, .int .i64 1]) (.agg #[.int .i64 1, .int .i64 1])).run Try.prog W = .ok (.bool true) W := fun W => by rw [eqlR]; rfl
        go_wp2_with fail
        refine F1.out.mono ?_
        rintro e w6 ⟨rfl, hb⟩
        have HW6 := Lib.hid (HW.out.later hb)
        have HW7 := Lib.hid (HW6.out.later (bAl (Below.refl _ w6) (.cells #[.int .i64 1, .int .i64 1] 50)))
        clear hb q0 q1 q2 HW
        have q2 : (w6.alloc (.cells #[.int .i64 1, .int .i64 1] 50)).cell? ⟨gs, 2, none⟩ = some (.slice p.o3 S.nC p.c3) := HW7.out.bx.cell 2
        have q3 := HW6.out.bx.cell 2
        have hgl := HW6.out.bx.lt
        go_wp2_with fail
        refine (awake_any _).mono ?_
        rintro e w10 ⟨rfl, hb⟩
        have HF := Lib.hid (bTr HB2.out (bTr HW7.out.be hb))
        clear hb
        go_wp2_with fail
        go_ret
        exact ⟨rfl, HF.out⟩
end Go.Proofs.Ytglikjdgjmijfaa
