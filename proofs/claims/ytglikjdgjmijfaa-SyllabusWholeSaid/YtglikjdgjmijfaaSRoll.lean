/-
  Roll of the program.
-/
import Derived.Test.YtglikjdgjmijfaaSLeaves
import Derived.Deep.OwnRows
namespace Go.Proofs.Ytglikjdgjmijfaa
open Go.RowKit
set_option linter.unusedSimpArgs false
set_option linter.unusedVariables false

def badM (mk : Nat → Int) (n : Nat) : Bool := (List.range n).any fun i => decide (mk i < 0 ∨ 200 < mk i)
theorem badM_succ (mk : Nat → Int) (k : Nat) : badM mk (k + 1) = (badM mk k || decide (mk k < 0 ∨ 200 < mk k)) := by unfold badM; rw [List.range_succ, List.any_append]; simp
theorem badM_hit {mk : Nat → Int} {k n : Nat} (h : mk k < 0 ∨ 200 < mk k) (hk : k < n) : badM mk n = true := List.any_eq_true.2 ⟨k, List.mem_range.2 hk, by simpa using h⟩
theorem badM_no {mk : Nat → Int} {n : Nat} (h : badM mk n = false) (k : Nat) (hk : k < n) : 0 ≤ mk k ∧ mk k ≤ 200 := by
  apply Classical.byContradiction
  intro hc
  have := badM_hit (mk := mk) (k := k) (n := n) (by omega) hk
  rw [h] at this; cases this
def Syl.rlE (S : Syl) (mk : Nat → Int) (n : Nat) : Int := if S.chk = 0 then (if n = S.nT then (if badM mk n = true then 2 else 0) else 1) else S.chk
def Syl.rlN (S : Syl) (mk : Nat → Int) (n : Nat) : Nat := if S.rlE mk n = 0 then n else 0
def RollR (S : Syl) (mk : Nat → Int) (n : Nat) (w : World) (e : Ending) (w' : World) : Prop :=
  ∃ o c, e = .returned (.tuple #[.slice o (S.rlN mk n) c, .int .i64 (S.rlE mk n)]) ∧ RowI w' w'.heap.size o (S.rlN mk n) (rollN S.tp mk n) ∧ Below w.heap.size w w'
theorem RollR.fail {S : Syl} {mk : Nat → Int} {n : Nat} {w w' : World} {x : Int} (h : S.rlE mk n = x) (hx : x ≠ 0) (hb : Below w.heap.size w w') : RollR S mk n w (.returned (.tuple #[.slice none 0 0, .int .i64 x])) w' := by
  have e : S.rlN mk n = 0 := by unfold Syl.rlN; rw [h, if_neg hx]
  exact ⟨none, 0, by rw [e, h], by rw [e]; exact fun i hi => absurd hi (Nat.not_lt_zero _), hb⟩
theorem RollR.good {S : Syl} {mk : Nat → Int} {n : Nat} {w w' : World} {o : Option Addr} {c : Nat} (h : S.rlE mk n = 0) (hr : RowI w' w'.heap.size o n (rollN S.tp mk n)) (hb : Below w.heap.size w w') : RollR S mk n w (.returned (.tuple #[.slice o n c, .int .i64 0])) w' := by
  have e : S.rlN mk n = n := by unfold Syl.rlN; rw [h, if_pos rfl]
  exact ⟨o, c, by rw [e, h], by rw [e]; exact hr, hb⟩
theorem RowI.congr {w : World} {B n : Nat} {o : Option Addr} {C D : Nat → Int} (h : RowI w B o n C) (e : ∀ i, i < n → C i = D i) : RowI w B o n D := fun i hi => by
  obtain ⟨b, off, ho, hl, h0⟩ := h i hi
  exact ⟨b, off, ho, hl, by rw [← e i hi]; exact h0⟩
/-- a row of the call's own that is written in place -/
def RowF (w : World) (g n : Nat) (F : Nat → Int) : Prop := g < w.heap.size ∧ ∀ j, j < n → w.cell? ⟨g, j, none⟩ = some (.int .i64 (F j)) ∧ w.frozen? ⟨g, j, none⟩ = false
theorem RowF.later {w w' : World} {g n : Nat} {F : Nat → Int} (h : RowF w g n F) (hb : Below w.heap.size w w') : RowF w' g n F :=
  ⟨Nat.lt_of_lt_of_le h.1 hb.size, fun j hj => ⟨(hb.cell (p := ⟨g, j, none⟩) h.1).trans (h.2 j hj).1, (hb.frozen (p := ⟨g, j, none⟩) h.1).trans (h.2 j hj).2⟩⟩
theorem RowF.congr {w : World} {g n : Nat} {F G : Nat → Int} (h : RowF w g n F) (e : ∀ j, j < n → F j = G j) : RowF w g n G := ⟨h.1, fun j hj => ⟨by rw [← e j hj]; exact (h.2 j hj).1, (h.2 j hj).2⟩⟩
theorem RowF.set_ {w : World} {g n : Nat} {F : Nat → Int} (h : RowF w g n F) {k : Nat} (hk : k < n) (x : Int) : RowF (w.setCell ⟨g, k, none⟩ (.int .i64 x)) g n (fun i => if i = k then x else F i) := ⟨by simpa using h.1, fun j hj => by
  refine ⟨?_, by rw [World.frozen?_setCell]; exact (h.2 j hj).2⟩
  by_cases e : j = k
  · subst e
    rw [World.cell?_setCell_same _ _ _ (h.2 j hj).1]
    show _ = some (Value.int .i64 (if j = j then x else F j))
    rw [if_pos rfl]
  · rw [World.cell?_setCell_other _ _ _ _ (by simp <;> omega)]
    show _ = some (Value.int .i64 (if j = k then x else F j))
    rw [if_neg e]
    exact (h.2 j hj).1⟩
theorem RowF.row {w : World} {g n : Nat} {F : Nat → Int} (h : RowF w g n F) : RowI w w.heap.size (some ⟨g, 0, none⟩) n F := fun i hi => ⟨g, 0, rfl, h.1, by rw [Nat.zero_add]; exact (h.2 i hi).1⟩
theorem RowF.made {w : World} {n : Nat} : RowF (w.alloc (.cells (madeCells #[.int .i64 0] n) 3)) w.heap.size n (fun _ => 0) := ⟨by simp, fun j hj => ⟨by
  rw [(Blk.new w 3 (madeCells #[.int .i64 0] n)).cell j]
  simp [madeCells, hj, Nat.mod_one], (Blk.new w 3 _).frozen j⟩⟩
theorem NatV.row2 {l : List Nat} {w w1 : World} {v : Value} (h : NatV l w w1 v) : ∃ o c, v = .slice o l.length c ∧ ∀ i, i < l.length → ∃ b, o = some ⟨b, 0, none⟩ ∧ w.heap.size ≤ b ∧ b < w1.heap.size ∧ w1.cell? ⟨b, i, none⟩ = some (.int .i64 (natAt l i)) := by
  obtain ⟨B, ho, hB⟩ := h
  rcases ho.2 with ⟨rfl, h0⟩ | ⟨g, cap, cur, rfl, hb, hc, hmc, hm, _⟩
  · exact ⟨none, 0, by rw [h0], fun i hi => by omega⟩
  · refine ⟨_, cap, rfl, fun i hi => ⟨g, rfl, by omega, (Array.getElem?_eq_some_iff.1 hc).1, ?_⟩⟩
    have := ho.cellAt i (by rw [Nat.mul_one]; exact hi)
    rw [this, List.getElem?_map, natAt_mem hi]
    rfl
theorem nodup_take {l : List Nat} (h : l.Nodup) {j : Nat} (hj : j < l.length) : ¬ l.getD j 0 ∈ l.take j := by
  intro hm
  rw [← List.take_append_drop j l, List.nodup_append] at h
  refine h.2.2 _ hm (l.getD j 0) ?_ rfl
  rw [List.drop_eq_getElem_cons hj, List.getD_eq_getElem?_getD, List.getElem?_eq_getElem hj]
  exact List.mem_cons_self ..
theorem roll_bd {tp mk : Nat → Int} {n : Nat} (hm : ∀ k, k < n → 0 ≤ mk k ∧ mk k ≤ 200) (k i : Nat) (hk : k ≤ n) : 0 ≤ rollN tp mk k i ∧ rollN tp mk k i ≤ 200 * (k : Int) :=
  sumN_bd fun j hj => by
    have := hm j (by omega)
    unfold markUp
    split <;> omega

set_option maxHeartbeats 1000000 in
theorem closure_bad (m : Int) (w : World) : Calls Try.prog 51 #[.int .i64 m] w fun e w' => e = .returned (.bool (decide (m < 0 ∨ 200 < m))) ∧ w' = w := by
  by_cases h0 : m < 0
  · rw [decide_eq_true (.inl h0)]
    go_enter Try.func51, Try.ntmps51
    go_wp2_with fail
    go_ret
    exact ⟨rfl, rfl⟩
  · by_cases h1 : 200 < m
    · rw [decide_eq_true (.inr h1)]
      go_enter Try.func51, Try.ntmps51
      go_wp2_with fail
      go_ret
      exact ⟨retB (by simp [h0, h1]), rfl⟩
    · rw [decide_eq_false (by omega)]
      go_enter Try.func51, Try.ntmps51
      go_wp2_with fail
      go_ret
      exact ⟨retB (by simp [h0, h1]), rfl⟩
set_option maxHeartbeats 2000000 in
theorem indexBad_any (o : Option Addr) (n c B : Nat) (mk : Nat → Int) (w : World) (hs : RowI w B o n mk) (hn : n ≤ 1000000) :
    Calls Try.prog 66 #[.slice o n c, .func (.func 51) #[] #[]] w (IdxR (badM mk n) w) := by
  have HS := Lib.hid hs
  clear hs
  go_enter Try.func66, Try.ntmps66
  go_wp2_with fail
  go_loopw [8] (fun i wr => ∃ k : Nat, i = .int .i64 k ∧ k ≤ n ∧ Hid (badM mk k = false) ∧ wr = w) (fun i _ => n - (intOf i).toNat)
  case atStart => exact ⟨0, rfl, Nat.zero_le _, Lib.hid rfl, rfl⟩
  case round =>
    obtain ⟨k, rfl, hk, HD, rfl⟩ := hrel
    by_cases hkn : k < n
    · have hkn' : (k : Int) < (n : Int) := by omega
      obtain ⟨b, off, rfl, hbB, h0⟩ := HS.out k hkn
      have HCL := Lib.hid (closure_bad (mk k) wr)
      by_cases he : mk k < 0 ∨ 200 < mk k
      · have HF := Lib.hid (badM_hit he hkn)
        rw [decide_eq_true he] at HCL
        clear he
        generalize mk k = u at h0 HCL
        go_wp2_with (go_at_call 51; refine HCL.out.mono ?_; rintro e w5 ⟨rfl, hw5⟩; obtain rfl := hw5.symm)
        exact bodyPost_ret (v := .int .i64 (k : Int)) (by simp [results, Try.results66, go_sem]) rfl ⟨(k : Int), rfl, by rw [HF.out]; exact decide_eq_true (by omega), rfl⟩
      · have HD2 := Lib.hid (show badM mk (k + 1) = false by rw [badM_succ, HD.out, decide_eq_false he]; rfl)
        rw [decide_eq_false he] at HCL
        clear he
        generalize mk k = u at h0 HCL
        go_wp2_with (go_at_call 51; refine HCL.out.mono ?_; rintro e w5 ⟨rfl, hw5⟩; obtain rfl := hw5.symm)
        go_roundw
        case rel => exact ⟨k + 1, by go_num, by omega, HD2, trivial⟩
        case measure => simp [intOf]; omega
    · obtain rfl : k = n := by omega
      go_wp2_with fail
      exact bodyPost_ret (v := .int .i64 (-1)) (by simp [results, Try.results66, go_sem]) rfl ⟨-1, rfl, by rw [HD.out]; rfl, rfl⟩
set_option maxHeartbeats 1000000 in
theorem containsBad_any (o : Option Addr) (n c B : Nat) (mk : Nat → Int) (w : World) (hs : RowI w B o n mk) (hn : n ≤ 1000000) :
    Calls Try.prog 50 #[.slice o n c, .func (.func 51) #[] #[]] w fun e w' => e = .returned (.bool (badM mk n)) ∧ w' = w := by
  have HI := Lib.hid (indexBad_any o n c B mk w hs hn)
  clear hs
  go_enter Try.func50, Try.ntmps50
  go_wp2_with fail
  refine HI.out.mono ?_
  rintro e w' ⟨r, rfl, hr, hw⟩
  obtain rfl := hw.symm
  have HR := Lib.hid hr
  clear hr
  go_wp2_with fail
  go_ret
  exact ⟨retB HR.out, rfl⟩

set_option maxRecDepth 100000 in
set_option maxHeartbeats 8000000 in
theorem roll_any (p : Ptr) (S : Syl) (o : Option Addr) (n c : Nat) (mk : Nat → Int) (w : World) (hs : SylIn w w.heap.size p S) (hm : RowI w w.heap.size o n mk) (hn : n ≤ 1000000) :
    Calls Try.prog 29 #[.agg (sylC p S), .slice o n c] w (RollR S mk n w) := by
  have HT := Lib.hid (fun W (hb : Below w.heap.size w W) => check_any p S W (hs.later hb))
  have HB := Lib.hid (bAl (Below.refl _ w) (.cells #[.slice p.o1 S.nT p.c1, .slice p.o2 S.nO p.c2, .slice p.o3 S.nC p.c3] 27))
  have P0 : Hid (Blk (w.alloc (.cells #[.slice p.o1 S.nT p.c1, .slice p.o2 S.nO p.c2, .slice p.o3 S.nC p.c3] 27)) w.heap.size 27 (sylC p S)) := Lib.hid (Blk.newAt rfl)
  have HM := Lib.hid hm
  have HCB := Lib.hid (fun W (hb : Below w.heap.size w W) => containsBad_any o n c _ mk W ((HM.out.below hb (Nat.le_refl _))) hn)
  have RE := Lib.hid (show S.rlE mk n = if S.chk = 0 then (if n = S.nT then (if badM mk n = true then 2 else 0) else 1) else S.chk from rfl)
  have RF := Lib.hid (show ∀ (x : Int) (w' : World), S.rlE mk n = x → x ≠ 0 → Below w.heap.size w w' → RollR S mk n w (.returned (.tuple #[.slice none 0 0, .int .i64 x])) w' from fun x w' h hx hb => RollR.fail h hx hb)
  have RG := Lib.hid (show ∀ (w' : World) (o : Option Addr) (c : Nat), S.rlE mk n = 0 → RowI w' w'.heap.size o n (rollN S.tp mk n) → Below w.heap.size w w' → RollR S mk n w (.returned (.tuple #[.slice o n c, .int .i64 0])) w' from fun w' o c h hr hb => RollR.good h hr hb)
  generalize S.rlE mk n = X at RE RF RG
  by_cases h0 : S.chk = 0
  · obtain ⟨hnT, _, _, hF, _⟩ := S.ok h0
    have HPT := Lib.hid (fun W (hb : Below w.heap.size w W) i (hi : i < S.nT) => pathTo_any p.o1 S.nT p.c1 S.tn S.tp hF hnT i hi W (hs.later hb).t)
    rw [h0] at HT RE
    rw [if_pos rfl] at RE
    clear hs hm h0
    obtain ⟨o1, c1, o2, c2, o3, c3⟩ := p
    obtain ⟨nT, tn, tp, nO, on, nC, cn, cw, cm⟩ := S
    unfold sylC at HT P0 ⊢
    dsimp only at HT HB P0 HPT RE RG hF hnT ⊢
    by_cases h1 : n = nT
    · subst h1
      rw [if_pos rfl] at RE
      have hnn : (((n : Nat) : Int) != (n : Int)) = false := by simp
      cases hbad : badM mk n
      · rw [hbad] at HCB RE
        rw [if_neg (by decide)] at RE
        have HMB := Lib.hid (badM_no hbad)
        have hmk := fun W => run_make_row' (P := Try.prog) 22 3 (.int .i64 0) 8 Try.underlying22 int_info rfl .i64 .i64 n (by omega) (by omega) W
        have HFF := Lib.hid hF
        clear hbad hF
        go_enter Try.func29, Try.ntmps29
        go_wp2_with (first | (go_at_call 13; refine (HT.out _ HB.out).mono ?_; rintro e w7 ⟨rfl, hb⟩; have HF := Lib.hid (bTr HB.out hb); have PX := Lib.hid (P0.out.later hb); have z0 : w7.cell? ⟨w.heap.size, 0, none⟩ = some (.slice o1 n c1) := PX.out.cell 0; clear hb) | (go_at_call 50; refine (HCB.out w7 HF.out).mono ?_; rintro e w8 ⟨rfl, hw8⟩; obtain rfl := hw8.symm))
        have HWM := Lib.hid (bAl (Below.refl _ w7) (.cells (madeCells #[.int .i64 0] n) 3))
        have HR0 := Lib.hid (RowF.made (w := w7) (n := n))
        have HGG := Lib.hid (show w.heap.size < w7.heap.size from PX.out.lt)
        have PM := Lib.hid (PX.out.later HWM.out)
        generalize w7.alloc (.cells (madeCells #[.int .i64 0] n) 3) = wm at HWM HR0 PM ⊢
        obtain ⟨g, hg⟩ : ∃ g, w7.heap.size = g := ⟨_, rfl⟩
        have HG7 := Lib.hid hg
        rw [hg] at HR0 ⊢
        clear hg z0
        have HBD := Lib.hid (fun k i hk => roll_bd (tp := tp) HMB.out k i hk)
        go_loopw [30] (fun i wr => ∃ k : Nat, i = .int .i64 k ∧ k ≤ n ∧ Hid (RowF wr g n (rollN tp mk k)) ∧ Hid (Below w7.heap.size w7 wr)) (fun i _ => n - (intOf i).toNat)
        case atStart => exact ⟨0, rfl, Nat.zero_le _, HR0, HWM⟩
        case round =>
          obtain ⟨k, rfl, hk, HR, HBR⟩ := hrel
          have PR := Lib.hid (PX.out.later HBR.out)
          have y0 : wr.cell? ⟨w.heap.size, 0, none⟩ = some (.slice o1 n c1) := PR.out.cell 0
          by_cases hkn : k < n
          · have hkn' : (k : Int) < (n : Int) := by omega
            obtain ⟨b, off, rfl, hbB, hc⟩ := HM.out.below (bTr HF.out HBR.out) (Nat.le_refl _) k hkn
            have HPA := Lib.hid (HPT.out wr (bTr HF.out HBR.out) k hkn)
            have HND := Lib.hid (path_nodup tp k)
            have HLE := Lib.hid (path_le tp k)
            have HLN := Lib.hid (path_len tp k)
            have HST := Lib.hid (fun y => rollN_succ tp mk k y)
            have HBDK := Lib.hid (fun y => HBD.out k y (by omega))
            obtain ⟨q0, q1⟩ := HMB.out k hkn
            generalize path tp k = l at HPA HND HLE HLN HST
            generalize mk k = m at hc HST q0 q1
            go_wp2_with (go_at_call 45; refine HPA.out.mono ?_; rintro e w5 ⟨v5, rfl, hv5, hb5⟩; obtain ⟨o5, c5, rfl, hrow5⟩ := hv5.row2; have HR5 := Lib.hid hrow5; have HW5 := Lib.hid hb5; clear hv5 hb5 hrow5)
            obtain ⟨ln, hln⟩ : ∃ ln, l.length = ln := ⟨_, rfl⟩
            have HLL := Lib.hid hln
            have hl17 : ln ≤ 17 := by have := HLN.out; omega
            rw [hln] at HR5 ⊢
            clear hln
            go_loopw [40] (fun i wr2 => ∃ j : Nat, i = .int .i64 j ∧ j ≤ ln ∧ Hid (RowF wr2 g n (fun y => rollN tp mk k y + if y ∈ l.take j then m else 0)) ∧ Hid (w5.grownBy wr2 (some g))) (fun i _ => ln - (intOf i).toNat)
            case atStart => exact ⟨0, rfl, Nat.zero_le _, Lib.hid ((HR.out.later HW5.out).congr fun y hy => by simp), Lib.hid (gDr w5 0 _)⟩
            case round =>
              obtain ⟨j, rfl, hj, HRJ, HGJ⟩ := hrel
              by_cases hjl : j < ln
              · have hjl' : (j : Int) < (ln : Int) := by omega
                obtain ⟨b5, rfl, hb50, hb51, hx⟩ := HR5.out j hjl
                have hgne : b5 ≠ g := by have := HR.out.1; omega
                have hx2 : wr.cell? ⟨b5, j, none⟩ = some (.int .i64 ((l.getD j 0 : Nat) : Int)) := (World.cell?_of_block (a := ⟨b5, j, none⟩) (HGJ.out.block b5 hb51 (by intro e; cases e; exact hgne rfl))).trans hx
                clear hx
                have hxl : l.getD j 0 ≤ k := HLE.out _ (List.mem_of_getElem? (natAt_mem (show j < l.length by have := HLL.out; omega)))
                have HNI := Lib.hid (nodup_take HND.out (show j < l.length by have := HLL.out; omega))
                have HMT := Lib.hid (fun y => mem_take_succ (x := y) (show j < l.length by have := HLL.out; omega))
                generalize l.getD j 0 = x at hx2 hxl HNI HMT
                have hxn : x < n := by omega
                have hxn' : (x : Int) < (n : Int) := by omega
                have hx0 : (0 : Int) ≤ (x : Int) := by omega
                obtain ⟨s0, s1⟩ := HRJ.out.2 x hxn
                have s0' : wr.cell? ⟨g, x, none⟩ = some (.int .i64 (rollN tp mk k x)) := by rw [s0]; exact congrArg some (congrArg (Value.int .i64) (by show _ + _ = _; rw [if_neg HNI.out, Int.add_zero]))
                have sl := HRJ.out.1
                have HBX := Lib.hid (HBDK.out x)
                have HUP := Lib.hid (fun r (hr : r = rollN tp mk k x) => (HRJ.out.set_ hxn (r + m)).congr (G := fun y => rollN tp mk k y + if y ∈ l.take (j + 1) then m else 0) fun y hy => by
                  show (if y = x then r + m else rollN tp mk k y + if y ∈ l.take j then m else 0) = _
                  by_cases hyx : y = x
                  · rw [if_pos hyx, hyx, if_pos ((HMT.out x).2 (.inr rfl)), hr]
                  · rw [if_neg hyx]
                    by_cases hyl : y ∈ l.take j
                    · rw [if_pos hyl, if_pos ((HMT.out y).2 (.inl hyl))]
                    · rw [if_neg hyl, if_neg (fun h => ((HMT.out y).1 h).elim hyl fun e => hyx e.symm)])
                clear s0 HNI HMT
                generalize hr : rollN tp mk k x = r at s0' HBX HUP
                obtain ⟨r0, r1⟩ := HBX.out
                have hkk : (200 : Int) * (k : Int) ≤ 3200 := by omega
                have HUPX := Lib.hid (HUP.out r rfl)
                go_wp2_with fail
                go_roundw
                case rel => exact ⟨j + 1, by go_num, by omega, HUPX, Lib.hid (gSet HGJ.out g x _)⟩
                case measure => simp [intOf]; omega
              · obtain rfl : j = ln := by omega
                have HLT := Lib.hid (show l.take j = l by rw [← HLL.out]; exact List.take_length)
                have HFIN := Lib.hid (HRJ.out.congr (G := rollN tp mk (k + 1)) fun y hy => by rw [HST.out y, HLT.out])
                have HBN := Lib.hid (show Below w7.heap.size w7 wr from (bTr HBR.out HW5.out).trans (bGr HGJ.out (by have := HG7.out; omega) (by have h1 := HBR.out.size; have h2 := HW5.out.size; omega)))
                go_wp2_with fail
                go_roundw
                case rel => exact ⟨k + 1, by go_num, by omega, HFIN, HBN⟩
                case measure => simp [intOf]; omega
          · obtain rfl : k = n := by omega
            have HRF := Lib.hid HR.out.row
            have HBF := Lib.hid (bTr HF.out HBR.out)
            go_wp2_with fail
            exact bodyPost_ret (v := .tuple #[.slice (some ⟨g, 0, none⟩) k k, .int .i64 0]) (by simp [results, Try.results29, go_sem]) rfl (RG.out _ _ _ RE.out HRF.out HBF.out)
      · rw [hbad] at HCB RE
        rw [if_pos rfl] at RE
        go_enter Try.func29, Try.ntmps29
        go_wp2_with (first | (go_at_call 13; refine (HT.out _ HB.out).mono ?_; rintro e w7 ⟨rfl, hb⟩; have HF := Lib.hid (bTr HB.out hb); have z0 : w7.cell? ⟨w.heap.size, 0, none⟩ = some (.slice o1 n c1) := (P0.out.later hb).cell 0; clear hb) | (go_at_call 50; refine (HCB.out w7 HF.out).mono ?_; rintro e w8 ⟨rfl, hw8⟩; obtain rfl := hw8.symm))
        exact bodyPost_ret (v := .tuple #[.slice none 0 0, .int .i64 2]) (by simp [results, Try.results29, go_sem]) rfl (RF.out _ _ RE.out (by decide) HF.out)
    · rw [if_neg h1] at RE
      have hne : (((n : Nat) : Int) != (nT : Int)) = true := by rw [bne_iff_ne]; omega
      go_enter Try.func29, Try.ntmps29
      go_wp2_with (go_at_call 13; refine (HT.out _ HB.out).mono ?_; rintro e w7 ⟨rfl, hb⟩; have HF := Lib.hid (bTr HB.out hb); have z0 : w7.cell? ⟨w.heap.size, 0, none⟩ = some (.slice o1 nT c1) := (P0.out.later hb).cell 0; clear hb)
      exact bodyPost_ret (v := .tuple #[.slice none 0 0, .int .i64 1]) (by simp [results, Try.results29, go_sem]) rfl (RF.out _ _ RE.out (by decide) HF.out)
  · rw [if_neg h0] at RE
    have hx' : (S.chk != 0) = true := by rw [bne_iff_ne]; exact h0
    have HX0 := Lib.hid h0
    generalize S.chk = x at HT RE hx' HX0
    clear hs hm h0
    obtain ⟨o1, c1, o2, c2, o3, c3⟩ := p
    obtain ⟨nT, tn, tp, nO, on, nC, cn, cw, cm⟩ := S
    unfold sylC at HT P0 ⊢
    dsimp only at HT HB P0 RG ⊢
    go_enter Try.func29, Try.ntmps29
    go_wp2_with (go_at_call 13; refine (HT.out _ HB.out).mono ?_; rintro e w7 ⟨rfl, hb⟩; have HF := Lib.hid (bTr HB.out hb); clear hb)
    exact bodyPost_ret (v := .tuple #[.slice none 0 0, .int .i64 x]) (by simp [results, Try.results29, go_sem]) rfl (RF.out _ _ RE.out HX0.out HF.out)
end Go.Proofs.Ytglikjdgjmijfaa
