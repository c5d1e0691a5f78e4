/-
  Under and Path, of the program and of the reference.
-/
import Derived.Test.YtglikjdgjmijfaaSHas
namespace Go.Proofs.Ytglikjdgjmijfaa
open Go.RowKit
set_option linter.unusedSimpArgs false
set_option linter.unusedVariables false

def Syl.und (S : Syl) (t : Int) : List Nat := if S.has t = true then underL S.tp S.nT t.toNat else []
def Syl.pth (S : Syl) (t : Int) : List Nat := if S.has t = true then path S.tp t.toNat else []
theorem filt_yes {f : Nat → Bool} {k : Nat} (h : f k = true) : (List.range (k + 1)).filter f = (List.range k).filter f ++ [k] := by rw [List.range_succ, List.filter_append]; simp [h]
theorem filt_no {f : Nat → Bool} {k : Nat} (h : f k = false) : (List.range (k + 1)).filter f = (List.range k).filter f := by rw [List.range_succ, List.filter_append]; simp [h]
theorem filt_len (f : Nat → Bool) (k : Nat) : ((List.range k).filter f).length ≤ k := Nat.le_trans (List.length_filter_le _ _) (by simp)
def CollAt (f : Nat → Bool) (n : Nat) (w : World) (v i : Value) (wr : World) : Prop :=
  ∃ k : Nat, i = .int .i64 k ∧ k ≤ n ∧ Hid (wr.ownsRow w.heap.size 3 1 v ((List.range k).filter f).length (((List.range k).filter f).map iv)) ∧ Hid (Below w.heap.size w wr)
theorem CollAt.start (f : Nat → Bool) (n : Nat) (w : World) : CollAt f n w (.slice none 0 0) (.int .i64 0) w := ⟨0, rfl, Nat.zero_le _, Lib.hid (World.ownsRow_nil _ _ _ _), Lib.hid (Below.refl _ _)⟩
theorem CollAt.no {f : Nat → Bool} {n k : Nat} {w wr w2 : World} {v : Value} (h : f k = false) (hk : k < n) (ho : wr.ownsRow w.heap.size 3 1 v ((List.range k).filter f).length (((List.range k).filter f).map iv)) (hb : Below w.heap.size w wr) (h2 : Below wr.heap.size wr w2) : CollAt f n w v (.int .i64 ((k + 1 : Nat) : Int)) w2 :=
  ⟨k + 1, rfl, hk, Lib.hid (by rw [filt_no h]; exact own_later ho h2), Lib.hid (bTr hb h2)⟩
theorem CollAt.yes {f : Nat → Bool} {n k : Nat} {w wr w2 w3 : World} {v v' : Value} {ob : Obj} (h : f k = true) (hk : k < n) (ho : wr.ownsRow w.heap.size 3 1 v ((List.range k).filter f).length (((List.range k).filter f).map iv)) (hb : Below w.heap.size w wr) (h2 : Below wr.heap.size wr w2)
    (hg : (w2.alloc ob).grownBy w3 v.ownBlock) (h3 : w3.ownsRow w.heap.size 3 1 v' (((List.range k).filter f).length + 1) (((List.range k).filter f).map iv ++ [iv k])) : CollAt f n w v' (.int .i64 ((k + 1 : Nat) : Int)) w3 :=
  ⟨k + 1, rfl, hk, Lib.hid (by rw [filt_yes h, List.map_append, List.length_append]; exact h3), Lib.hid ((bAl (bTr hb h2) ob).grown hg (by have := hb.size; have := h2.size; simp; omega) (fun j hj => (ho.lt j hj).1))⟩

set_option maxRecDepth 100000 in
set_option maxHeartbeats 4000000 in
theorem under_any (p : Ptr) (S : Syl) (t : Int) (w : World) (hs : SylIn w w.heap.size p S) :
    Calls Try.prog 18 #[.agg (sylC p S), .int .i64 t] w (NatR (S.und t) w) := by
  have HT := Lib.hid (fun W (hb : Below w.heap.size w W) => hasTopic_any p S t W (hs.later hb))
  have HB := Lib.hid (bAl (Below.refl _ w) (.cells #[.slice p.o1 S.nT p.c1, .slice p.o2 S.nO p.c2, .slice p.o3 S.nC p.c3] 27))
  have P0 : Hid (Blk (w.alloc (.cells #[.slice p.o1 S.nT p.c1, .slice p.o2 S.nO p.c2, .slice p.o3 S.nC p.c3] 27)) w.heap.size 27 (sylC p S)) := Lib.hid (Blk.newAt rfl)
  by_cases hh : S.has t = true
  · obtain ⟨k, rfl, hk, hF, hn⟩ := S.has_yes hh
    have HL := Lib.hid (show S.und ((k : Nat) : Int) = (List.range S.nT).filter fun i => decide (k ∈ path S.tp i) by unfold Syl.und; rw [if_pos hh]; unfold underL; rfl)
    rw [HL.out]
    rw [hh] at HT
    clear HL hh
    obtain ⟨f, hf⟩ : ∃ f : Nat → Bool, f = fun i => decide (k ∈ path S.tp i) := ⟨_, rfl⟩
    rw [← hf]
    have HFI := Lib.hid (fun i => (congrFun hf i : f i = decide (k ∈ path S.tp i)))
    have HRR := Lib.hid (fun W (hb : Below w.heap.size w W) i (hi : i < S.nT) => pathTo_any p.o1 S.nT p.c1 S.tn S.tp hF hn i hi W (hs.later hb).t)
    have HLN := Lib.hid (filt_len f)
    clear hs hf hF
    obtain ⟨o1, c1, o2, c2, o3, c3⟩ := p
    obtain ⟨nT, tn, tp, nO, on, nC, cn, cw, cm⟩ := S
    unfold sylC at HT P0 ⊢
    try unfold sylC at HRR
    dsimp only at HT HB P0 hk hn HRR ⊢
    obtain ⟨i0, hi0, hz0, hz1, hz2⟩ := info_parts int_info
    go_enter Try.func18, Try.ntmps18
    go_wp2_with (go_at_call 43; refine (HT.out _ HB.out).mono ?_; rintro e w7 ⟨rfl, hb⟩; have HF := Lib.hid (bTr HB.out hb); have PX := Lib.hid (P0.out.later hb); have z0 : w7.cell? ⟨w.heap.size, 0, none⟩ = some (.slice o1 nT c1) := PX.out.cell 0; clear hb)
    go_loopw [5, 14] (fun v i wr => CollAt f nT w7 v i wr) (fun _ i _ => nT - (intOf i).toNat)
    case atStart => exact CollAt.start f nT w7
    case round =>
      obtain ⟨i, rfl, hi, HO, HBR⟩ := hrel
      have PR := Lib.hid (PX.out.later HBR.out)
      have y0 : wr.cell? ⟨w.heap.size, 0, none⟩ = some (.slice o1 nT c1) := PR.out.cell 0
      have y1 : wr.cell? ⟨w.heap.size, 1, none⟩ = some (.slice o2 nO c2) := PR.out.cell 1
      have y2 : wr.cell? ⟨w.heap.size, 2, none⟩ = some (.slice o3 nC c3) := PR.out.cell 2
      by_cases hin : i < nT
      · have hin' : (i : Int) < (nT : Int) := by omega
        have hi0' : (0 : Int) ≤ (i : Int) := by omega
        have hsz := HBR.out.size
        have HPA := Lib.hid (HRR.out wr (bTr HF.out HBR.out) i hin)
        have HCC := Lib.hid (fun o c W (h : RowI W W.heap.size o (path tp i).length (natAt (path tp i))) => contains_nat o c _ (path tp i) k W h (by have := path_len tp i; omega))
        rw [← HFI.out i] at HCC
        generalize path tp i = l at HPA HCC
        cases hfi : f i
        · rw [hfi] at HCC
          clear HRR
          go_wp2_with (first | (go_at_call 45; refine HPA.out.mono ?_; rintro e w5 ⟨v5, rfl, hv5, hb5⟩; obtain ⟨o5, c5, rfl, _, _, hrow5⟩ := hv5.row; have HR5 := Lib.hid hrow5; have HW5 := Lib.hid hb5; clear hv5 hb5 hrow5) | (go_at_call 44; refine (HCC.out _ _ _ HR5.out).mono ?_; rintro e w6 ⟨rfl, hw6⟩; obtain rfl := hw6.symm))
          go_roundw
          case rel => exact CollAt.no hfi hin HO.out HBR.out HW5.out
          case measure => simp [intOf]; omega
        · rw [hfi] at HCC
          clear HRR
          go_wp2_with (first | (first | (go_at_call 45; refine HPA.out.mono ?_; rintro e w5 ⟨v5, rfl, hv5, hb5⟩; obtain ⟨o5, c5, rfl, _, _, hrow5⟩ := hv5.row; have HR5 := Lib.hid hrow5; have HW5 := Lib.hid hb5; clear hv5 hb5 hrow5) | (go_at_call 44; refine (HCC.out _ _ _ HR5.out).mono ?_; rintro e w6 ⟨rfl, hw6⟩; obtain rfl := hw6.symm)) | (at_builtin; refine wpList_append_own_at _ rfl (.tmp 23) (.tmp 25) 22 rfl w7.heap.size 3 i0 (.int .i64 0) 1 8 Try.underlying22 hi0 hz0 hz1 hz2 rfl (by decide) _ _ _ rfl ((own_later HO.out HW5.out).alloc _) ⟨w5.heap.size, 0, none⟩ 1 1 [iv i] rfl rfl ?c1 ?c2 ?c3 ?c4 ?c5 ?_; (case c1 => exact cell_one_new _ _ _); (case c2 => intro u hu; simp at hu; subst hu; rfl); (case c3 => have := HLN.out i; unfold maxLen; omega); (case c4 => have := HLN.out i; omega); (case c5 => have := HW5.out.size; simp; omega); intro v' w3 hown3 hgrow hnil hat; have H3 := Lib.hid (And.intro hown3 hgrow); clear hown3 hgrow hnil hat))
          go_roundw
          case rel => exact CollAt.yes hfi hin HO.out HBR.out HW5.out H3.out.2 H3.out.1
          case measure => simp [intOf]; omega
      · obtain rfl : i = nT := by omega
        have HO2 := HO
        have HFIN := Lib.hid (bTr HF.out HBR.out)
        have HSZ := Lib.hid HF.out.size
        obtain ⟨o8, c8, hv8⟩ := own_any HO.out
        have HV8 := Lib.hid hv8
        clear hv8
        go_wp2_with fail
        exact bodyPost_ret (by simp [results, Try.results18, go_sem]) rfl ⟨_, rfl, ⟨_, HO2.out, HSZ.out⟩, HFIN.out⟩
  · have HL := Lib.hid (show S.und t = [] by unfold Syl.und; rw [if_neg hh])
    have hh' : S.has t = false := by simpa using hh
    rw [HL.out]
    rw [hh'] at HT
    clear HL hh hh' hs
    obtain ⟨o1, c1, o2, c2, o3, c3⟩ := p
    obtain ⟨nT, tn, tp, nO, on, nC, cn, cw, cm⟩ := S
    unfold sylC at HT P0 ⊢
    dsimp only at HT HB P0 ⊢
    go_enter Try.func18, Try.ntmps18
    go_wp2_with (go_at_call 43; refine (HT.out _ HB.out).mono ?_; rintro e w7 ⟨rfl, hb⟩; have HF := Lib.hid (bTr HB.out hb); clear hb)
    go_ret
    exact ⟨_, rfl, NatV.nil _ _, HF.out⟩

set_option maxRecDepth 100000 in
set_option maxHeartbeats 4000000 in
theorem runder_any (p : Ptr) (S : Syl) (t : Int) (w : World) (hs : SylIn w w.heap.size p S) :
    Calls Try.prog 19 #[.agg (sylC p S), .int .i64 t] w (NatR (S.und t) w) := by
  have HT := Lib.hid (fun W (hb : Below w.heap.size w W) => topic_any p S t W (hs.later hb))
  have HB := Lib.hid (bAl (Below.refl _ w) (.cells #[.slice p.o1 S.nT p.c1, .slice p.o2 S.nO p.c2, .slice p.o3 S.nC p.c3] 27))
  have P0 : Hid (Blk (w.alloc (.cells #[.slice p.o1 S.nT p.c1, .slice p.o2 S.nO p.c2, .slice p.o3 S.nC p.c3] 27)) w.heap.size 27 (sylC p S)) := Lib.hid (Blk.newAt rfl)
  by_cases hh : S.has t = true
  · obtain ⟨k, rfl, hk, hF, hn⟩ := S.has_yes hh
    have HL := Lib.hid (show S.und ((k : Nat) : Int) = (List.range S.nT).filter fun i => decide (k ∈ path S.tp i) by unfold Syl.und; rw [if_pos hh]; unfold underL; rfl)
    rw [HL.out]
    rw [hh] at HT
    clear HL hh
    obtain ⟨f, hf⟩ : ∃ f : Nat → Bool, f = fun i => decide (k ∈ path S.tp i) := ⟨_, rfl⟩
    rw [← hf]
    have HFI := Lib.hid (fun i => (congrFun hf i : f i = decide (k ∈ path S.tp i)))
    have HRR := Lib.hid (fun W (hb : Below w.heap.size w W) i (hi : i < S.nT) => above_any p S hF k i hi W (hs.later hb) hn)
    have HLN := Lib.hid (filt_len f)
    clear hs hf hF
    obtain ⟨o1, c1, o2, c2, o3, c3⟩ := p
    obtain ⟨nT, tn, tp, nO, on, nC, cn, cw, cm⟩ := S
    unfold sylC at HT P0 ⊢
    try unfold sylC at HRR
    dsimp only at HT HB P0 hk hn HRR ⊢
    obtain ⟨i0, hi0, hz0, hz1, hz2⟩ := info_parts int_info
    go_enter Try.func19, Try.ntmps19
    go_wp2_with (go_at_call 46; refine (HT.out _ HB.out).mono ?_; rintro e w7 ⟨rfl, hb⟩; have HF := Lib.hid (bTr HB.out hb); have PX := Lib.hid (P0.out.later hb); have z0 : w7.cell? ⟨w.heap.size, 0, none⟩ = some (.slice o1 nT c1) := PX.out.cell 0; clear hb)
    go_loopw [5, 6] (fun v i wr => CollAt f nT w7 v i wr) (fun _ i _ => nT - (intOf i).toNat)
    case atStart => exact CollAt.start f nT w7
    case round =>
      obtain ⟨i, rfl, hi, HO, HBR⟩ := hrel
      have PR := Lib.hid (PX.out.later HBR.out)
      have y0 : wr.cell? ⟨w.heap.size, 0, none⟩ = some (.slice o1 nT c1) := PR.out.cell 0
      have y1 : wr.cell? ⟨w.heap.size, 1, none⟩ = some (.slice o2 nO c2) := PR.out.cell 1
      have y2 : wr.cell? ⟨w.heap.size, 2, none⟩ = some (.slice o3 nC c3) := PR.out.cell 2
      by_cases hin : i < nT
      · have hin' : (i : Int) < (nT : Int) := by omega
        have hi0' : (0 : Int) ≤ (i : Int) := by omega
        have hsz := HBR.out.size
        have HCC := Lib.hid (HRR.out wr (bTr HF.out HBR.out) i hin)
        rw [← HFI.out i] at HCC
        cases hfi : f i
        · rw [hfi] at HCC
          clear HRR
          go_wp2_with (go_at_call 47; refine HCC.out.mono ?_; rintro e w5 ⟨rfl, hb5⟩; have HW5 := Lib.hid hb5; clear hb5)
          go_roundw
          case rel => exact CollAt.no hfi hin HO.out HBR.out HW5.out
          case measure => simp [intOf]; omega
        · rw [hfi] at HCC
          clear HRR
          go_wp2_with (first | (go_at_call 47; refine HCC.out.mono ?_; rintro e w5 ⟨rfl, hb5⟩; have HW5 := Lib.hid hb5; clear hb5) | (at_builtin; refine wpList_append_own_at _ rfl (.tmp 22) (.tmp 24) 22 rfl w7.heap.size 3 i0 (.int .i64 0) 1 8 Try.underlying22 hi0 hz0 hz1 hz2 rfl (by decide) _ _ _ rfl ((own_later HO.out HW5.out).alloc _) ⟨w5.heap.size, 0, none⟩ 1 1 [iv i] rfl rfl ?c1 ?c2 ?c3 ?c4 ?c5 ?_; (case c1 => exact cell_one_new _ _ _); (case c2 => intro u hu; simp at hu; subst hu; rfl); (case c3 => have := HLN.out i; unfold maxLen; omega); (case c4 => have := HLN.out i; omega); (case c5 => have := HW5.out.size; simp; omega); intro v' w3 hown3 hgrow hnil hat; have H3 := Lib.hid (And.intro hown3 hgrow); clear hown3 hgrow hnil hat))
          go_roundw
          case rel => exact CollAt.yes hfi hin HO.out HBR.out HW5.out H3.out.2 H3.out.1
          case measure => simp [intOf]; omega
      · obtain rfl : i = nT := by omega
        have HO2 := HO
        have HFIN := Lib.hid (bTr HF.out HBR.out)
        have HSZ := Lib.hid HF.out.size
        obtain ⟨o8, c8, hv8⟩ := own_any HO.out
        have HV8 := Lib.hid hv8
        clear hv8
        go_wp2_with fail
        exact bodyPost_ret (by simp [results, Try.results19, go_sem]) rfl ⟨_, rfl, ⟨_, HO2.out, HSZ.out⟩, HFIN.out⟩
  · have HL := Lib.hid (show S.und t = [] by unfold Syl.und; rw [if_neg hh])
    have hh' : S.has t = false := by simpa using hh
    rw [HL.out]
    rw [hh'] at HT
    clear HL hh hh' hs
    obtain ⟨o1, c1, o2, c2, o3, c3⟩ := p
    obtain ⟨nT, tn, tp, nO, on, nC, cn, cw, cm⟩ := S
    unfold sylC at HT P0 ⊢
    dsimp only at HT HB P0 ⊢
    go_enter Try.func19, Try.ntmps19
    go_wp2_with (go_at_call 46; refine (HT.out _ HB.out).mono ?_; rintro e w7 ⟨rfl, hb⟩; have HF := Lib.hid (bTr HB.out hb); clear hb)
    go_ret
    exact ⟨_, rfl, NatV.nil _ _, HF.out⟩

set_option maxRecDepth 100000 in
set_option maxHeartbeats 4000000 in
theorem rpath_any (p : Ptr) (S : Syl) (t : Int) (w : World) (hs : SylIn w w.heap.size p S) :
    Calls Try.prog 21 #[.agg (sylC p S), .int .i64 t] w (NatR (S.pth t) w) := by
  have HT := Lib.hid (fun W (hb : Below w.heap.size w W) => topic_any p S t W (hs.later hb))
  have HB := Lib.hid (bAl (Below.refl _ w) (.cells #[.slice p.o1 S.nT p.c1, .slice p.o2 S.nO p.c2, .slice p.o3 S.nC p.c3] 27))
  have P0 : Hid (Blk (w.alloc (.cells #[.slice p.o1 S.nT p.c1, .slice p.o2 S.nO p.c2, .slice p.o3 S.nC p.c3] 27)) w.heap.size 27 (sylC p S)) := Lib.hid (Blk.newAt rfl)
  by_cases hh : S.has t = true
  · obtain ⟨k, rfl, hk, hF, hn⟩ := S.has_yes hh
    have HL := Lib.hid (show S.pth ((k : Nat) : Int) = (List.range S.nT).filter fun i => decide (i ∈ path S.tp k) by unfold Syl.pth; rw [if_pos hh]; exact (path_filter S.tp k S.nT hk).symm)
    rw [HL.out]
    rw [hh] at HT
    clear HL hh
    obtain ⟨f, hf⟩ : ∃ f : Nat → Bool, f = fun i => decide (i ∈ path S.tp k) := ⟨_, rfl⟩
    rw [← hf]
    have HFI := Lib.hid (fun i => (congrFun hf i : f i = decide (i ∈ path S.tp k)))
    have HRR := Lib.hid (fun W (hb : Below w.heap.size w W) i => above_any p S hF i k hk W (hs.later hb) hn)
    have HLN := Lib.hid (filt_len f)
    clear hs hf hF
    obtain ⟨o1, c1, o2, c2, o3, c3⟩ := p
    obtain ⟨nT, tn, tp, nO, on, nC, cn, cw, cm⟩ := S
    unfold sylC at HT P0 ⊢
    try unfold sylC at HRR
    dsimp only at HT HB P0 hk hn HRR ⊢
    obtain ⟨i0, hi0, hz0, hz1, hz2⟩ := info_parts int_info
    go_enter Try.func21, Try.ntmps21
    go_wp2_with (go_at_call 46; refine (HT.out _ HB.out).mono ?_; rintro e w7 ⟨rfl, hb⟩; have HF := Lib.hid (bTr HB.out hb); have PX := Lib.hid (P0.out.later hb); have z0 : w7.cell? ⟨w.heap.size, 0, none⟩ = some (.slice o1 nT c1) := PX.out.cell 0; clear hb)
    go_loopw [5, 6] (fun v i wr => CollAt f nT w7 v i wr) (fun _ i _ => nT - (intOf i).toNat)
    case atStart => exact CollAt.start f nT w7
    case round =>
      obtain ⟨i, rfl, hi, HO, HBR⟩ := hrel
      have PR := Lib.hid (PX.out.later HBR.out)
      have y0 : wr.cell? ⟨w.heap.size, 0, none⟩ = some (.slice o1 nT c1) := PR.out.cell 0
      have y1 : wr.cell? ⟨w.heap.size, 1, none⟩ = some (.slice o2 nO c2) := PR.out.cell 1
      have y2 : wr.cell? ⟨w.heap.size, 2, none⟩ = some (.slice o3 nC c3) := PR.out.cell 2
      by_cases hin : i < nT
      · have hin' : (i : Int) < (nT : Int) := by omega
        have hi0' : (0 : Int) ≤ (i : Int) := by omega
        have hsz := HBR.out.size
        have HCC := Lib.hid (HRR.out wr (bTr HF.out HBR.out) i)
        rw [← HFI.out i] at HCC
        cases hfi : f i
        · rw [hfi] at HCC
          clear HRR
          go_wp2_with (go_at_call 47; refine HCC.out.mono ?_; rintro e w5 ⟨rfl, hb5⟩; have HW5 := Lib.hid hb5; clear hb5)
          go_roundw
          case rel => exact CollAt.no hfi hin HO.out HBR.out HW5.out
          case measure => simp [intOf]; omega
        · rw [hfi] at HCC
          clear HRR
          go_wp2_with (first | (go_at_call 47; refine HCC.out.mono ?_; rintro e w5 ⟨rfl, hb5⟩; have HW5 := Lib.hid hb5; clear hb5) | (at_builtin; refine wpList_append_own_at _ rfl (.tmp 22) (.tmp 24) 22 rfl w7.heap.size 3 i0 (.int .i64 0) 1 8 Try.underlying22 hi0 hz0 hz1 hz2 rfl (by decide) _ _ _ rfl ((own_later HO.out HW5.out).alloc _) ⟨w5.heap.size, 0, none⟩ 1 1 [iv i] rfl rfl ?c1 ?c2 ?c3 ?c4 ?c5 ?_; (case c1 => exact cell_one_new _ _ _); (case c2 => intro u hu; simp at hu; subst hu; rfl); (case c3 => have := HLN.out i; unfold maxLen; omega); (case c4 => have := HLN.out i; omega); (case c5 => have := HW5.out.size; simp; omega); intro v' w3 hown3 hgrow hnil hat; have H3 := Lib.hid (And.intro hown3 hgrow); clear hown3 hgrow hnil hat))
          go_roundw
          case rel => exact CollAt.yes hfi hin HO.out HBR.out HW5.out H3.out.2 H3.out.1
          case measure => simp [intOf]; omega
      · obtain rfl : i = nT := by omega
        have HO2 := HO
        have HFIN := Lib.hid (bTr HF.out HBR.out)
        have HSZ := Lib.hid HF.out.size
        obtain ⟨o8, c8, hv8⟩ := own_any HO.out
        have HV8 := Lib.hid hv8
        clear hv8
        go_wp2_with fail
        exact bodyPost_ret (by simp [results, Try.results21, go_sem]) rfl ⟨_, rfl, ⟨_, HO2.out, HSZ.out⟩, HFIN.out⟩
  · have HL := Lib.hid (show S.pth t = [] by unfold Syl.pth; rw [if_neg hh])
    have hh' : S.has t = false := by simpa using hh
    rw [HL.out]
    rw [hh'] at HT
    clear HL hh hh' hs
    obtain ⟨o1, c1, o2, c2, o3, c3⟩ := p
    obtain ⟨nT, tn, tp, nO, on, nC, cn, cw, cm⟩ := S
    unfold sylC at HT P0 ⊢
    dsimp only at HT HB P0 ⊢
    go_enter Try.func21, Try.ntmps21
    go_wp2_with (go_at_call 46; refine (HT.out _ HB.out).mono ?_; rintro e w7 ⟨rfl, hb⟩; have HF := Lib.hid (bTr HB.out hb); clear hb)
    go_ret
    exact ⟨_, rfl, NatV.nil _ _, HF.out⟩

set_option maxRecDepth 100000 in
set_option maxHeartbeats 4000000 in
theorem path_any (p : Ptr) (S : Syl) (t : Int) (w : World) (hs : SylIn w w.heap.size p S) :
    Calls Try.prog 20 #[.agg (sylC p S), .int .i64 t] w (NatR (S.pth t) w) := by
  have HT := Lib.hid (fun W (hb : Below w.heap.size w W) => hasTopic_any p S t W (hs.later hb))
  have HB := Lib.hid (bAl (Below.refl _ w) (.cells #[.slice p.o1 S.nT p.c1, .slice p.o2 S.nO p.c2, .slice p.o3 S.nC p.c3] 27))
  have P0 : Hid (Blk (w.alloc (.cells #[.slice p.o1 S.nT p.c1, .slice p.o2 S.nO p.c2, .slice p.o3 S.nC p.c3] 27)) w.heap.size 27 (sylC p S)) := Lib.hid (Blk.newAt rfl)
  by_cases hh : S.has t = true
  · obtain ⟨k, rfl, hk, hF, hn⟩ := S.has_yes hh
    have HL := Lib.hid (show S.pth ((k : Nat) : Int) = path S.tp k by unfold Syl.pth; rw [if_pos hh]; rfl)
    rw [HL.out]
    rw [hh] at HT
    clear HL hh
    have HRR := Lib.hid (fun W (hb : Below w.heap.size w W) => pathTo_any p.o1 S.nT p.c1 S.tn S.tp hF hn k hk W (hs.later hb).t)
    generalize path S.tp k = l at HRR ⊢
    clear hs hF
    obtain ⟨o1, c1, o2, c2, o3, c3⟩ := p
    obtain ⟨nT, tn, tp, nO, on, nC, cn, cw, cm⟩ := S
    unfold sylC at HT P0 ⊢
    dsimp only at HT HB P0 HRR ⊢
    go_enter Try.func20, Try.ntmps20
    go_wp2_with (first | (go_at_call 43; refine (HT.out _ HB.out).mono ?_; rintro e w7 ⟨rfl, hb⟩; have HF := Lib.hid (bTr HB.out hb); have z0 : w7.cell? ⟨w.heap.size, 0, none⟩ = some (.slice o1 nT c1) := (P0.out.later hb).cell 0; clear hb) | (go_at_call 45; refine (HRR.out w7 HF.out).mono ?_; rintro e w5 ⟨v5, rfl, hv5, hb5⟩; have H5 := Lib.hid (And.intro hv5 hb5); clear hv5 hb5))
    go_ret
    exact ⟨_, rfl, H5.out.1.from HF.out.size, bTr HF.out H5.out.2⟩
  · have HL := Lib.hid (show S.pth t = [] by unfold Syl.pth; rw [if_neg hh])
    have hh' : S.has t = false := by simpa using hh
    rw [HL.out]
    rw [hh'] at HT
    clear HL hh hh' hs
    obtain ⟨o1, c1, o2, c2, o3, c3⟩ := p
    obtain ⟨nT, tn, tp, nO, on, nC, cn, cw, cm⟩ := S
    unfold sylC at HT P0 ⊢
    dsimp only at HT HB P0 ⊢
    go_enter Try.func20, Try.ntmps20
    go_wp2_with (go_at_call 43; refine (HT.out _ HB.out).mono ?_; rintro e w7 ⟨rfl, hb⟩; have HF := Lib.hid (bTr HB.out hb); clear hb)
    go_ret
    exact ⟨_, rfl, NatV.nil _ _, HF.out⟩
end Go.Proofs.Ytglikjdgjmijfaa
