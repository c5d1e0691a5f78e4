/-
  The walk of the statement on Roll.
-/
import Derived.Test.YtglikjdgjmijfaaSKit
namespace Go.Proofs.Ytglikjdgjmijfaa
open Go.RowKit
set_option linter.unusedSimpArgs false
set_option linter.unusedVariables false

set_option maxHeartbeats 1000000 in
theorem tape_spoil (x N : Int) (hx : I64 x) (hN : 1 ≤ N) (hN1 : N < 1000000) {w : World} {B g : Nat} {o : Option Addr} {n c : Nat} {z : Nat → Int} (h : Tp w B g o n c z) :
    Calls Try.prog 26 #[.pointer (some ⟨g, 0, none⟩), .int .i64 x, .int .i64 N] w (GetInt I64 w B g o n c z) := by
  have hNp : 0 < N := by omega
  have HX := Lib.hid hx
  clear hx
  go_enter Try.func26, Try.ntmps26
  go_wp2_with fail
  refine (tape_one N hN hN1 h).mono ?_
  rintro e w1 ⟨b, rfl, ht, hg⟩
  have HT := Lib.hid ht
  have HG := Lib.hid hg
  clear ht hg
  cases b
  · go_wp2_with fail
    go_ret
    exact ⟨x, HX.out, rfl, HT.out, HG.out⟩
  · go_wp2_with fail
    refine (tape_wild HT.out).mono ?_
    rintro e w2 ⟨y, hy, rfl, ht, hg⟩
    have HF := Lib.hid (And.intro hy (And.intro ht (gTr HG.out hg)))
    clear hy ht hg
    go_wp2_with fail
    go_ret
    exact ⟨y, HF.out.1, rfl, HF.out.2.1, HF.out.2.2⟩
/-- the marks drawn so far -/
structure Mk (w2 : World) (B g : Nat) (o : Option Addr) (n c : Nat) (z : Nat → Int) (gs : Nat) (cs : Array Value) (v : Value) (ms : List Int) (wr : World) : Prop where
  tp : Tp wr B g o n c z
  gr : w2.grownBy wr (some g)
  bx : Blk wr gs 27 cs
  rw_ : wr.ownsRow (gs + 1) 3 1 v ms.length (ints ms)
  gl : g < gs
  sl : gs = w2.heap.size
theorem Mk.on {w2 : World} {B g : Nat} {o : Option Addr} {n c : Nat} {z : Nat → Int} {gs : Nat} {cs : Array Value} {v : Value} {ms : List Int} {wr w3 : World} (h : Mk w2 B g o n c z gs cs v ms wr) (ht : Tp w3 B g o n c z) (hg : wr.grownBy w3 (some g)) : Mk w2 B g o n c z gs cs v ms w3 := by
  have hl := h.gl
  refine ⟨ht, gTr h.gr hg, h.bx.grown hg (fun e => by injection e; omega), h.rw_.kept hg (.inr fun e => by have := (h.rw_.lt g e).1; omega), h.gl, h.sl⟩
theorem Mk.later {w2 : World} {B g : Nat} {o : Option Addr} {n c : Nat} {z : Nat → Int} {gs : Nat} {cs : Array Value} {v : Value} {ms : List Int} {wr w3 : World} (h : Mk w2 B g o n c z gs cs v ms wr) (hb : Below wr.heap.size wr w3) : Mk w2 B g o n c z gs cs v ms w3 := h.on (h.tp.later hb) (gBe hb)
theorem Mk.push {w2 : World} {B g : Nat} {o : Option Addr} {n c : Nat} {z : Nat → Int} {gs : Nat} {cs : Array Value} {v v' : Value} {ms : List Int} {wr w3 : World} {x : Int} (h : Mk w2 B g o n c z gs cs v ms wr) (hg : wr.grownBy w3 v.ownBlock) (h3 : w3.ownsRow (gs + 1) 3 1 v' (ms.length + 1) (ints ms ++ [.int .i64 x])) : Mk w2 B g o n c z gs cs v' (ms ++ [x]) w3 := by
  have hl := h.gl
  have hs := h.sl
  refine ⟨h.tp.grow hg (fun k hk => by have := (h.rw_.lt k hk).1; omega), gRow h.gr hg (fun j hj => by have := (h.rw_.lt j hj).1; omega), h.bx.grown hg (fun e => by have := (h.rw_.lt gs e.symm).1; omega), ?_, h.gl, h.sl⟩
  rw [List.length_append]
  unfold ints at h3 ⊢
  rw [List.map_append]
  exact h3
set_option maxRecDepth 100000 in
set_option maxHeartbeats 8000000 in
theorem walkSyllabusRolls (o : Option Addr) (n c : Nat) (zs : List Int) (w : World) (h0 : IsRow .i64 w o n c zs) :
    Calls Try.prog 6 #[.slice o n c] w fun e w' => e = .returned (.bool true) ∧ Below w.heap.size w w' := by
  obtain ⟨hr, h1, h2, h3⟩ := row_of h0
  obtain ⟨i0, hi0, hz0, hz1, hz2⟩ := info_parts int_info
  go_enter Try.func6, Try.ntmps6
  go_wp2_with fail
  refine (tape_new hr h1 h2 h3).mono ?_
  rintro e w1 ⟨g, n9, rfl, ht1, hb1, hg⟩
  go_wp2_with fail
  refine (draw_any 8 (by omega) (by omega) ht1).mono ?_
  rintro e w2 ⟨p, lt, lo, lc, rfl, hS, hSW, ht2, hg2, _, hl7, _, _, _⟩
  have HB2 := Lib.hid (hb1.trans (bGr hg2 hg hb1.size))
  have HGW := Lib.hid hg
  have hnT : (sylOf lt lo lc).nT ≤ 7 := hl7
  generalize sylOf lt lo lc = S at hS hSW hnT ⊢
  have hgl := ht2.lt
  have HM : Hid (Mk w2 w.heap.size g o n9 c (fun i => zs.getD i 0) w2.heap.size (sylC p S) (.slice none 0 0) [] (w2.alloc (.cells (sylC p S) 27))) := Lib.hid ⟨ht2.alloc _, gAlc (gDr w2 0 _) _, Blk.new _ _ _, World.ownsRow_nil _ _ _ _, hgl, rfl⟩
  have HSW := Lib.hid hSW
  clear hr h1 h2 h3 hb1 ht1 hg hS ht2 hg2 hSW hgl hl7
  unfold sylC at HM ⊢
  go_wp2_with fail
  generalize w2.alloc _ = w3 at HM ⊢
  generalize hgs : w2.heap.size = gs at HM ⊢
  have HGS := Lib.hid hgs
  clear hgs
  go_loopw [5, 6] (fun v i wr => ∃ (k : Nat) (ms : List Int), i = .int .i64 k ∧ k ≤ S.nT ∧ Hid (ms.length = k) ∧ Hid (Mk w2 w.heap.size g o n9 c (fun i => zs.getD i 0) gs #[.slice p.o1 S.nT p.c1, .slice p.o2 S.nO p.c2, .slice p.o3 S.nC p.c3] v ms wr)) (fun _ i _ => S.nT - (intOf i).toNat)
  case atStart => exact ⟨0, [], rfl, Nat.zero_le _, Lib.hid rfl, HM⟩
  case round =>
    clear HM
    obtain ⟨k, ms, rfl, hk, HL, HM⟩ := hrel
    have q0 := HM.out.bx.cell 0
    have q1 := HM.out.bx.cell 1
    have q2 := HM.out.bx.cell 2
    by_cases hkn : k < S.nT
    · have hkn' : (k : Int) < (S.nT : Int) := by omega
      have hml1 : ms.length + 1 ≤ maxLen := by have := HL.out; unfold maxLen; omega
      have hml2 : (ms.length + 1) * 8 ≤ 140737488355328 := by have := HL.out; omega
      go_wp2_with fail
      refine (tape_range 0 20 (by omega) (by omega) (by omega) HM.out.tp).mono ?_
      rintro e w4 ⟨x, ⟨x0, x1⟩, rfl, ht4, hg4⟩
      have HM4 := Lib.hid (HM.out.on ht4 hg4)
      clear ht4 hg4 HM q0 q1 q2
      go_wp2_with fail
      refine (tape_spoil x 12 ⟨by omega, by omega⟩ (by omega) (by omega) HM4.out.tp).mono ?_
      rintro e w5 ⟨y, hy, rfl, ht5, hg5⟩
      have HM5 := Lib.hid (HM4.out.on ht5 hg5)
      have HM6 := Lib.hid (HM5.out.later (bAl (Below.refl _ w5) (.cells #[.int .i64 y] 3)))
      clear ht5 hg5 HM4 x0 x1 hy
      go_wp2_with (at_builtin; refine wpList_append_own_at _ rfl (.tmp 22) (.tmp 27) 22 rfl (gs + 1) 3 i0 (.int .i64 0) 1 8 Try.underlying22 hi0 hz0 hz1 hz2 rfl (by decide) _ _ _ rfl HM6.out.rw_ ⟨w5.heap.size, 0, none⟩ 1 1 [.int .i64 y] rfl rfl ?c1 ?c2 hml1 hml2 ?c5 ?_; (case c1 => exact cell_one_new _ _ _); (case c2 => intro u hu; simp at hu; subst hu; rfl); (case c5 => exact HM6.out.bx.lt); intro v6 w6 hown6 hgrow6 hnil6 hat6; have HM7 := Lib.hid (HM6.out.push hgrow6 hown6); clear hown6 hgrow6 hnil6 hat6)
      go_roundw
      case rel => exact ⟨k + 1, ms ++ [y], by go_num, by omega, Lib.hid (by rw [List.length_append, HL.out]; rfl), HM7⟩
      case measure => simp [intOf]; omega
    · obtain rfl : k = S.nT := by omega
      have hml1 : ms.length + 1 ≤ maxLen := by have := HL.out; unfold maxLen; omega
      have hml2 : (ms.length + 1) * 8 ≤ 140737488355328 := by have := HL.out; omega
      have hml3 : ms.length ≤ 1000000 := by have := HL.out; omega
      go_wp2_with fail
      refine (tape_one 10 (by omega) (by omega) HM.out.tp).mono ?_
      rintro e w4 ⟨bb, rfl, ht4, hg4⟩
      have HM4 := Lib.hid (HM.out.on ht4 hg4)
      clear ht4 hg4 HM q0 q1 q2
      cases bb
      · obtain ⟨o5, c5, rfl, -, -, -, hrow⟩ := intRow_own HM4.out.rw_
        have HRW := Lib.hid hrow
        clear hrow
        have HLN := Lib.hid (show (ms).length ≤ 1000000 by exact hml3)
        have F1 := Lib.hid (fun W (hX : SylIn W W.heap.size p S) (hm : RowI W W.heap.size o5 (ms).length (fun i => (ms).getD i 0)) => roll_any p S o5 (ms).length c5 (fun i => (ms).getD i 0) W hX hm HLN.out)
        have G1 := Lib.hid (fun W (hX : SylIn W W.heap.size p S) (hm : RowI W W.heap.size o5 (ms).length (fun i => (ms).getD i 0)) => rroll_any p S o5 (ms).length c5 (fun i => (ms).getD i 0) W hX hm HLN.out)
        have HRN := Lib.hid (show S.rlN (fun i => (ms).getD i 0) (ms).length ≤ 1000000 by unfold Syl.rlN; split; exact HLN.out; exact Nat.zero_le _)
        unfold RollR at F1 G1
        unfold sylC at F1 G1
        generalize S.rlN (fun i => (ms).getD i 0) (ms).length = rn at F1 G1 HRN
        generalize S.rlE (fun i => (ms).getD i 0) (ms).length = re at F1 G1
        generalize rollN S.tp (fun i => (ms).getD i 0) (ms).length = rf at F1 G1
        have HS5 := Lib.hid (HSW.out _ HM4.out.gr)
        have P5 := Lib.hid HM4.out.bx
        have HB5 := Lib.hid (HB2.out.trans ((bGr (B := w.heap.size) HM4.out.gr HGW.out HB2.out.size)))
        have q0 := P5.out.cell 0
        have q1 := P5.out.cell 1
        have q2 := P5.out.cell 2
        have hre : (re == re) = true := by simp
        go_wp2_with fail
        refine (F1.out _ HS5.out HRW.out).mono ?_
        rintro e w7 ⟨oa, ca, rfl, hra, hb⟩
        have HRA := Lib.hid hra
        have HRW7 := Lib.hid ((HRW.out.below hb (Nat.le_refl _)).more hb.size)
        have P7 := Lib.hid (P5.out.later hb)
        have HS7 := Lib.hid (HS5.out.later hb)
        have HB7 := Lib.hid (bTr HB5.out hb)
        clear hra hb q0 q1 q2 P5 HS5 HB5 HRW
        have q0 := P7.out.cell 0
        have q1 := P7.out.cell 1
        have q2 := P7.out.cell 2
        go_wp2_with fail
        refine (G1.out w7 HS7.out HRW7.out).mono ?_
        rintro e w8 ⟨ob, cb, rfl, hrb, hb⟩
        have HRB := Lib.hid hrb
        have HRA8 := Lib.hid ((HRA.out.below hb (Nat.le_refl _)).more hb.size)
        have HB8 := Lib.hid (bTr HB7.out hb)
        clear hrb hb q0 q1 q2 P7 HS7 HB7 HRW7 HRA
        go_wp2_with fail
        refine (same_row oa ob rn ca cb _ _ rf w8 HRA8.out HRB.out (Nat.le_refl _) (Nat.le_refl _) HRN.out).mono ?_
        rintro e w9 ⟨rfl, hb⟩
        have HB9 := Lib.hid (bTr HB8.out hb)
        clear hb HRA8 HRB HB8
        go_wp2_with fail
        refine (awake_any _).mono ?_
        rintro e w10 ⟨rfl, hb⟩
        have HF := Lib.hid (bTr HB9.out hb)
        clear hb
        go_wp2_with fail
        go_ret
        exact ⟨rfl, HF.out⟩
      · have HM6 := Lib.hid (HM4.out.later (bAl (Below.refl _ w4) (.cells #[.int .i64 1] 3)))
        have hre0 : ms.length + 1 ≤ 1000000 := by have := HL.out; omega
        go_wp2_with (at_builtin; refine wpList_append_own_at _ rfl (.tmp 31) (.tmp 32) 22 rfl (gs + 1) 3 i0 (.int .i64 0) 1 8 Try.underlying22 hi0 hz0 hz1 hz2 rfl (by decide) _ _ _ rfl HM6.out.rw_ ⟨w4.heap.size, 0, none⟩ 1 1 [.int .i64 1] rfl rfl ?c1 ?c2 hml1 hml2 ?c5 ?_; (case c1 => exact cell_one_new _ _ _); (case c2 => intro u hu; simp at hu; subst hu; rfl); (case c5 => exact HM6.out.bx.lt); intro v6 w6 hown6 hgrow6 hnil6 hat6; have HM7 := Lib.hid (HM6.out.push hgrow6 hown6); clear hown6 hgrow6 hnil6 hat6; have HLN := Lib.hid (show (ms ++ [(1 : Int)]).length ≤ 1000000 by rw [List.length_append]; exact hre0); generalize ms ++ [(1 : Int)] = ms2 at HM7 HLN; obtain ⟨o5, c5, rfl, -, -, -, hrow⟩ := intRow_own HM7.out.rw_; have HRW := Lib.hid hrow; clear hrow; have q0 := HM7.out.bx.cell 0; have q1 := HM7.out.bx.cell 1; have q2 := HM7.out.bx.cell 2)
        have F1 := Lib.hid (fun W (hX : SylIn W W.heap.size p S) (hm : RowI W W.heap.size o5 (ms2).length (fun i => (ms2).getD i 0)) => roll_any p S o5 (ms2).length c5 (fun i => (ms2).getD i 0) W hX hm HLN.out)
        have G1 := Lib.hid (fun W (hX : SylIn W W.heap.size p S) (hm : RowI W W.heap.size o5 (ms2).length (fun i => (ms2).getD i 0)) => rroll_any p S o5 (ms2).length c5 (fun i => (ms2).getD i 0) W hX hm HLN.out)
        have HRN := Lib.hid (show S.rlN (fun i => (ms2).getD i 0) (ms2).length ≤ 1000000 by unfold Syl.rlN; split; exact HLN.out; exact Nat.zero_le _)
        unfold RollR at F1 G1
        unfold sylC at F1 G1
        generalize S.rlN (fun i => (ms2).getD i 0) (ms2).length = rn at F1 G1 HRN
        generalize S.rlE (fun i => (ms2).getD i 0) (ms2).length = re at F1 G1
        generalize rollN S.tp (fun i => (ms2).getD i 0) (ms2).length = rf at F1 G1
        have HS5 := Lib.hid (HSW.out _ HM7.out.gr)
        have P5 := Lib.hid HM7.out.bx
        have HB5 := Lib.hid (HB2.out.trans ((bGr (B := w.heap.size) HM7.out.gr HGW.out HB2.out.size)))
        have hre : (re == re) = true := by simp
        refine (F1.out _ HS5.out HRW.out).mono ?_
        rintro e w7 ⟨oa, ca, rfl, hra, hb⟩
        have HRA := Lib.hid hra
        have HRW7 := Lib.hid ((HRW.out.below hb (Nat.le_refl _)).more hb.size)
        have P7 := Lib.hid (P5.out.later hb)
        have HS7 := Lib.hid (HS5.out.later hb)
        have HB7 := Lib.hid (bTr HB5.out hb)
        clear hra hb q0 q1 q2 P5 HS5 HB5 HRW
        have q0 := P7.out.cell 0
        have q1 := P7.out.cell 1
        have q2 := P7.out.cell 2
        go_wp2_with fail
        refine (G1.out w7 HS7.out HRW7.out).mono ?_
        rintro e w8 ⟨ob, cb, rfl, hrb, hb⟩
        have HRB := Lib.hid hrb
        have HRA8 := Lib.hid ((HRA.out.below hb (Nat.le_refl _)).more hb.size)
        have HB8 := Lib.hid (bTr HB7.out hb)
        clear hrb hb q0 q1 q2 P7 HS7 HB7 HRW7 HRA
        go_wp2_with fail
        refine (same_row oa ob rn ca cb _ _ rf w8 HRA8.out HRB.out (Nat.le_refl _) (Nat.le_refl _) HRN.out).mono ?_
        rintro e w9 ⟨rfl, hb⟩
        have HB9 := Lib.hid (bTr HB8.out hb)
        clear hb HRA8 HRB HB8
        go_wp2_with fail
        refine (awake_any _).mono ?_
        rintro e w10 ⟨rfl, hb⟩
        have HF := Lib.hid (bTr HB9.out hb)
        clear hb
        go_wp2_with fail
        go_ret
        exact ⟨rfl, HF.out⟩
end Go.Proofs.Ytglikjdgjmijfaa
