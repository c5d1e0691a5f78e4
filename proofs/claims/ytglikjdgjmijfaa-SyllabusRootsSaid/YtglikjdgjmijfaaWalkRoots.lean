/-
  The walk of the statement on the marks of the roots and of the children.
-/
import Derived.Test.YtglikjdgjmijfaaSKit
import Derived.Test.YtglikjdgjmijfaaSRootM
namespace Go.Proofs.Ytglikjdgjmijfaa
open Go.RowKit
set_option linter.unusedSimpArgs false
set_option linter.unusedVariables false

/-- the marks drawn so far -/
structure Mz (w2 : World) (B g : Nat) (o : Option Addr) (n c : Nat) (z : Nat → Int) (gs : Nat) (cs : Array Value) (v : Value) (ms : List Int) (wr : World) : Prop where
  tp : Tp wr B g o n c z
  gr : w2.grownBy wr (some g)
  bx : Blk wr gs 27 cs
  rw_ : wr.ownsRow (gs + 1) 3 1 v ms.length (ints ms)
  gl : g < gs
  sl : gs = w2.heap.size
theorem Mz.on {w2 : World} {B g : Nat} {o : Option Addr} {n c : Nat} {z : Nat → Int} {gs : Nat} {cs : Array Value} {v : Value} {ms : List Int} {wr w3 : World} (h : Mz w2 B g o n c z gs cs v ms wr) (ht : Tp w3 B g o n c z) (hg : wr.grownBy w3 (some g)) : Mz w2 B g o n c z gs cs v ms w3 := by
  have hl := h.gl
  refine ⟨ht, gTr h.gr hg, h.bx.grown hg (fun e => by injection e; omega), h.rw_.kept hg (.inr fun e => by have := (h.rw_.lt g e).1; omega), h.gl, h.sl⟩
theorem Mz.later {w2 : World} {B g : Nat} {o : Option Addr} {n c : Nat} {z : Nat → Int} {gs : Nat} {cs : Array Value} {v : Value} {ms : List Int} {wr w3 : World} (h : Mz w2 B g o n c z gs cs v ms wr) (hb : Below wr.heap.size wr w3) : Mz w2 B g o n c z gs cs v ms w3 := h.on (h.tp.later hb) (gBe hb)
theorem Mz.push {w2 : World} {B g : Nat} {o : Option Addr} {n c : Nat} {z : Nat → Int} {gs : Nat} {cs : Array Value} {v v' : Value} {ms : List Int} {wr w3 : World} {x : Int} (h : Mz w2 B g o n c z gs cs v ms wr) (hg : wr.grownBy w3 v.ownBlock) (h3 : w3.ownsRow (gs + 1) 3 1 v' (ms.length + 1) (ints ms ++ [.int .i64 x])) : Mz w2 B g o n c z gs cs v' (ms ++ [x]) w3 := by
  have hl := h.gl
  have hs := h.sl
  refine ⟨h.tp.grow hg (fun k hk => by have := (h.rw_.lt k hk).1; omega), gRow h.gr hg (fun j hj => by have := (h.rw_.lt j hj).1; omega), h.bx.grown hg (fun e => by have := (h.rw_.lt gs e.symm).1; omega), ?_, h.gl, h.sl⟩
  rw [List.length_append]
  unfold ints at h3 ⊢
  rw [List.map_append]
  exact h3
theorem rl_good {S : Syl} {mk : Nat → Int} {n : Nat} (h : S.chk = 0) (hn : n = S.nT) (hb : ∀ i, i < n → 0 ≤ mk i ∧ mk i ≤ 30) : S.rlE mk n = 0 ∧ S.rlN mk n = n := by
  have e : S.rlE mk n = 0 := by
    unfold Syl.rlE
    rw [if_pos h, if_pos hn]
    have : badM mk n = false := by
      unfold badM
      rw [List.any_eq_false]
      intro i hi
      have := hb i (List.mem_range.1 hi)
      simp; omega
    rw [this]; rfl
  exact ⟨e, by unfold Syl.rlN; rw [if_pos e]⟩
theorem RowI.at_ {w : World} {B n b off : Nat} {C : Nat → Int} (h : RowI w B (some ⟨b, off, none⟩) n C) {i : Nat} (hi : i < n) : b < B ∧ w.cell? ⟨b, off + i, none⟩ = some (.int .i64 (C i)) := by
  obtain ⟨b', off', e, hb, hc⟩ := h i hi
  injection e with e; injection e with e1 e2; subst e1; subst e2
  exact ⟨hb, hc⟩
theorem RowT.at_ {w : World} {B n b off : Nat} {tn : Nat → ByteArray} {tp : Nat → Int} (h : RowT w B (some ⟨b, off, none⟩) n tn tp) {i : Nat} (hi : i < n) : b < B ∧ w.cell? ⟨b, off + i * 2 + 1, none⟩ = some (.int .i64 (tp i)) := by
  obtain ⟨b', off', e, hb, _, hc⟩ := h i hi
  injection e with e; injection e with e1 e2; subst e1; subst e2
  exact ⟨hb, hc⟩
set_option maxRecDepth 100000 in
set_option maxHeartbeats 8000000 in
theorem walkSyllabusRoots (o : Option Addr) (n c : Nat) (zs : List Int) (w : World) (h0 : IsRow .i64 w o n c zs) :
    Calls Try.prog 9 #[.slice o n c] w fun e w' => e = .returned (.bool true) ∧ Below w.heap.size w w' := by
  obtain ⟨hr, h1, h2, h3⟩ := row_of h0
  obtain ⟨i0, hi0, hz0, hz1, hz2⟩ := info_parts int_info
  go_enter Try.func9, Try.ntmps9
  go_wp2_with fail
  refine (tape_new hr h1 h2 h3).mono ?_
  rintro e w1 ⟨g, n9, rfl, ht1, hb1, hg⟩
  go_wp2_with fail
  refine (draw_any 0 (by omega) (by omega) ht1).mono ?_
  rintro e w2 ⟨p, lt, lo, lc, rfl, hS, hSW, ht2, hg2, hl1, _, _, _, hz⟩
  obtain ⟨hchk, hl6, _⟩ := hz rfl
  have HB2 := Lib.hid (hb1.trans (bGr hg2 hg hb1.size))
  have HGW := Lib.hid hg
  have hn1 : 1 ≤ (sylOf lt lo lc).nT := hl1
  have hn6 : (sylOf lt lo lc).nT ≤ 6 := hl6
  clear hz hl1 hl6
  generalize sylOf lt lo lc = S at hS hSW hchk hn1 hn6 ⊢
  have hgl := ht2.lt
  have HM : Hid (Mz w2 w.heap.size g o n9 c (fun i => zs.getD i 0) w2.heap.size (sylC p S) (.slice none 0 0) [] (w2.alloc (.cells (sylC p S) 27))) := Lib.hid ⟨ht2.alloc _, gAlc (gDr w2 0 _) _, Blk.new _ _ _, World.ownsRow_nil _ _ _ _, hgl, rfl⟩
  have HSW := Lib.hid hSW
  have HF := Lib.hid (S.ok hchk).2.2.2.1
  have HCK := Lib.hid hchk
  clear hr h1 h2 h3 hb1 ht1 hg hS ht2 hg2 hSW hgl hchk
  unfold sylC at HM ⊢
  go_wp2_with fail
  generalize w2.alloc _ = w3 at HM ⊢
  generalize hgs : w2.heap.size = gs at HM ⊢
  have HGS := Lib.hid hgs
  clear hgs
  go_loopw [5, 6, 7] (fun v s i wr => ∃ (k : Nat) (ms : List Int), i = .int .i64 k ∧ k ≤ S.nT ∧ s = .int .i64 (sumL ms) ∧ Hid (ms.length = k) ∧ Hid (GoodM ms) ∧ Hid (Mz w2 w.heap.size g o n9 c (fun i => zs.getD i 0) gs #[.slice p.o1 S.nT p.c1, .slice p.o2 S.nO p.c2, .slice p.o3 S.nC p.c3] v ms wr)) (fun _ _ i _ => S.nT - (intOf i).toNat)
  case atStart => exact ⟨0, [], rfl, Nat.zero_le _, rfl, Lib.hid rfl, Lib.hid (fun i hi => absurd hi (Nat.not_lt_zero _)), HM⟩
  case round =>
    clear HM
    obtain ⟨k, ms, rfl, hk, rfl, HL, HG, HM⟩ := hrel
    have q0 := HM.out.bx.cell 0
    have q1 := HM.out.bx.cell 1
    have q2 := HM.out.bx.cell 2
    by_cases hkn : k < S.nT
    · have hkn' : (k : Int) < (S.nT : Int) := by omega
      have hml1 : ms.length + 1 ≤ maxLen := by have := HL.out; unfold maxLen; omega
      have hml2 : (ms.length + 1) * 8 ≤ 140737488355328 := by have := HL.out; omega
      go_wp2_with fail
      refine (tape_range 0 30 (by omega) (by omega) (by omega) HM.out.tp).mono ?_
      rintro e w4 ⟨y, ⟨y0, y1⟩, rfl, ht4, hg4⟩
      have HM4 := Lib.hid (HM.out.on ht4 hg4)
      have HM6 := Lib.hid (HM4.out.later (bAl (Below.refl _ w4) (.cells #[.int .i64 y] 3)))
      have HG2 := Lib.hid (HG.out.snoc ⟨y0, y1⟩)
      have HL2 := Lib.hid (show (ms ++ [y]).length = k + 1 by rw [List.length_append, HL.out]; rfl)
      have HY := Lib.hid (show (ms ++ [y]).getD k 0 = y by have := HL.out; subst this; exact getD_snoc)
      have HSM := Lib.hid (sumL_snoc ms y)
      have hsb : 0 ≤ sumL ms ∧ sumL ms ≤ 30 * (ms.length : Int) := sumN_bd HG.out
      have hsb2 : sumL ms ≤ 180 := by have := HL.out; omega
      clear ht4 hg4 HM q0 q1 q2 HM4
      go_wp2_with (at_builtin; refine wpList_append_own_at _ rfl (.tmp 24) (.tmp 27) 22 rfl (gs + 1) 3 i0 (.int .i64 0) 1 8 Try.underlying22 hi0 hz0 hz1 hz2 rfl (by decide) _ _ _ rfl HM6.out.rw_ ⟨w4.heap.size, 0, none⟩ 1 1 [.int .i64 y] rfl rfl ?c1 ?c2 hml1 hml2 ?c5 ?_; (case c1 => exact cell_one_new _ _ _); (case c2 => intro u hu; simp at hu; subst hu; rfl); (case c5 => exact HM6.out.bx.lt); intro v6 w6 hown6 hgrow6 hnil6 hat6; have HM7 := Lib.hid (HM6.out.push hgrow6 hown6); clear hown6 hgrow6 hnil6 hat6; generalize ms ++ [y] = ms2 at HM7 HG2 HL2 HY HSM; obtain ⟨o5, c5, rfl, -, -, -, hrow⟩ := intRow_own HM7.out.rw_; obtain ⟨b5, f5, rfl, hb5, hc5⟩ := hrow k (by have := HL2.out; omega); have hc6 : w6.cell? ⟨b5, f5 + k, none⟩ = some (.int .i64 y) := (by rw [hc5]; show some (Value.int .i64 (ms2.getD k 0)) = _; rw [HY.out]); clear hrow hc5; have hk2 : (k : Int) < (ms2.length : Int) := by have := HL2.out; omega)
      go_roundw
      case rel => exact ⟨k + 1, ms2, by go_num, by omega, by rw [HSM.out], HL2, HG2, HM7⟩
      case measure => simp [intOf]; omega
    · obtain rfl : k = S.nT := by omega
      obtain ⟨o5, c5, rfl, -, -, -, hrow⟩ := intRow_own HM.out.rw_
      have HRW := Lib.hid hrow
      clear hrow
      have hlen := HL.out
      have F1 := Lib.hid (fun W (hX : SylIn W W.heap.size p S) (hm : RowI W W.heap.size o5 ms.length (fun i => ms.getD i 0)) => roll_any p S o5 ms.length c5 (fun i => ms.getD i 0) W hX hm (by omega))
      obtain ⟨gE, gN⟩ := rl_good (mk := fun i => ms.getD i 0) HCK.out hlen HG.out
      unfold RollR at F1
      rw [gE, gN] at F1
      unfold sylC at F1
      have HG' := Lib.hid HG.out
      have HT := Lib.hid (show sumL ms = chs S.tp (-1) (rollN S.tp (fun i => ms.getD i 0) ms.length) ms.length by unfold sumL; exact roots_all (by rw [hlen]; exact HF.out))
      have HO := Lib.hid (show ∀ i, i < ms.length → rollN S.tp (fun i => ms.getD i 0) ms.length i = ms.getD i 0 + chs S.tp (i : Int) (rollN S.tp (fun i => ms.getD i 0) ms.length) ms.length from fun i hi => own_children (by rw [hlen]; exact HF.out) i hi)
      have HRB := Lib.hid (show ∀ i, 0 ≤ rollN S.tp (fun i => ms.getD i 0) ms.length i ∧ rollN S.tp (fun i => ms.getD i 0) ms.length i ≤ 180 from fun i => by have := rolled_bd (pa := S.tp) (i := i) (show (0 : Int) ≤ 30 by omega) HG.out; omega)
      have hsb : 0 ≤ sumL ms ∧ sumL ms ≤ 30 * (ms.length : Int) := sumN_bd HG.out
      have hsb2 : sumL ms ≤ 180 := by omega
      have HMB := Lib.hid (show ∀ i, i < S.nT → 0 ≤ ms.getD i 0 ∧ ms.getD i 0 ≤ 30 from fun i hi => HG.out i (by omega))
      have HRW2 := Lib.hid HRW.out
      generalize rollN S.tp (fun i => ms.getD i 0) ms.length = R at F1 HT HO HRB
      generalize sumL ms = T at HT hsb hsb2 ⊢
      rw [hlen] at F1 HT HO HRW2 hsb ⊢
      clear hlen HL gE gN HG HG' HRW
      have HS5 := Lib.hid (HSW.out _ HM.out.gr)
      have P5 := Lib.hid HM.out.bx
      have HB5 := Lib.hid (HB2.out.trans ((bGr (B := w.heap.size) HM.out.gr HGW.out HB2.out.size)))
      clear HM
      go_wp2_with fail
      refine (F1.out _ HS5.out HRW2.out).mono ?_
      rintro e w7 ⟨oa, ca, rfl, hra, hb⟩
      have HRA := Lib.hid hra
      have HRW7 := Lib.hid ((HRW2.out.below hb (Nat.le_refl _)).more hb.size)
      have P7 := Lib.hid (P5.out.later hb)
      have HS7 := Lib.hid (HS5.out.later hb)
      have HB7 := Lib.hid (bTr HB5.out hb)
      obtain ⟨ba, fa, rfl, _, _⟩ := hra 0 (by omega)
      obtain ⟨bm, fm, rfl, _, _⟩ := HRW7.out 0 (by omega)
      obtain ⟨bt, ft, ho1, _, _⟩ := HS7.out.t 0 (by omega)
      have HTP := Lib.hid HS7.out.t
      rw [ho1] at P7 HTP
      clear hra hb q0 q1 q2 P5 HS5 HB5 HRW2 F1
      have q0 := P7.out.cell 0
      have q1 := P7.out.cell 1
      have q2 := P7.out.cell 2
      go_wp2_with fail
      go_loopw [6, 10] (fun s i wr => ∃ (k : Nat), i = .int .i64 k ∧ k ≤ S.nT ∧ s = .int .i64 (T - chs S.tp (-1) R k) ∧ wr = w7) (fun _ i _ => S.nT - (intOf i).toNat)
      case atStart => exact ⟨0, rfl, Nat.zero_le _, by show _ = Value.int .i64 (T - 0); rw [Int.sub_zero], rfl⟩
      case round =>
        obtain ⟨i, rfl, hi, rfl, rfl⟩ := hrel
        by_cases hin : i < S.nT
        · have hin' : (i : Int) < (S.nT : Int) := by omega
          have m0 : wr.cell? ⟨bm, fm + i, none⟩ = some (.int .i64 (ms.getD i 0)) := (HRW7.out.at_ hin).2
          have a0 : wr.cell? ⟨ba, fa + i, none⟩ = some (.int .i64 (R i)) := (HRA.out.at_ hin).2
          have t0 : wr.cell? ⟨bt, ft + i * 2 + 1, none⟩ = some (.int .i64 (S.tp i)) := (HTP.out.at_ hin).2
          have HOI := Lib.hid (HO.out i hin)
          obtain ⟨m1, m2⟩ := HMB.out i hin
          generalize ms.getD i 0 = mi at m0 m1 m2 HOI
          go_wp2_with fail
          go_loopw [11, 12] (fun v j wr' => ∃ (k : Nat), j = .int .i64 k ∧ k ≤ S.nT ∧ v = .int .i64 (mi + chs S.tp (i : Int) R k) ∧ wr' = wr) (fun _ j _ => S.nT - (intOf j).toNat)
          case atStart => exact ⟨0, rfl, Nat.zero_le _, by show _ = Value.int .i64 (mi + 0); rw [Int.add_zero], rfl⟩
          case round =>
            obtain ⟨k, rfl, hk, rfl, hw⟩ := hrel
            obtain rfl := hw.symm
            have hcb := chs_bd (pa := S.tp) (t := (i : Int)) (n := k) (show (0 : Int) ≤ 180 by omega) (fun j _ => HRB.out j)
            have hrk := HRB.out k
            by_cases hkn : k < S.nT
            · have hkn' : (k : Int) < (S.nT : Int) := by omega
              have a1 : wr.cell? ⟨ba, fa + k, none⟩ = some (.int .i64 (R k)) := (HRA.out.at_ hkn).2
              have t1 : wr.cell? ⟨bt, ft + k * 2 + 1, none⟩ = some (.int .i64 (S.tp k)) := (HTP.out.at_ hkn).2
              have HSC := Lib.hid (chs_succ S.tp (i : Int) R k)
              by_cases he : S.tp k = (i : Int)
              · have HSE := Lib.hid (HSC.out.trans (by rw [if_pos he]))
                rw [he] at t1
                clear he HSC
                generalize R k = rk at a1 HSE hrk
                generalize chs S.tp (i : Int) R k = ck at hcb HSE ⊢
                go_wp2_with fail
                go_roundw
                case rel => exact ⟨k + 1, by go_num, by omega, by rw [HSE.out, show mi + (ck + rk) = mi + ck + rk by omega], trivial⟩
                case measure => simp [intOf]; omega
              · have HSE := Lib.hid (HSC.out.trans (by rw [if_neg he, Int.add_zero]))
                have he' : (S.tp k == (i : Int)) = false := by rw [beq_eq_false_iff_ne]; exact he
                generalize S.tp k = tk at t1 he he'
                clear HSC a1
                go_wp2_with fail
                go_roundw
                case rel => exact ⟨k + 1, by go_num, by omega, by rw [HSE.out], trivial⟩
                case measure => simp [intOf]; omega
            · obtain rfl : k = S.nT := by omega
              rw [← HOI.out]
              have hri := HRB.out i
              have hcr := chs_bd (pa := S.tp) (t := -1) (n := i) (show (0 : Int) ≤ 180 by omega) (fun j _ => HRB.out j)
              have HSC := Lib.hid (chs_succ S.tp (-1) R i)
              have hnn : (R i == R i) = true := by simp
              by_cases he : S.tp i = -1
              · have HSE := Lib.hid (HSC.out.trans (by rw [if_pos he]))
                rw [he] at t0
                clear he HSC HOI
                generalize R i = ri at a0 HSE hri hnn ⊢
                generalize chs S.tp (-1) R i = ci at hcr HSE ⊢
                go_wp2_with fail
                go_roundw
                case rel => exact ⟨i + 1, by go_num, by omega, by rw [HSE.out, show T - (ci + ri) = T - ci - ri by omega], trivial⟩
                case measure => simp [intOf]; omega
              · have HSE := Lib.hid (HSC.out.trans (by rw [if_neg he, Int.add_zero]))
                have he' : (S.tp i == -1) = false := by rw [beq_eq_false_iff_ne]; exact he
                generalize S.tp i = ti at t0 he he'
                clear HSC HOI
                generalize R i = ri at a0 hri hnn ⊢
                go_wp2_with fail
                go_roundw
                case rel => exact ⟨i + 1, by go_num, by omega, by rw [HSE.out], trivial⟩
                case measure => simp [intOf]; omega
        · obtain rfl : i = S.nT := by omega
          have hz : T - chs S.tp (-1) R S.nT = 0 := by have := HT.out; omega
          rw [hz]
          have hzz : ((0 : Int) == 0) = true := by simp
          go_wp2_with fail
          refine (awake_any _).mono ?_
          rintro e w10 ⟨rfl, hb⟩
          have HF := Lib.hid (bTr HB7.out hb)
          clear hb
          go_wp2_with fail
          go_ret
          exact ⟨rfl, HF.out⟩
end Go.Proofs.Ytglikjdgjmijfaa
