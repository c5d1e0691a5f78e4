/-
  Roll of the reference.
-/
import Derived.Test.YtglikjdgjmijfaaSRoll
namespace Go.Proofs.Ytglikjdgjmijfaa
open Go.RowKit
set_option linter.unusedSimpArgs false
set_option linter.unusedVariables false

theorem rolls_snoc (F : Nat → Int) (k : Nat) : ints ((List.range (k + 1)).map F) = ints ((List.range k).map F) ++ [.int .i64 (F k)] := by unfold ints; rw [List.range_succ, List.map_append, List.map_append]; rfl
theorem rolls_len (F : Nat → Int) (k : Nat) : (ints ((List.range k).map F)).length = k := by unfold ints; simp
theorem rolls_row {w : World} {B k : Nat} {v : Value} {e : TypeId} {F : Nat → Int} (h : w.ownsRow B e 1 v k (ints ((List.range k).map F))) : ∃ o c, v = .slice o k c ∧ RowI w w.heap.size o k F := by
  obtain ⟨o, c, rfl, _, _, _, hr⟩ := intRow_own h
  exact ⟨o, c, rfl, hr.congr fun i hi => by rw [List.getD_eq_getElem?_getD, List.getElem?_map, List.getElem?_range hi]; rfl⟩
theorem mark_yes {tp mk : Nat → Int} {i k : Nat} (h : decide (i ∈ path tp k) = true) : sumN (markUp tp mk i) (k + 1) = sumN (markUp tp mk i) k + mk k := by
  show _ + markUp tp mk i k = _
  unfold markUp; rw [if_pos (of_decide_eq_true h)]
theorem mark_no {tp mk : Nat → Int} {i k : Nat} (h : decide (i ∈ path tp k) = false) : sumN (markUp tp mk i) (k + 1) = sumN (markUp tp mk i) k := by
  show _ + markUp tp mk i k = _
  unfold markUp; rw [if_neg (of_decide_eq_false h), Int.add_zero]

set_option maxRecDepth 100000 in
set_option maxHeartbeats 8000000 in
theorem rroll_any (p : Ptr) (S : Syl) (o : Option Addr) (n c : Nat) (mk : Nat → Int) (w : World) (hs : SylIn w w.heap.size p S) (hm : RowI w w.heap.size o n mk) (hn : n ≤ 1000000) :
    Calls Try.prog 30 #[.agg (sylC p S), .slice o n c] w (RollR S mk n w) := by
  have HT := Lib.hid (fun W (hb : Below w.heap.size w W) => rcheck_any p S W (hs.later hb))
  have HB := Lib.hid (bAl (Below.refl _ w) (.cells #[.slice p.o1 S.nT p.c1, .slice p.o2 S.nO p.c2, .slice p.o3 S.nC p.c3] 27))
  have P0 : Hid (Blk (w.alloc (.cells #[.slice p.o1 S.nT p.c1, .slice p.o2 S.nO p.c2, .slice p.o3 S.nC p.c3] 27)) w.heap.size 27 (sylC p S)) := Lib.hid (Blk.newAt rfl)
  have HM := Lib.hid hm
  have RE := Lib.hid (show S.rlE mk n = if S.chk = 0 then (if n = S.nT then (if badM mk n = true then 2 else 0) else 1) else S.chk from rfl)
  have RF := Lib.hid (show ∀ (x : Int) (w' : World), S.rlE mk n = x → x ≠ 0 → Below w.heap.size w w' → RollR S mk n w (.returned (.tuple #[.slice none 0 0, .int .i64 x])) w' from fun x w' h hx hb => RollR.fail h hx hb)
  have RG := Lib.hid (show ∀ (w' : World) (o : Option Addr) (c : Nat), S.rlE mk n = 0 → RowI w' w'.heap.size o n (rollN S.tp mk n) → Below w.heap.size w w' → RollR S mk n w (.returned (.tuple #[.slice o n c, .int .i64 0])) w' from fun w' o c h hr hb => RollR.good h hr hb)
  generalize S.rlE mk n = X at RE RF RG
  by_cases h0 : S.chk = 0
  · obtain ⟨hnT, _, _, hF, _⟩ := S.ok h0
    have HAB := Lib.hid (fun W (hb : Below w.heap.size w W) i k (hk : k < S.nT) => above_any p S hF i k hk W (hs.later hb) hnT)
    rw [h0] at HT RE
    rw [if_pos rfl] at RE
    clear hs hm h0 hF
    obtain ⟨o1, c1, o2, c2, o3, c3⟩ := p
    obtain ⟨nT, tn, tp, nO, on, nC, cn, cw, cm⟩ := S
    unfold sylC at HT P0 HAB ⊢
    dsimp only at HT HB P0 HAB RE RG hnT ⊢
    by_cases h1 : n = nT
    · subst h1
      rw [if_pos rfl] at RE
      have hnn : (((n : Nat) : Int) != (n : Int)) = false := by simp
      obtain ⟨i0, hi0, hz0, hz1, hz2⟩ := info_parts int_info
      go_enter Try.func30, Try.ntmps30
      go_wp2_with (go_at_call 14; refine (HT.out _ HB.out).mono ?_; rintro e w7 ⟨rfl, hb⟩; have HF := Lib.hid (bTr HB.out hb); have PX := Lib.hid (P0.out.later hb); have z0 : w7.cell? ⟨w.heap.size, 0, none⟩ = some (.slice o1 n c1) := PX.out.cell 0; clear hb)
      go_loopw [7] (fun i wr => ∃ k : Nat, i = .int .i64 k ∧ k ≤ n ∧ Hid (badM mk k = false) ∧ wr = w7) (fun i _ => n - (intOf i).toNat)
      case atStart => exact ⟨0, rfl, Nat.zero_le _, Lib.hid rfl, rfl⟩
      case round =>
        obtain ⟨k, rfl, hk, HD, rfl⟩ := hrel
        by_cases hkn : k < n
        · have hkn' : (k : Int) < (n : Int) := by omega
          have hk0 : (0 : Int) ≤ (k : Int) := by omega
          obtain ⟨b, off, rfl, hbB, hc⟩ := HM.out.below HF.out (Nat.le_refl _) k hkn
          by_cases he : mk k < 0 ∨ 200 < mk k
          · have HRE2 := Lib.hid (show X = 2 by rw [RE.out, if_pos (badM_hit he hkn)])
            generalize mk k = u at hc he
            have hcs : u < 0 ∨ (¬ u < 0 ∧ 200 < u) := by omega
            clear he
            rcases hcs with ha | ⟨ha, hb⟩
            all_goals
              go_wp2_with fail
              exact bodyPost_ret (v := .tuple #[.slice none 0 0, .int .i64 2]) (by simp [results, Try.results30, go_sem]) rfl (RF.out _ _ HRE2.out (by decide) HF.out)
          · have HD2 := Lib.hid (show badM mk (k + 1) = false by rw [badM_succ, HD.out, decide_eq_false he]; rfl)
            generalize mk k = u at hc he
            have ha : ¬ u < 0 := by omega
            have hb : ¬ 200 < u := by omega
            clear he
            go_wp2_with fail
            go_roundw
            case rel => exact ⟨k + 1, by go_num, by omega, HD2, trivial⟩
            case measure => simp [intOf]; omega
        · obtain rfl : k = n := by omega
          rw [HD.out, if_neg (by decide)] at RE
          have HMB := Lib.hid (badM_no HD.out)
          clear HD
          go_wp2_with fail
          go_loopw [8, 9] (fun v i wr2 => ∃ q : Nat, i = .int .i64 q ∧ q ≤ k ∧ Hid (wr2.ownsRow wr.heap.size 3 1 v q (ints ((List.range q).map (rollN tp mk k)))) ∧ Hid (Below wr.heap.size wr wr2)) (fun _ i _ => k - (intOf i).toNat)
          case atStart => exact ⟨0, rfl, Nat.zero_le _, Lib.hid (World.ownsRow_nil _ _ _ _), Lib.hid (Below.refl _ _)⟩
          case round =>
            obtain ⟨q, rfl, hq, HO, HBR⟩ := hrel
            by_cases hqk : q < k
            · have hqk' : (q : Int) < (k : Int) := by omega
              go_wp2_with fail
              have KB := Lib.hid (fun W (h : Below wr.heap.size wr W) => (⟨((PX.out.later HBR.out).later h).cell 0, ((PX.out.later HBR.out).later h).cell 1, ((PX.out.later HBR.out).later h).cell 2⟩ : W.cell? ⟨w.heap.size, 0, none⟩ = some (.slice o1 k c1) ∧ W.cell? ⟨w.heap.size, 1, none⟩ = some (.slice o2 nO c2) ∧ W.cell? ⟨w.heap.size, 2, none⟩ = some (.slice o3 nC c3)))
              have KM := Lib.hid (fun W (h : Below wr.heap.size wr W) => HM.out.below (bTr (bTr HF.out HBR.out) h) (Nat.le_refl _))
              have KA := Lib.hid (fun W (h : Below wr.heap.size wr W) y (hy : y < k) => HAB.out W (bTr (bTr HF.out HBR.out) h) q y hy)
              have KO := Lib.hid (fun W (h : Below wr.heap.size wr W) => own_later HO.out h)
              have KW := Lib.hid (fun W (h : Below wr.heap.size wr W) => bTr HBR.out h)
              go_loopw [10, 11] (fun v i wr3 => ∃ y : Nat, i = .int .i64 y ∧ y ≤ k ∧ v = .int .i64 (sumN (markUp tp mk q) y) ∧ Hid (Below wr.heap.size wr wr3)) (fun _ i _ => k - (intOf i).toNat)
              case atStart => exact ⟨0, rfl, Nat.zero_le _, rfl, Lib.hid (Below.refl _ _)⟩
              case round =>
                obtain ⟨y, rfl, hy, rfl, HBY⟩ := hrel
                by_cases hyk : y < k
                · have hyk' : (y : Int) < (k : Int) := by omega
                  have hy0 : (0 : Int) ≤ (y : Int) := by omega
                  obtain ⟨b, off, rfl, hbB, hc⟩ := KM.out _ HBY.out y hyk
                  have HLB := Lib.hid (Nat.lt_of_lt_of_le hbB (Nat.le_trans HF.out.size (KW.out _ HBY.out).size))
                  obtain ⟨e0, e1, e2⟩ := KB.out _ HBY.out
                  obtain ⟨m0, m1⟩ := HMB.out y hyk
                  have HCC := Lib.hid (KA.out _ HBY.out y hyk)
                  have HYE := Lib.hid (mark_yes (tp := tp) (mk := mk) (i := q) (k := y))
                  have HNO := Lib.hid (mark_no (tp := tp) (mk := mk) (i := q) (k := y))
                  have hbd := roll_bd (tp := tp) HMB.out y q hy
                  have hbd' : 0 ≤ sumN (markUp tp mk q) y ∧ sumN (markUp tp mk q) y ≤ 200 * (y : Int) := hbd
                  clear hbd
                  generalize sumN (markUp tp mk q) y = s at hbd' HYE HNO ⊢
                  obtain ⟨s0, s1⟩ := hbd'
                  generalize mk y = m at hc m0 m1 HYE
                  cases hd : decide (q ∈ path tp y)
                  · rw [hd] at HCC
                    have HS := Lib.hid (HNO.out hd)
                    clear hd HNO HYE
                    go_wp2_with (go_at_call 47; refine HCC.out.mono ?_; rintro e w5 ⟨rfl, hb5⟩; have HW5 := Lib.hid hb5; clear hb5)
                    go_roundw
                    case rel => exact ⟨y + 1, by go_num, by omega, by rw [HS.out], Lib.hid (bTr HBY.out HW5.out)⟩
                    case measure => simp [intOf]; omega
                  · rw [hd] at HCC
                    have HS := Lib.hid (HYE.out hd)
                    clear hd HNO HYE
                    go_wp2_with (go_at_call 47; refine HCC.out.mono ?_; rintro e w5 ⟨rfl, hb5⟩; have HW5 := Lib.hid hb5; have hc5 : w5.cell? ⟨b, off + y, none⟩ = some (.int .i64 m) := (hb5.cell (p := ⟨b, off + y, none⟩) HLB.out).trans hc; clear hb5)
                    go_roundw
                    case rel => exact ⟨y + 1, by go_num, by omega, by rw [HS.out], Lib.hid (bTr HBY.out HW5.out)⟩
                    case measure => simp [intOf]; omega
                · obtain rfl : y = k := by omega
                  have HSN := Lib.hid (rolls_snoc (rollN tp mk y) q)
                  have hl := rolls_len (rollN tp mk y) q
                  have HBY2 := Lib.hid (KW.out _ HBY.out)
                  have HO2 := Lib.hid (KO.out _ HBY.out)
                  have HRS := Lib.hid (show sumN (markUp tp mk q) y = rollN tp mk y q from rfl)
                  rw [← HRS.out] at HSN
                  generalize sumN (markUp tp mk q) y = s at HSN ⊢
                  clear HRS
                  go_wp2_with (at_builtin; refine wpList_append_own_at _ rfl (.tmp 63) (.tmp 65) 22 rfl _ 3 i0 (.int .i64 0) 1 8 Try.underlying22 hi0 hz0 hz1 hz2 rfl (by decide) _ _ _ rfl (HO2.out.alloc _) ⟨wr.heap.size, 0, none⟩ 1 1 [.int .i64 s] rfl rfl ?c1 ?c2 ?c3 ?c4 ?c5 ?_; (case c1 => exact cell_one_new _ _ _); (case c2 => intro u hu; simp at hu; subst hu; rfl); (case c3 => unfold maxLen; omega); (case c4 => omega); (case c5 => have := HBY2.out.size; simp; omega); intro v' w3 hown3 hgrow hnil hat; rw [← HSN.out] at hown3; have H3 := Lib.hid (And.intro hown3 hgrow); clear hown3 hgrow hnil hat)
                  go_roundw
                  case rel => exact ⟨q + 1, by go_num, by omega, Lib.hid H3.out.1, Lib.hid ((bAl HBY2.out _).grown H3.out.2 (by have := HBY2.out.size; simp; omega) (fun j hj => (HO2.out.lt j hj).1))⟩
                  case measure => simp [intOf]; omega
            · obtain rfl : q = k := by omega
              obtain ⟨o8, c8, hv8, hr8⟩ := rolls_row HO.out
              have HR8 := Lib.hid hr8
              have HBF := Lib.hid (bTr HF.out HBR.out)
              subst hv8
              clear hr8
              go_wp2_with fail
              exact bodyPost_ret (v := .tuple #[.slice o8 q c8, .int .i64 0]) (by simp [results, Try.results30, go_sem]) rfl (RG.out _ _ _ RE.out HR8.out HBF.out)
    · rw [if_neg h1] at RE
      have hne : (((n : Nat) : Int) != (nT : Int)) = true := by rw [bne_iff_ne]; omega
      go_enter Try.func30, Try.ntmps30
      go_wp2_with (go_at_call 14; refine (HT.out _ HB.out).mono ?_; rintro e w7 ⟨rfl, hb⟩; have HF := Lib.hid (bTr HB.out hb); have z0 : w7.cell? ⟨w.heap.size, 0, none⟩ = some (.slice o1 nT c1) := (P0.out.later hb).cell 0; clear hb)
      exact bodyPost_ret (v := .tuple #[.slice none 0 0, .int .i64 1]) (by simp [results, Try.results30, go_sem]) rfl (RF.out _ _ RE.out (by decide) HF.out)
  · rw [if_neg h0] at RE
    have hx' : (S.chk != 0) = true := by rw [bne_iff_ne]; exact h0
    have HX0 := Lib.hid h0
    generalize S.chk = x at HT RE hx' HX0
    clear hs hm h0
    obtain ⟨o1, c1, o2, c2, o3, c3⟩ := p
    obtain ⟨nT, tn, tp, nO, on, nC, cn, cw, cm⟩ := S
    unfold sylC at HT P0 ⊢
    dsimp only at HT HB P0 RG ⊢
    go_enter Try.func30, Try.ntmps30
    go_wp2_with (go_at_call 14; refine (HT.out _ HB.out).mono ?_; rintro e w7 ⟨rfl, hb⟩; have HF := Lib.hid (bTr HB.out hb); clear hb)
    exact bodyPost_ret (v := .tuple #[.slice none 0 0, .int .i64 x]) (by simp [results, Try.results30, go_sem]) rfl (RF.out _ _ RE.out HX0.out HF.out)
end Go.Proofs.Ytglikjdgjmijfaa
