/-
  Check of the reference, whole.
-/
import Derived.Test.YtglikjdgjmijfaaRChk
namespace Go.Proofs.Ytglikjdgjmijfaa
open Go.RowKit
set_option linter.unusedSimpArgs false
set_option linter.unusedVariables false

theorem orE_all {a b c x : Int} (h : x = orE a (orE b c)) : (a ≠ 0 → a = x) ∧ (a = 0 → b ≠ 0 → b = x) ∧ (a = 0 → b = 0 → c = x) := by
  subst h
  refine ⟨fun h => (orE_n h).symm, fun h k => ?_, fun h k => ?_⟩
  · subst h; exact (orE_n k).symm
  · subst h; subst k; rfl
def NamesAt (f : Nat → Int) (nm : Nat → ByteArray) (n : Nat) (w : World) (v i : Value) (wr : World) : Prop :=
  ∃ k : Nat, i = .int .i64 k ∧ k ≤ n ∧ Hid (firstE f k = 0) ∧ Hid (wr.ownsRow w.heap.size 9 1 v k (strCells nm k)) ∧ Hid (Below w.heap.size w wr)

set_option maxRecDepth 100000 in
set_option maxHeartbeats 16000000 in
theorem rcheck_any (p : Ptr) (S : Syl) (w : World) (hs : SylIn w w.heap.size p S) :
    Calls Try.prog 14 #[.agg (sylC p S)] w fun e w' => e = .returned (.int .i64 S.chk) ∧ Below w.heap.size w w' := by
  by_cases hbig : S.big
  · have HE := Lib.hid (chk_big hbig)
    have hbig' : 16 < S.nT ∨ 6 < S.nO ∨ 6 < S.nC := hbig
    rw [HE.out]
    clear hbig hs HE
    obtain ⟨o1, c1, o2, c2, o3, c3⟩ := p
    obtain ⟨nT, tn, tp, nO, on, nC, cn, cw, cm⟩ := S
    unfold sylC
    dsimp only at hbig' ⊢
    have hcases : (16 : Int) < (nT : Int) ∨ (¬ (16 : Int) < (nT : Int) ∧ (6 : Int) < (nO : Int)) ∨ (¬ (16 : Int) < (nT : Int) ∧ ¬ (6 : Int) < (nO : Int) ∧ (6 : Int) < (nC : Int)) := by omega
    clear hbig'
    rcases hcases with ha | ⟨ha, hb⟩ | ⟨ha, hb, hc⟩
    all_goals
      go_enter Try.func14, Try.ntmps14
      go_wp2_with fail
      go_ret
      exact ⟨rfl, bAl (Below.refl _ _) _⟩
  · obtain ⟨X, hX⟩ : ∃ X, S.chk = X := ⟨_, rfl⟩
    have HE := Lib.hid (orE_all (hX.symm.trans (chk_small hbig)))
    have hbig' : ¬ (16 < S.nT ∨ 6 < S.nO ∨ 6 < S.nC) := hbig
    rw [hX]
    clear hbig hX
    have HS1 := Lib.hid hs.t
    have HS2 := Lib.hid hs.o
    have HS3 := Lib.hid hs.c
    clear hs
    obtain ⟨o1, c1, o2, c2, o3, c3⟩ := p
    obtain ⟨nT, tn, tp, nO, on, nC, cn, cw, cm⟩ := S
    unfold sylC
    dsimp only at hbig' HE HS1 HS2 HS3 ⊢
    have ha : ¬ (16 : Int) < (nT : Int) := by omega
    have hb : ¬ (6 : Int) < (nO : Int) := by omega
    have hc : ¬ (6 : Int) < (nC : Int) := by omega
    clear hbig'
    obtain ⟨i0, hi0, hz0, hz1, hz2⟩ := info_parts string_info
    go_enter Try.func14, Try.ntmps14
    go_wp2_with fail
    have P0 : Hid (Blk (w.alloc (.cells #[.slice o1 nT c1, .slice o2 nO c2, .slice o3 nC c3] 27)) w.heap.size 27 #[.slice o1 nT c1, .slice o2 nO c2, .slice o3 nC c3]) := Lib.hid (Blk.newAt rfl)
    have HBW := Lib.hid (bAl (Below.refl _ w) (.cells #[.slice o1 nT c1, .slice o2 nO c2, .slice o3 nC c3] 27))
    generalize w.alloc (.cells #[.slice o1 nT c1, .slice o2 nO c2, .slice o3 nC c3] 27) = w0 at P0 HBW ⊢
    have HGW := Lib.hid (show w.heap.size < w0.heap.size from P0.out.lt)
    have KB := Lib.hid (fun W (h : Below w0.heap.size w0 W) => (⟨(P0.out.below h HGW.out).cell 0, (P0.out.below h HGW.out).cell 1, (P0.out.below h HGW.out).cell 2⟩ : W.cell? ⟨w.heap.size, 0, none⟩ = some (.slice o1 nT c1) ∧ W.cell? ⟨w.heap.size, 1, none⟩ = some (.slice o2 nO c2) ∧ W.cell? ⟨w.heap.size, 2, none⟩ = some (.slice o3 nC c3)))
    have K1 := Lib.hid ((HS1.out.below HBW.out (Nat.le_refl _)).more (Nat.le_of_lt HGW.out))
    have K2 := Lib.hid ((HS2.out.below HBW.out (Nat.le_refl _)).more (Nat.le_of_lt HGW.out))
    have K3 := Lib.hid ((HS3.out.below HBW.out (Nat.le_refl _)).more (Nat.le_of_lt HGW.out))
    clear HS1 HS2 HS3 P0
    go_loopw [3, 4] (fun v i wr => NamesAt (topE tn tp) tn nT w0 v i wr) (fun _ i _ => nT - (intOf i).toNat)
    case atStart => exact ⟨0, rfl, Nat.zero_le _, Lib.hid rfl, Lib.hid (World.ownsRow_nil _ _ _ _), Lib.hid (Below.refl _ _)⟩
    case round =>
      obtain ⟨k, rfl, hk, HD, HO, HB⟩ := hrel
      obtain ⟨b0, b1, b2⟩ := KB.out wr HB.out
      by_cases hkn : k < nT
      · have hkn' : (k : Int) < (nT : Int) := by omega
        have hk0 : (0 : Int) ≤ (k : Int) := by omega
        obtain ⟨b, off, rfl, hbB, h0, h1⟩ := K1.out.below HB.out (Nat.le_refl _) k hkn
        have HT := Lib.hid (show topE tn tp k = if nmE tn k = 0 then (if tp k < -1 ∨ (k : Int) ≤ tp k then 2 else 0) else nmE tn k from rfl)
        have HBB := Lib.hid HB.out.size
        have HFR := Lib.hid (fun W o c (h : RowStr W W.heap.size o (k + 1) tn) => fresh_any o (k + 1) c tn k W h (by omega) (by omega))
        have KT2 := Lib.hid (fun W (h : Below w0.heap.size w0 W) => (h.cell (p := ⟨b, off + k * 2 + 1, none⟩) hbB).trans ((HB.out.cell (p := ⟨b, off + k * 2 + 1, none⟩) hbB).symm.trans h1))
        have HSN := Lib.hid (strCells_snoc tn k)
        have hl := strCells_len tn k
        by_cases he : nmE tn k = 0
        · rw [he] at HFR
          rw [if_pos he] at HT
          clear he
          generalize hx : tn k = x at h0 HSN
          generalize hy : tp k = y at h1 HT KT2
          by_cases hbad : y < -1 ∨ (k : Int) ≤ y
          · have HF0 := Lib.hid (show firstE (topE tn tp) nT = 2 by rw [firstE_stop HD.out (by rw [HT.out, if_pos hbad]; decide) hkn, HT.out, if_pos hbad])
            have HF := Lib.hid (show (2 : Int) = X by rw [← HE.out.1 (by rw [HF0.out]; decide), HF0.out])
            clear HT HF0
            have hcases : y < -1 ∨ (¬ y < -1 ∧ (k : Int) ≤ y) := by omega
            clear hbad
            rcases hcases with hp | ⟨hp, hq⟩
            all_goals
              go_wp2_with (first | (at_builtin; refine wpList_append_own_at _ rfl (.tmp 35) (.tmp 42) 24 rfl w0.heap.size 9 i0 (.string ⟨#[]⟩) 1 16 Try.underlying24 hi0 hz0 hz1 hz2 rfl (by decide) _ _ _ rfl (own_later HO.out (bAl (Below.refl _ _) _)) ⟨wr.heap.size, 0, none⟩ 1 1 [.string x] rfl rfl ?c1 ?c2 ?c3 ?c4 ?c5 ?_; (case c1 => exact cell_one_new' _ (by simp) _ _); (case c2 => intro u hu; simp at hu; subst hu; rfl); (case c3 => unfold maxLen; omega); (case c4 => omega); (case c5 => have h1 := HBB.out; simp; omega); intro v' w3 hown3 hgrow hnil hat; rw [← HSN.out] at hown3; have HB3 := Lib.hid ((bAl HB.out (.cells #[.string x] 9)).grown hgrow (by have h1 := HBB.out; simp; omega) (fun j hj => (HO.out.lt j hj).1)); have HO3 := Lib.hid hown3; obtain ⟨o', c', rfl, hc1, hc2, hrow⟩ := strRow_own hown3; have HR3 := Lib.hid hrow; clear hown3 hgrow hnil hat hrow) | (go_at_call 42; refine (HFR.out _ _ _ HR3.out).mono ?_; rintro e w4 ⟨rfl, hb4⟩; obtain ⟨d0, d1, d2⟩ := KB.out w4 (bTr HB3.out hb4); have d3 := KT2.out w4 (bTr HB3.out hb4)))
              exact bodyPost_ret (v := .int .i64 2) (by simp [results, Try.results14, go_sem]) rfl ⟨ret_int HF.out, bTr HBW.out (bTr HB3.out hb4)⟩
          · have HG := Lib.hid (show firstE (topE tn tp) (k + 1) = 0 from firstE_go HD.out (by rw [HT.out, if_neg hbad]))
            have hp : ¬ y < -1 := by omega
            have hq : ¬ (k : Int) ≤ y := by omega
            clear hbad HT
            go_wp2_with (first | (at_builtin; refine wpList_append_own_at _ rfl (.tmp 35) (.tmp 42) 24 rfl w0.heap.size 9 i0 (.string ⟨#[]⟩) 1 16 Try.underlying24 hi0 hz0 hz1 hz2 rfl (by decide) _ _ _ rfl (own_later HO.out (bAl (Below.refl _ _) _)) ⟨wr.heap.size, 0, none⟩ 1 1 [.string x] rfl rfl ?c1 ?c2 ?c3 ?c4 ?c5 ?_; (case c1 => exact cell_one_new' _ (by simp) _ _); (case c2 => intro u hu; simp at hu; subst hu; rfl); (case c3 => unfold maxLen; omega); (case c4 => omega); (case c5 => have h1 := HBB.out; simp; omega); intro v' w3 hown3 hgrow hnil hat; rw [← HSN.out] at hown3; have HB3 := Lib.hid ((bAl HB.out (.cells #[.string x] 9)).grown hgrow (by have h1 := HBB.out; simp; omega) (fun j hj => (HO.out.lt j hj).1)); have HO3 := Lib.hid hown3; obtain ⟨o', c', rfl, hc1, hc2, hrow⟩ := strRow_own hown3; have HR3 := Lib.hid hrow; clear hown3 hgrow hnil hat hrow) | (go_at_call 42; refine (HFR.out _ _ _ HR3.out).mono ?_; rintro e w4 ⟨rfl, hb4⟩; obtain ⟨d0, d1, d2⟩ := KB.out w4 (bTr HB3.out hb4); have d3 := KT2.out w4 (bTr HB3.out hb4)))
            go_roundw
            case rel => exact ⟨k + 1, by go_num, by omega, HG, Lib.hid (own_later HO3.out hb4), Lib.hid (bTr HB3.out hb4)⟩
            case measure => simp [intOf]; omega
        · have HF0 := Lib.hid (show firstE (topE tn tp) nT = nmE tn k by rw [firstE_stop HD.out (by rw [HT.out, if_neg he]; exact he) hkn, HT.out, if_neg he])
          have HF := Lib.hid (show nmE tn k = X by rw [← HE.out.1 (by rw [HF0.out]; exact he), HF0.out])
          generalize nmE tn k = z at HFR HF he
          have he' : (z != 0) = true := by rw [bne_iff_ne]; exact he
          clear he HT HF0
          generalize tn k = x at h0 HSN
          generalize tp k = y at h1 KT2
          go_wp2_with (first | (at_builtin; refine wpList_append_own_at _ rfl (.tmp 35) (.tmp 42) 24 rfl w0.heap.size 9 i0 (.string ⟨#[]⟩) 1 16 Try.underlying24 hi0 hz0 hz1 hz2 rfl (by decide) _ _ _ rfl (own_later HO.out (bAl (Below.refl _ _) _)) ⟨wr.heap.size, 0, none⟩ 1 1 [.string x] rfl rfl ?c1 ?c2 ?c3 ?c4 ?c5 ?_; (case c1 => exact cell_one_new' _ (by simp) _ _); (case c2 => intro u hu; simp at hu; subst hu; rfl); (case c3 => unfold maxLen; omega); (case c4 => omega); (case c5 => have h1 := HBB.out; simp; omega); intro v' w3 hown3 hgrow hnil hat; rw [← HSN.out] at hown3; have HB3 := Lib.hid ((bAl HB.out (.cells #[.string x] 9)).grown hgrow (by have h1 := HBB.out; simp; omega) (fun j hj => (HO.out.lt j hj).1)); have HO3 := Lib.hid hown3; obtain ⟨o', c', rfl, hc1, hc2, hrow⟩ := strRow_own hown3; have HR3 := Lib.hid hrow; clear hown3 hgrow hnil hat hrow) | (go_at_call 42; refine (HFR.out _ _ _ HR3.out).mono ?_; rintro e w4 ⟨rfl, hb4⟩; obtain ⟨d0, d1, d2⟩ := KB.out w4 (bTr HB3.out hb4); have d3 := KT2.out w4 (bTr HB3.out hb4)))
          exact bodyPost_ret (v := .int .i64 z) (by simp [results, Try.results14, go_sem]) rfl ⟨ret_int HF.out, bTr HBW.out (bTr HB3.out hb4)⟩
      · obtain rfl : k = nT := by omega
        have HT0 := Lib.hid HD.out
        have HBk := Lib.hid HB.out
        clear HO HD HB
        go_wp2_with fail
        go_loopw [6] (fun i wr2 => ∃ k2 : Nat, i = .int .i64 k2 ∧ k2 ≤ nO ∧ Hid (firstE (nmE on) k2 = 0) ∧ Hid (Below w0.heap.size w0 wr2)) (fun i _ => nO - (intOf i).toNat)
        case atStart => exact ⟨0, rfl, Nat.zero_le _, Lib.hid rfl, HBk⟩
        case round =>
          obtain ⟨j, rfl, hj, HD2, HB2⟩ := hrel
          obtain ⟨a0, a1, a2⟩ := KB.out _ HB2.out
          by_cases hjn : j < nO
          · have hjn' : (j : Int) < (nO : Int) := by omega
            have hj0 : (0 : Int) ≤ (j : Int) := by omega
            have HFR := Lib.hid (fresh_any o2 nO c2 on j _ ((K2.out.below HB2.out (Nat.le_refl _)).more HB2.out.size) hjn (by omega))
            by_cases he : nmE on j = 0
            · have HG := Lib.hid (firstE_go HD2.out he)
              rw [he] at HFR
              clear he
              go_wp2_with (go_at_call 42; refine HFR.out.mono ?_; rintro e w4 ⟨rfl, hb4⟩)
              go_roundw
              case rel => exact ⟨j + 1, by go_num, by omega, HG, Lib.hid (bTr HB2.out hb4)⟩
              case measure => simp [intOf]; omega
            · have HF0 := Lib.hid (firstE_stop HD2.out he hjn)
              have HF := Lib.hid (show nmE on j = X by rw [← HE.out.2.1 HT0.out (by rw [HF0.out]; exact he), HF0.out])
              generalize nmE on j = z at HFR HF he
              have he' : (z != 0) = true := by rw [bne_iff_ne]; exact he
              clear he HF0
              go_wp2_with (go_at_call 42; refine HFR.out.mono ?_; rintro e w4 ⟨rfl, hb4⟩)
              exact bodyPost_ret (v := .int .i64 z) (by simp [results, Try.results14, go_sem]) rfl ⟨ret_int HF.out, bTr HBW.out (bTr HB2.out hb4)⟩
          · obtain rfl : j = nO := by omega
            have HT2 := Lib.hid HD2.out
            have HBk2 := Lib.hid HB2.out
            clear HD2 HB2
            go_wp2_with fail
            go_loopw [8, 9] (fun v i wr3 => NamesAt (comE cn cw cm) cn nC w0 v i wr3) (fun _ i _ => nC - (intOf i).toNat)
            case atStart => exact ⟨0, rfl, Nat.zero_le _, Lib.hid rfl, Lib.hid (World.ownsRow_nil _ _ _ _), HBk2⟩
            case round =>
              obtain ⟨q, rfl, hq, HD3, HO3', HB3'⟩ := hrel

              have HO := HO3'
              have HB := HB3'
              clear HO3' HB3'
              obtain ⟨f0, f1, f2⟩ := KB.out _ HB.out
              by_cases hqn : q < nC
              · have hqn' : (q : Int) < (nC : Int) := by omega
                have hq0 : (0 : Int) ≤ (q : Int) := by omega
                obtain ⟨b, off, rfl, hbB, h0, h1, h2⟩ := K3.out.below HB.out (Nat.le_refl _) q hqn
                have HT := Lib.hid (show comE cn cw cm q = if nmE cn q = 0 then (if cw q < 0 ∨ 1000 < cw q ∨ cm q < 1 ∨ 200 < cm q then 2 else 0) else nmE cn q from rfl)
                have HBB := Lib.hid HB.out.size
                have HFR := Lib.hid (fun W o c (h : RowStr W W.heap.size o (q + 1) cn) => fresh_any o (q + 1) c cn q W h (by omega) (by omega))
                have KT2 := Lib.hid (fun W (h : Below w0.heap.size w0 W) => And.intro ((h.cell (p := ⟨b, off + q * 3, none⟩) hbB).trans ((HB.out.cell (p := ⟨b, off + q * 3, none⟩) hbB).symm.trans h0)) (And.intro ((h.cell (p := ⟨b, off + q * 3 + 1, none⟩) hbB).trans ((HB.out.cell (p := ⟨b, off + q * 3 + 1, none⟩) hbB).symm.trans h1)) ((h.cell (p := ⟨b, off + q * 3 + 2, none⟩) hbB).trans ((HB.out.cell (p := ⟨b, off + q * 3 + 2, none⟩) hbB).symm.trans h2))))
                have HSN := Lib.hid (strCells_snoc cn q)
                have hl := strCells_len cn q
                by_cases he : nmE cn q = 0
                · rw [he] at HFR
                  rw [if_pos he] at HT
                  clear he
                  generalize hx : cn q = x at h0 HSN KT2
                  generalize hy : cw q = y at h1 HT KT2
                  generalize hz : cm q = z at h2 HT KT2
                  by_cases hbad : y < 0 ∨ 1000 < y ∨ z < 1 ∨ 200 < z
                  · have HF0 := Lib.hid (show firstE (comE cn cw cm) nC = 2 by rw [firstE_stop HD3.out (by rw [HT.out, if_pos hbad]; decide) hqn, HT.out, if_pos hbad])
                    have HF := Lib.hid (show (2 : Int) = X by rw [← HE.out.2.2 HT0.out HT2.out, HF0.out])
                    clear HT HF0
                    have hcases : y < 0 ∨ (¬ y < 0 ∧ 1000 < y) ∨ (¬ y < 0 ∧ ¬ 1000 < y ∧ z < 1) ∨ (¬ y < 0 ∧ ¬ 1000 < y ∧ ¬ z < 1 ∧ 200 < z) := by omega
                    clear hbad
                    rcases hcases with ha' | ⟨ha', hb'⟩ | ⟨ha', hb', hc'⟩ | ⟨ha', hb', hc', hd'⟩
                    all_goals
                      go_wp2_with (first | (at_builtin; refine wpList_append_own_at _ rfl (.tmp 88) (.tmp 95) 24 rfl w0.heap.size 9 i0 (.string ⟨#[]⟩) 1 16 Try.underlying24 hi0 hz0 hz1 hz2 rfl (by decide) _ _ _ rfl (own_later HO.out (bAl (Below.refl _ _) _)) ⟨wr.heap.size, 0, none⟩ 1 1 [.string x] rfl rfl ?c1 ?c2 ?c3 ?c4 ?c5 ?_; (case c1 => exact cell_one_new' _ (by simp) _ _); (case c2 => intro u hu; simp at hu; subst hu; rfl); (case c3 => unfold maxLen; omega); (case c4 => omega); (case c5 => have h1 := HBB.out; simp; omega); intro v' w3 hown3 hgrow hnil hat; rw [← HSN.out] at hown3; have HB3 := Lib.hid ((bAl HB.out (.cells #[.string x] 9)).grown hgrow (by have h1 := HBB.out; simp; omega) (fun j hj => (HO.out.lt j hj).1)); have HO3 := Lib.hid hown3; obtain ⟨o', c', rfl, hc1, hc2, hrow⟩ := strRow_own hown3; have HR3 := Lib.hid hrow; clear hown3 hgrow hnil hat hrow) | (go_at_call 42; refine (HFR.out _ _ _ HR3.out).mono ?_; rintro e w4 ⟨rfl, hb4⟩; obtain ⟨d0, d1, d2⟩ := KB.out w4 (bTr HB3.out hb4); obtain ⟨d3, d4, d5⟩ := KT2.out w4 (bTr HB3.out hb4)))
                      exact bodyPost_ret (v := .int .i64 2) (by simp [results, Try.results14, go_sem]) rfl ⟨ret_int HF.out, bTr HBW.out (bAl (bTr HB3.out hb4) _)⟩
                  · have HG := Lib.hid (show firstE (comE cn cw cm) (q + 1) = 0 from firstE_go HD3.out (by rw [HT.out, if_neg hbad]))
                    have ha' : ¬ y < 0 := by omega
                    have hb' : ¬ 1000 < y := by omega
                    have hc' : ¬ z < 1 := by omega
                    have hd' : ¬ 200 < z := by omega
                    clear hbad HT
                    go_wp2_with (first | (at_builtin; refine wpList_append_own_at _ rfl (.tmp 88) (.tmp 95) 24 rfl w0.heap.size 9 i0 (.string ⟨#[]⟩) 1 16 Try.underlying24 hi0 hz0 hz1 hz2 rfl (by decide) _ _ _ rfl (own_later HO.out (bAl (Below.refl _ _) _)) ⟨wr.heap.size, 0, none⟩ 1 1 [.string x] rfl rfl ?c1 ?c2 ?c3 ?c4 ?c5 ?_; (case c1 => exact cell_one_new' _ (by simp) _ _); (case c2 => intro u hu; simp at hu; subst hu; rfl); (case c3 => unfold maxLen; omega); (case c4 => omega); (case c5 => have h1 := HBB.out; simp; omega); intro v' w3 hown3 hgrow hnil hat; rw [← HSN.out] at hown3; have HB3 := Lib.hid ((bAl HB.out (.cells #[.string x] 9)).grown hgrow (by have h1 := HBB.out; simp; omega) (fun j hj => (HO.out.lt j hj).1)); have HO3 := Lib.hid hown3; obtain ⟨o', c', rfl, hc1, hc2, hrow⟩ := strRow_own hown3; have HR3 := Lib.hid hrow; clear hown3 hgrow hnil hat hrow) | (go_at_call 42; refine (HFR.out _ _ _ HR3.out).mono ?_; rintro e w4 ⟨rfl, hb4⟩; obtain ⟨d0, d1, d2⟩ := KB.out w4 (bTr HB3.out hb4); obtain ⟨d3, d4, d5⟩ := KT2.out w4 (bTr HB3.out hb4)))
                    go_roundw
                    case rel => exact ⟨q + 1, by go_num, by omega, HG, Lib.hid (own_later HO3.out (bAl hb4 _)), Lib.hid (bAl (bTr HB3.out hb4) _)⟩
                    case measure => simp [intOf]; omega
                · have HF0 := Lib.hid (show firstE (comE cn cw cm) nC = nmE cn q by rw [firstE_stop HD3.out (by rw [HT.out, if_neg he]; exact he) hqn, HT.out, if_neg he])
                  have HF := Lib.hid (show nmE cn q = X by rw [← HE.out.2.2 HT0.out HT2.out, HF0.out])
                  generalize nmE cn q = z' at HFR HF he
                  have he' : (z' != 0) = true := by rw [bne_iff_ne]; exact he
                  clear he HT HF0
                  generalize cn q = x at h0 HSN KT2
                  generalize cw q = y at h1 KT2
                  generalize cm q = z at h2 KT2
                  go_wp2_with (first | (at_builtin; refine wpList_append_own_at _ rfl (.tmp 88) (.tmp 95) 24 rfl w0.heap.size 9 i0 (.string ⟨#[]⟩) 1 16 Try.underlying24 hi0 hz0 hz1 hz2 rfl (by decide) _ _ _ rfl (own_later HO.out (bAl (Below.refl _ _) _)) ⟨wr.heap.size, 0, none⟩ 1 1 [.string x] rfl rfl ?c1 ?c2 ?c3 ?c4 ?c5 ?_; (case c1 => exact cell_one_new' _ (by simp) _ _); (case c2 => intro u hu; simp at hu; subst hu; rfl); (case c3 => unfold maxLen; omega); (case c4 => omega); (case c5 => have h1 := HBB.out; simp; omega); intro v' w3 hown3 hgrow hnil hat; rw [← HSN.out] at hown3; have HB3 := Lib.hid ((bAl HB.out (.cells #[.string x] 9)).grown hgrow (by have h1 := HBB.out; simp; omega) (fun j hj => (HO.out.lt j hj).1)); have HO3 := Lib.hid hown3; obtain ⟨o', c', rfl, hc1, hc2, hrow⟩ := strRow_own hown3; have HR3 := Lib.hid hrow; clear hown3 hgrow hnil hat hrow) | (go_at_call 42; refine (HFR.out _ _ _ HR3.out).mono ?_; rintro e w4 ⟨rfl, hb4⟩; obtain ⟨d0, d1, d2⟩ := KB.out w4 (bTr HB3.out hb4); obtain ⟨d3, d4, d5⟩ := KT2.out w4 (bTr HB3.out hb4)))
                  exact bodyPost_ret (v := .int .i64 z') (by simp [results, Try.results14, go_sem]) rfl ⟨ret_int HF.out, bTr HBW.out (bTr HB3.out hb4)⟩
              · obtain rfl : q = nC := by omega
                have HF := Lib.hid (show (0 : Int) = X by rw [← HE.out.2.2 HT0.out HT2.out, HD3.out])
                go_wp2_with fail
                exact bodyPost_ret (v := .int .i64 0) (by simp [results, Try.results14, go_sem]) rfl ⟨ret_int HF.out, bTr HBW.out HB.out⟩
end Go.Proofs.Ytglikjdgjmijfaa
