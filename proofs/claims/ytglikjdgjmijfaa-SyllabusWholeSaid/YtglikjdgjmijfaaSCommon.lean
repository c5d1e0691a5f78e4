/-
  Common, of the program and of the reference.
-/
import Derived.Test.YtglikjdgjmijfaaSUnder
namespace Go.Proofs.Ytglikjdgjmijfaa
open Go.RowKit
set_option linter.unusedSimpArgs false
set_option linter.unusedVariables false

def Syl.com (S : Syl) (a b : Int) : Int := if S.has a = true ∧ S.has b = true then commonI S.tp a.toNat b.toNat else -1
theorem lastIn_take {p : Nat → Bool} {l : List Nat} {k : Nat} (h : k < l.length) : lastIn p (l.take (k + 1)) = if p (l.getD k 0) = true then ((l.getD k 0 : Nat) : Int) else lastIn p (l.take k) := by
  rw [List.take_add_one, natAt_mem h]
  exact lastIn_snoc p (l.take k) _
theorem lastIn_nil (p : Nat → Bool) : lastIn p [] = -1 := rfl

set_option maxRecDepth 100000 in
set_option maxHeartbeats 4000000 in
theorem common_any (p : Ptr) (S : Syl) (a b : Int) (w : World) (hs : SylIn w w.heap.size p S) :
    Calls Try.prog 22 #[.agg (sylC p S), .int .i64 a, .int .i64 b] w fun e w' => e = .returned (.int .i64 (S.com a b)) ∧ Below w.heap.size w w' := by
  have HA := Lib.hid (fun W (hb : Below w.heap.size w W) => hasTopic_any p S a W (hs.later hb))
  have HT := Lib.hid (fun W (hb : Below w.heap.size w W) => hasTopic_any p S b W (hs.later hb))
  have HB := Lib.hid (bAl (Below.refl _ w) (.cells #[.slice p.o1 S.nT p.c1, .slice p.o2 S.nO p.c2, .slice p.o3 S.nC p.c3] 27))
  have P0 : Hid (Blk (w.alloc (.cells #[.slice p.o1 S.nT p.c1, .slice p.o2 S.nO p.c2, .slice p.o3 S.nC p.c3] 27)) w.heap.size 27 (sylC p S)) := Lib.hid (Blk.newAt rfl)
  by_cases ha : S.has a = true
  · by_cases hb : S.has b = true
    · obtain ⟨ka, rfl, hka, hF, hn⟩ := S.has_yes ha
      obtain ⟨kb, rfl, hkb, _, _⟩ := S.has_yes hb
      have HL := Lib.hid (show S.com ((ka : Nat) : Int) ((kb : Nat) : Int) = lastIn (fun i => decide (i ∈ path S.tp kb)) (path S.tp ka) by unfold Syl.com; rw [if_pos ⟨ha, hb⟩]; rfl)
      rw [HL.out]
      rw [ha] at HA
      rw [hb] at HT
      clear HL ha hb
      have HPB := Lib.hid (fun W (hb : Below w.heap.size w W) => pathTo_any p.o1 S.nT p.c1 S.tn S.tp hF hn kb hkb W (hs.later hb).t)
      have HPA := Lib.hid (fun W (hb : Below w.heap.size w W) => pathTo_any p.o1 S.nT p.c1 S.tn S.tp hF hn ka hka W (hs.later hb).t)
      obtain ⟨q, hq⟩ : ∃ q : Nat → Bool, q = fun i => decide (i ∈ path S.tp kb) := ⟨_, rfl⟩
      rw [← hq]
      have HCC := Lib.hid (fun o c W (h : RowI W W.heap.size o (path S.tp kb).length (natAt (path S.tp kb))) x => (show Calls _ _ _ W fun e w' => e = Ending.returned (.bool (q x)) ∧ w' = W by rw [hq]; exact contains_nat o c _ (path S.tp kb) x W h (by have := path_len S.tp kb; omega)))
      have hlen : (path S.tp ka).length ≤ 100 := by have := path_len S.tp ka; omega
      clear hq
      generalize path S.tp kb = lb at HPB HCC
      generalize path S.tp ka = la at HPA hlen ⊢
      clear hs hF
      obtain ⟨o1, c1, o2, c2, o3, c3⟩ := p
      obtain ⟨nT, tn, tp, nO, on, nC, cn, cw, cm⟩ := S
      unfold sylC at HA HT P0 ⊢
      dsimp only at HA HT HB P0 HPA HPB ⊢
      obtain ⟨m, hm⟩ : ∃ m, la.length = m := ⟨_, rfl⟩
      rw [hm] at hlen
      have HM := Lib.hid hm
      have HTK := Lib.hid (show la.take m = la by rw [← hm]; exact List.take_length)
      clear hm
      go_enter Try.func22, Try.ntmps22
      go_wp2_with (go_at_call 43; first | (refine (HA.out _ HB.out).mono ?_; rintro e w7 ⟨rfl, hb⟩; have HF := Lib.hid (bTr HB.out hb); have PX := Lib.hid (P0.out.later hb); have z0 : w7.cell? ⟨w.heap.size, 0, none⟩ = some (.slice o1 nT c1) := PX.out.cell 0; have z1 : w7.cell? ⟨w.heap.size, 1, none⟩ = some (.slice o2 nO c2) := PX.out.cell 1; have z2 : w7.cell? ⟨w.heap.size, 2, none⟩ = some (.slice o3 nC c3) := PX.out.cell 2; clear hb HA) | (refine (HT.out _ HF.out).mono ?_; rintro e w8 ⟨rfl, hb⟩; have HF8 := Lib.hid (bTr HF.out hb); have PY := Lib.hid (PX.out.later hb); have y0 : w8.cell? ⟨w.heap.size, 0, none⟩ = some (.slice o1 nT c1) := PY.out.cell 0; clear hb HT))
      refine (HPB.out w8 HF8.out).mono ?_
      rintro e w9 ⟨v9, rfl, hv9, hb9⟩
      obtain ⟨o9, c9, rfl, _, _, hrow9⟩ := hv9.row
      have HR9 := Lib.hid hrow9
      have HF9 := Lib.hid (bTr HF8.out hb9)
      have x0 : w9.cell? ⟨w.heap.size, 0, none⟩ = some (.slice o1 nT c1) := (PY.out.later hb9).cell 0
      clear hrow9 hv9 hb9 HPB
      go_wp2_with fail
      refine (HPA.out w9 HF9.out).mono ?_
      rintro e w10 ⟨v10, rfl, hv10, hb10⟩
      obtain ⟨o10, c10, rfl, _, _, hrow10⟩ := hv10.row
      have HR10 := Lib.hid hrow10
      have HB9 := Lib.hid ((HR9.out.below hb10 (Nat.le_refl _)).more hb10.size)
      have HF10 := Lib.hid (bTr HF9.out hb10)
      clear hrow10 hv10 hb10 HPA HR9
      rw [HM.out] at HR10
      rw [HM.out]
      go_wp2_with fail
      go_loopw [7, 30] (fun v i wr => ∃ k : Nat, i = .int .i64 k ∧ k ≤ m ∧ v = .int .i64 (lastIn q (la.take k)) ∧ wr = w10) (fun _ i _ => m - (intOf i).toNat)
      case atStart => exact ⟨0, rfl, Nat.zero_le _, rfl, rfl⟩
      case round =>
        obtain ⟨k, rfl, hk, rfl, rfl⟩ := hrel
        by_cases hkm : k < m
        · have hkm' : (k : Int) < (m : Int) := by omega
          obtain ⟨b', off, rfl, _, hcell⟩ := HR10.out k hkm
          have HLT := Lib.hid (lastIn_take (p := q) (show k < la.length by have := HM.out; omega))
          have hcell' : wr.cell? ⟨b', off + k, none⟩ = some (.int .i64 ((la.getD k 0 : Nat) : Int)) := hcell
          clear hcell
          generalize la.getD k 0 = x at hcell' HLT
          have HC := Lib.hid (HCC.out _ c9 _ HB9.out x)
          generalize lastIn q (la.take k) = g at HLT ⊢
          cases hqx : q x
          · rw [hqx] at HC HLT
            have HG := Lib.hid (show lastIn q (la.take (k + 1)) = g from HLT.out.trans (if_neg (by decide)))
            go_wp2_with (go_at_call 44; refine HC.out.mono ?_; rintro e w6 ⟨rfl, hw6⟩; obtain rfl := hw6.symm)
            go_roundw
            case rel => exact ⟨k + 1, by go_num, by omega, by rw [HG.out], trivial⟩
            case measure => simp [intOf]; omega
          · rw [hqx] at HC HLT
            have HG := Lib.hid (show lastIn q (la.take (k + 1)) = (x : Int) from HLT.out.trans (if_pos rfl))
            go_wp2_with (go_at_call 44; refine HC.out.mono ?_; rintro e w6 ⟨rfl, hw6⟩; obtain rfl := hw6.symm)
            go_roundw
            case rel => exact ⟨k + 1, by go_num, by omega, by rw [HG.out], trivial⟩
            case measure => simp [intOf]; omega
        · obtain rfl : k = m := by omega
          rw [HTK.out]
          go_wp2_with fail
          exact bodyPost_ret (by simp [results, Try.results22, go_sem]) rfl ⟨rfl, HF10.out⟩
    · have HL := Lib.hid (show S.com a b = -1 by unfold Syl.com; rw [if_neg (fun h => hb h.2)])
      have hb' : S.has b = false := by simpa using hb
      rw [HL.out]
      rw [ha] at HA
      rw [hb'] at HT
      clear HL ha hb hb' hs
      obtain ⟨o1, c1, o2, c2, o3, c3⟩ := p
      obtain ⟨nT, tn, tp, nO, on, nC, cn, cw, cm⟩ := S
      unfold sylC at HA HT P0 ⊢
      dsimp only at HA HT HB P0 ⊢
      go_enter Try.func22, Try.ntmps22
      go_wp2_with (go_at_call 43; first | (refine (HA.out _ HB.out).mono ?_; rintro e w7 ⟨rfl, hb⟩; have HF := Lib.hid (bTr HB.out hb); have PX := Lib.hid (P0.out.later hb); have z0 : w7.cell? ⟨w.heap.size, 0, none⟩ = some (.slice o1 nT c1) := PX.out.cell 0; have z1 : w7.cell? ⟨w.heap.size, 1, none⟩ = some (.slice o2 nO c2) := PX.out.cell 1; have z2 : w7.cell? ⟨w.heap.size, 2, none⟩ = some (.slice o3 nC c3) := PX.out.cell 2; clear hb HA) | (refine (HT.out _ HF.out).mono ?_; rintro e w8 ⟨rfl, hb⟩; have HF8 := Lib.hid (bTr HF.out hb); clear hb HT))
      go_ret
      exact ⟨rfl, HF8.out⟩
  · have HL := Lib.hid (show S.com a b = -1 by unfold Syl.com; rw [if_neg (fun h => ha h.1)])
    have ha' : S.has a = false := by simpa using ha
    rw [HL.out]
    rw [ha'] at HA
    clear HL ha ha' hs HT
    obtain ⟨o1, c1, o2, c2, o3, c3⟩ := p
    obtain ⟨nT, tn, tp, nO, on, nC, cn, cw, cm⟩ := S
    unfold sylC at HA P0 ⊢
    dsimp only at HA HB P0 ⊢
    go_enter Try.func22, Try.ntmps22
    go_wp2_with (go_at_call 43; refine (HA.out _ HB.out).mono ?_; rintro e w7 ⟨rfl, hb⟩; have HF := Lib.hid (bTr HB.out hb); clear hb)
    go_ret
    exact ⟨rfl, HF.out⟩

set_option maxRecDepth 100000 in
set_option maxHeartbeats 4000000 in
theorem rcommon_any (p : Ptr) (S : Syl) (a b : Int) (w : World) (hs : SylIn w w.heap.size p S) :
    Calls Try.prog 23 #[.agg (sylC p S), .int .i64 a, .int .i64 b] w fun e w' => e = .returned (.int .i64 (S.com a b)) ∧ Below w.heap.size w w' := by
  have HA := Lib.hid (fun W (hb : Below w.heap.size w W) => topic_any p S a W (hs.later hb))
  have HT := Lib.hid (fun W (hb : Below w.heap.size w W) => topic_any p S b W (hs.later hb))
  have HB := Lib.hid (bAl (Below.refl _ w) (.cells #[.slice p.o1 S.nT p.c1, .slice p.o2 S.nO p.c2, .slice p.o3 S.nC p.c3] 27))
  have P0 : Hid (Blk (w.alloc (.cells #[.slice p.o1 S.nT p.c1, .slice p.o2 S.nO p.c2, .slice p.o3 S.nC p.c3] 27)) w.heap.size 27 (sylC p S)) := Lib.hid (Blk.newAt rfl)
  by_cases ha : S.has a = true
  · by_cases hb : S.has b = true
    · obtain ⟨ka, rfl, hka, hF, hn⟩ := S.has_yes ha
      obtain ⟨kb, rfl, hkb, _, _⟩ := S.has_yes hb
      have HL := Lib.hid (show S.com ((ka : Nat) : Int) ((kb : Nat) : Int) = lastIn (fun i => decide (i ∈ path S.tp kb)) (path S.tp ka) by unfold Syl.com; rw [if_pos ⟨ha, hb⟩]; rfl)
      rw [HL.out]
      rw [ha] at HA
      rw [hb] at HT
      clear HL ha hb
      have HQA := Lib.hid (fun W (hb : Below w.heap.size w W) i => above_any p S hF i ka hka W (hs.later hb) hn)
      have HQB := Lib.hid (fun W (hb : Below w.heap.size w W) i => above_any p S hF i kb hkb W (hs.later hb) hn)
      rw [show lastIn (fun i => decide (i ∈ path S.tp kb)) (path S.tp ka) = lastIn (fun i => decide (i ∈ path S.tp ka) && decide (i ∈ path S.tp kb)) (List.range S.nT) from common_range S.tp hka]
      obtain ⟨qa, hqa⟩ : ∃ q : Nat → Bool, q = fun i => decide (i ∈ path S.tp ka) := ⟨_, rfl⟩
      obtain ⟨qb, hqb⟩ : ∃ q : Nat → Bool, q = fun i => decide (i ∈ path S.tp kb) := ⟨_, rfl⟩
      have eA : ∀ i, decide (i ∈ path S.tp ka) = qa i := fun i => by rw [hqa]
      have eB : ∀ i, decide (i ∈ path S.tp kb) = qb i := fun i => by rw [hqb]
      simp only [eA] at HQA ⊢
      simp only [eB] at HQB ⊢
      clear eA eB hqa hqb
      clear hs hF
      obtain ⟨o1, c1, o2, c2, o3, c3⟩ := p
      obtain ⟨nT, tn, tp, nO, on, nC, cn, cw, cm⟩ := S
      unfold sylC at HA HT P0 HQA HQB ⊢
      dsimp only at HA HT HB P0 HQA HQB hka hkb hn ⊢
      have HQ0 := Lib.hid (show lastIn (fun i => qa i && qb i) (List.range nT) = lastIn (fun i => qa i && qb i) (List.range ((nT : Int) - 1 + 1).toNat) by rw [show ((nT : Int) - 1 + 1).toNat = nT by omega])
      obtain ⟨X, hX⟩ : ∃ X, lastIn (fun i => qa i && qb i) (List.range nT) = X := ⟨_, rfl⟩
      rw [hX] at HQ0 ⊢
      clear hX
      go_enter Try.func23, Try.ntmps23
      go_wp2_with (go_at_call 46; first | (refine (HA.out _ HB.out).mono ?_; rintro e w7 ⟨rfl, hb⟩; have HF := Lib.hid (bTr HB.out hb); have PX := Lib.hid (P0.out.later hb); have z0 : w7.cell? ⟨w.heap.size, 0, none⟩ = some (.slice o1 nT c1) := PX.out.cell 0; have z1 : w7.cell? ⟨w.heap.size, 1, none⟩ = some (.slice o2 nO c2) := PX.out.cell 1; have z2 : w7.cell? ⟨w.heap.size, 2, none⟩ = some (.slice o3 nC c3) := PX.out.cell 2; clear hb HA) | (refine (HT.out _ HF.out).mono ?_; rintro e w8 ⟨rfl, hb⟩; have HF8 := Lib.hid (bTr HF.out hb); have PY := Lib.hid (PX.out.later hb); have y0 : w8.cell? ⟨w.heap.size, 0, none⟩ = some (.slice o1 nT c1) := PY.out.cell 0; clear hb HT))
      go_loopw [7] (fun i wr => ∃ v : Int, i = .int .i64 v ∧ -1 ≤ v ∧ v < (nT : Int) ∧ Hid (X = lastIn (fun i => qa i && qb i) (List.range (v + 1).toNat)) ∧ Hid (Below w8.heap.size w8 wr)) (fun i _ => (intOf i + 1).toNat)
      case atStart => exact ⟨_, rfl, by omega, by omega, HQ0, Lib.hid (Below.refl _ _)⟩
      case round =>
        obtain ⟨v, rfl, hv0, hv1, HD, HBR⟩ := hrel
        have PR := Lib.hid (PY.out.later HBR.out)
        have r0 : wr.cell? ⟨w.heap.size, 0, none⟩ = some (.slice o1 nT c1) := PR.out.cell 0
        have r1 : wr.cell? ⟨w.heap.size, 1, none⟩ = some (.slice o2 nO c2) := PR.out.cell 1
        have r2 : wr.cell? ⟨w.heap.size, 2, none⟩ = some (.slice o3 nC c3) := PR.out.cell 2
        by_cases hneg : v < 0
        · have HF2 := Lib.hid (show X = -1 by rw [HD.out, show (v + 1).toNat = 0 by omega]; rfl)
          have hng : ¬ 0 ≤ v := by omega
          go_wp2_with fail
          exact bodyPost_ret (v := .int .i64 (-1)) (by simp [results, Try.results23, go_sem]) rfl ⟨ret_int HF2.out.symm, bTr HF8.out HBR.out⟩
        · obtain ⟨k, rfl⟩ := Int.eq_ofNat_of_zero_le (show 0 ≤ v by omega)
          have hk0 : (0 : Int) ≤ (k : Int) := by omega
          have HS := Lib.hid (show X = if (qa k && qb k) = true then (k : Int) else lastIn (fun i => qa i && qb i) (List.range k) by
            rw [HD.out, show ((k : Int) + 1).toNat = k + 1 by omega, List.range_succ]; exact lastIn_snoc _ _ _)
          have HCA := Lib.hid (HQA.out wr (bTr HF8.out HBR.out) k)
          have HCB := Lib.hid (fun W (h : Below wr.heap.size wr W) => HQB.out W (bTr (bTr HF8.out HBR.out) h) k)
          cases hqa : qa k
          · rw [hqa] at HCA HS
            have HG := Lib.hid (show X = lastIn (fun i => qa i && qb i) (List.range k) from HS.out)
            go_wp2_with (go_at_call 47; refine HCA.out.mono ?_; rintro e w5 ⟨rfl, hb5⟩; have HW5 := Lib.hid hb5; clear hb5)
            go_roundw
            case rel => exact ⟨(k : Int) - 1, rfl, by omega, by omega, by rw [show ((k : Int) - 1 + 1).toNat = k by omega]; exact HG, Lib.hid (bTr HBR.out HW5.out)⟩
            case measure => first | (simp [intOf]; done) | (simp [intOf]; omega)
          · rw [hqa] at HCA HS
            cases hqb : qb k
            · rw [hqb] at HCB HS
              have HG := Lib.hid (show X = lastIn (fun i => qa i && qb i) (List.range k) from HS.out)
              go_wp2_with (go_at_call 47; first | (refine HCA.out.mono ?_; rintro e w5 ⟨rfl, hb5⟩; have HW5 := Lib.hid hb5; have PR5 := Lib.hid (PR.out.later hb5); have s0 : w5.cell? ⟨w.heap.size, 0, none⟩ = some (.slice o1 nT c1) := PR5.out.cell 0; have s1 : w5.cell? ⟨w.heap.size, 1, none⟩ = some (.slice o2 nO c2) := PR5.out.cell 1; have s2 : w5.cell? ⟨w.heap.size, 2, none⟩ = some (.slice o3 nC c3) := PR5.out.cell 2; clear hb5 HCA) | (refine (HCB.out w5 HW5.out).mono ?_; rintro e w6 ⟨rfl, hb6⟩; have HW6 := Lib.hid (bTr HW5.out hb6); clear hb6 HCB))
              go_roundw
              case rel => exact ⟨(k : Int) - 1, rfl, by omega, by omega, by rw [show ((k : Int) - 1 + 1).toNat = k by omega]; exact HG, Lib.hid (bTr HBR.out HW6.out)⟩
              case measure => first | (simp [intOf]; done) | (simp [intOf]; omega)
            · rw [hqb] at HCB HS
              have HG := Lib.hid (show X = (k : Int) from HS.out)
              go_wp2_with (go_at_call 47; first | (refine HCA.out.mono ?_; rintro e w5 ⟨rfl, hb5⟩; have HW5 := Lib.hid hb5; have PR5 := Lib.hid (PR.out.later hb5); have s0 : w5.cell? ⟨w.heap.size, 0, none⟩ = some (.slice o1 nT c1) := PR5.out.cell 0; have s1 : w5.cell? ⟨w.heap.size, 1, none⟩ = some (.slice o2 nO c2) := PR5.out.cell 1; have s2 : w5.cell? ⟨w.heap.size, 2, none⟩ = some (.slice o3 nC c3) := PR5.out.cell 2; clear hb5 HCA) | (refine (HCB.out w5 HW5.out).mono ?_; rintro e w6 ⟨rfl, hb6⟩; have HW6 := Lib.hid (bTr HW5.out hb6); clear hb6 HCB))
              exact bodyPost_ret (v := .int .i64 (k : Int)) (by simp [results, Try.results23, go_sem]) rfl ⟨ret_int HG.out.symm, bTr HF8.out (bTr HBR.out HW6.out)⟩
    · have HL := Lib.hid (show S.com a b = -1 by unfold Syl.com; rw [if_neg (fun h => hb h.2)])
      have hb' : S.has b = false := by simpa using hb
      rw [HL.out]
      rw [ha] at HA
      rw [hb'] at HT
      clear HL ha hb hb' hs
      obtain ⟨o1, c1, o2, c2, o3, c3⟩ := p
      obtain ⟨nT, tn, tp, nO, on, nC, cn, cw, cm⟩ := S
      unfold sylC at HA HT P0 ⊢
      dsimp only at HA HT HB P0 ⊢
      go_enter Try.func23, Try.ntmps23
      go_wp2_with (go_at_call 46; first | (refine (HA.out _ HB.out).mono ?_; rintro e w7 ⟨rfl, hb⟩; have HF := Lib.hid (bTr HB.out hb); have PX := Lib.hid (P0.out.later hb); have z0 : w7.cell? ⟨w.heap.size, 0, none⟩ = some (.slice o1 nT c1) := PX.out.cell 0; have z1 : w7.cell? ⟨w.heap.size, 1, none⟩ = some (.slice o2 nO c2) := PX.out.cell 1; have z2 : w7.cell? ⟨w.heap.size, 2, none⟩ = some (.slice o3 nC c3) := PX.out.cell 2; clear hb HA) | (refine (HT.out _ HF.out).mono ?_; rintro e w8 ⟨rfl, hb⟩; have HF8 := Lib.hid (bTr HF.out hb); clear hb HT))
      go_ret
      exact ⟨rfl, HF8.out⟩
  · have HL := Lib.hid (show S.com a b = -1 by unfold Syl.com; rw [if_neg (fun h => ha h.1)])
    have ha' : S.has a = false := by simpa using ha
    rw [HL.out]
    rw [ha'] at HA
    clear HL ha ha' hs HT
    obtain ⟨o1, c1, o2, c2, o3, c3⟩ := p
    obtain ⟨nT, tn, tp, nO, on, nC, cn, cw, cm⟩ := S
    unfold sylC at HA P0 ⊢
    dsimp only at HA HB P0 ⊢
    go_enter Try.func23, Try.ntmps23
    go_wp2_with (go_at_call 46; refine (HA.out _ HB.out).mono ?_; rintro e w7 ⟨rfl, hb⟩; have HF := Lib.hid (bTr HB.out hb); clear hb)
    go_ret
    exact ⟨rfl, HF.out⟩
end Go.Proofs.Ytglikjdgjmijfaa
