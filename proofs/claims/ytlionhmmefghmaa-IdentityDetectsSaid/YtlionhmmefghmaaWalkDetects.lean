/-
  The walk of the statement that a replaced byte is detected.
-/
import Derived.Test.YtlionhmmefghmaaDetMath
import Derived.Test.YtlionhmmefghmaaSwapMath
import Derived.Test.YtlionhmmefghmaaQuietB
namespace Go.Proofs.Ytlionhmmefghmaa
open Go.RowKit
set_option linter.unusedSimpArgs false
set_option linter.unusedVariables false
set_option maxRecDepth 100000

set_option maxHeartbeats 4000000 in
theorem walkIdentityDetects (a0 a1 a2 : Int) (l0 : -9223372036854775808 ≤ a0) (u0 : a0 < 9223372036854775808) (l1 : -9223372036854775808 ≤ a1) (u1 : a1 < 9223372036854775808) (l2 : -9223372036854775808 ≤ a2) (u2 : a2 < 9223372036854775808) (w : World) :
    Calls Try.prog 9 #[.int .i64 a0, .int .i64 a1, .int .i64 a2] w fun e w' => e = .returned (.bool true) ∧ Below w.heap.size w w' := by
  go_enter Try.func9, Try.ntmps9
  go_wp2_with fail
  refine (cut_any a0 100 (by omega) (by omega) _).mono ?_
  rintro e w' ⟨rfl, hw'⟩
  obtain rfl := hw'.symm
  clear hw'
  have hb0 : 0 ≤ a0 % 100 ∧ a0 % 100 < 100 := by omega
  generalize a0 % 100 = b0 at hb0 ⊢
  obtain ⟨q1, hq1⟩ : ∃ q, a0.tdiv 128 = q := ⟨_, rfl⟩
  obtain ⟨q2, hq2⟩ : ∃ q, a0.tdiv 16384 = q := ⟨_, rfl⟩
  have hqb1 := tdiv_bd l0 u0 (show (1 : Int) < 128 by omega)
  have hqb2 := tdiv_bd l0 u0 (show (1 : Int) < 16384 by omega)
  rw [hq1] at hqb1
  rw [hq2] at hqb2
  go_wp2_with fail
  refine (cut_any q1 100 hqb1 (by omega) _).mono ?_
  rintro e w' ⟨rfl, hw'⟩
  obtain rfl := hw'.symm
  clear hw'
  have hb1 : 0 ≤ q1 % 100 ∧ q1 % 100 < 100 := by omega
  generalize q1 % 100 = b1 at hb1 ⊢
  go_wp2_with fail
  refine (cut_any q2 10000 hqb2 (by omega) _).mono ?_
  rintro e w' ⟨rfl, hw'⟩
  obtain rfl := hw'.symm
  clear hw'
  have hb2 : 0 ≤ q2 % 10000 ∧ q2 % 10000 < 10000 := by omega
  generalize q2 % 10000 = b2 at hb2 ⊢
  obtain ⟨N, hN, hf1, hf2⟩ := fmt_id b0 b1 b2 (by omega) (by omega) (by omega)
  have HX : Hid (∀ i, i < 9 → byteAt (tx9 (numC N)) i = numC N i) := Lib.hid fun i hi => byteAt_tx9 _ (numC_bd N) hi
  have hz : (tx9 (numC N)).size = 9 := rfl
  have hXL : (tx9 (numC N)).toList = tL (numC N) := by rw [tx9_tL]; simp
  have hNG := Lib.hid (near_good (numC N) (numC_bd N) (good_num N))
  have hSPL := Lib.hid (splice_num N)
  generalize tx9 (numC N) = X at hf1 HX hz hXL hNG hSPL
  go_wp2_with fail
  refine (format_any _ _ _ _).mono ?_
  rintro e w1 ⟨rfl, hb⟩
  rw [hf1, hf2]
  have HB := Lib.hid hb
  clear hb hq1 hq2 hqb1 hqb2 hf1 hf2 hb0 hb1 hb2
  go_wp2_with fail
  refine (cut_any a1 9 (by omega) (by omega) _).mono ?_
  rintro e w' ⟨rfl, hw'⟩
  obtain rfl := hw'.symm
  clear hw'
  have hm0 : 0 ≤ a1 % 9 ∧ a1 % 9 < 9 := by omega
  generalize a1 % 9 = m0 at hm0 ⊢
  obtain ⟨m, rfl⟩ := Int.eq_ofNat_of_zero_le hm0.1
  go_wp2_with fail
  refine (cut_any a2 10 (by omega) (by omega) _).mono ?_
  rintro e w' ⟨rfl, hw'⟩
  obtain rfl := hw'.symm
  clear hw'
  have hj0 : 0 ≤ a2 % 10 ∧ a2 % 10 < 10 := by omega
  generalize a2 % 10 = j0 at hj0 ⊢
  obtain ⟨j, rfl⟩ := Int.eq_ofNat_of_zero_le hj0.1
  have hdA : ((({ data := #[48, 49, 50, 51, 52, 53, 54, 55, 56, 57] } : ByteArray)[j]'(show j < 10 by omega)).toNat : Int) = 48 + (j : Int) := digA_at j (show j < 10 by omega)
  by_cases hm8 : m = 8
  · have hmt : ((m : Int) == 8) = true := by subst hm8; rfl
    have hmb : (m : Int) < 9 := by omega
    obtain ⟨i, hi⟩ : ∃ i : Nat, a2 % 23 = (i : Int) := Int.eq_ofNat_of_zero_le (by omega)
    have hi23 : i < 23 := by omega
    have hlA : (((⟨letA⟩ : ByteArray)[i]'(show i < 23 by omega)).toNat : Int) = lett i := lett_at i (show i < 23 by omega)
    have hbb := lett_bd i
    have hpb : plc m (lett i) = true := by unfold plc; rw [if_neg (by omega)]; exact isLet_lett hi23
    generalize hbv : lett i = bb at hlA hbb hpb
    clear hbv hm8
    have hcut := fun w => hi ▸ cut_any a2 23 (by omega) (by omega) w
    go_wp2_with fail
    refine (hcut _).mono ?_
    rintro e w' ⟨rfl, hw'⟩
    obtain rfl := hw'.symm
    clear hw'
    have hm9 : m < 9 := by omega
    have hxm : ((X[m]'(by omega)).toNat : Int) = numC N m := (byteAt_at X m (by omega)).trans (HX.out m hm9)
    by_cases he : numC N m = bb
    · rw [he] at hxm
      go_wp2_with fail
      refine (near_any X _).mono ?_
      rintro e w3 ⟨v, rfl, ht, hb⟩
      rw [hNG.out] at ht
      obtain ⟨o, cap, rfl, -⟩ := texts_shape ht
      have HB3 := Lib.hid (bTr HB.out hb)
      clear hb ht
      go_wp2_with fail
      refine (awake_any _).mono ?_
      rintro e w4 ⟨rfl, hb⟩
      go_wp2_with fail
      go_ret
      exact ⟨rfl, bTr HB3.out hb⟩
    · have hbf : (numC N m == bb) = false := beq_eq_false_iff_ne.2 he
      have hsp := hSPL.out m hm9 bb hbb
      have hPE := det_prE N m hm9 bb hpb hbb he
      have hFND := Lib.hid (det_found N m hm9 bb hpb hbb he)
      have hCNT := Lib.hid (det_count N m hm9 bb hpb hbb he)
      have hLEN := Lib.hid (det_len N m hm9 bb hpb hbb he)
      have hYL : (tx9 (upd (numC N) m bb)).extract 0 8 = ⟨((tL (upd (numC N) m bb)).take 8).toArray⟩ := rfl
      have hYz : (tx9 (upd (numC N) m bb)).size = 9 := rfl
      have hNL := Lib.hid (nearL_len (tx9 (upd (numC N) m bb)))
      generalize tL (upd (numC N) m bb) = yl at hCNT hYL
      generalize tx9 (upd (numC N) m bb) = Y at hsp hPE hFND hCNT hLEN hYL hYz hNL
      have hcv1 := text_one w1 bb hbb
      have hcv2 := text_blk (w1.alloc (.cells #[.int .u8 bb] 5)).drew w1.heap.size bb hbb (Blk.newAt rfl)
      have hz1 : (X.extract 0 m).size = m := by rw [ByteArray.size_extract]; omega
      have hz2 : (X.extract (m + 1) 9).size = 8 - m := by rw [ByteArray.size_extract]; omega
      have hm1 : (m : Int) ≤ 9 := by omega
      have hm2 : (m : Int) + 1 ≤ 9 := by omega
      go_wp2_with fail
      go_region
      clear hcv1 hcv2 hz1 hz2 hm1 hm2 hsp
      have HB2 := Lib.hid (bD1 (bAl HB.out (.cells #[.int .u8 bb] 5)))
      generalize (w1.alloc (.cells #[.int .u8 bb] 5)).drew = w2 at HB2 ⊢
      clear HB
      go_wp2_with fail
      refine (parse_any Y _).mono ?_
      rintro e w3 ⟨rfl, hb⟩
      rw [hPE]
      have HB3 := Lib.hid (bTr HB2.out hb)
      clear hb HB2
      go_wp2_with fail
      refine (near_any Y _).mono ?_
      rintro e w4 ⟨v, rfl, ht, hb⟩
      have HT := Lib.hid ht
      have HB4 := Lib.hid (bTr (bAl HB3.out _) hb)
      clear hb ht HB3
      obtain ⟨L, hL⟩ : ∃ L, nearL Y = L := ⟨_, rfl⟩
      rw [hL] at hFND hCNT hLEN HT hNL
      clear hL
      obtain ⟨o, cap, rfl, -⟩ := texts_shape HT.out
      obtain ⟨n, hn⟩ : ∃ n, L.length = n := ⟨_, rfl⟩
      have HN := Lib.hid hn
      have hn5 : n ≤ 100000 := by rw [← hn]; exact hNL.out
      rw [hn] at HT ⊢
      clear hn
      generalize tL (numC N) = xl at hXL hFND
      go_wp2_with fail
      go_loopw [13, 14, 16] (fun f c i wr => ∃ (k : Nat), i = .int .i64 k ∧ k ≤ n ∧ f = .bool (decide (xl ∈ L.take k)) ∧ c = .int .i64 ((L.take k).countP (fun u => u.take 8 == yl.take 8) : Nat) ∧ Hid (∃ B, Texts wr B (.slice o n cap) L) ∧ Hid (Below w.heap.size w wr)) (fun _ _ i _ => n - (intOf i).toNat)
      case atStart => exact ⟨0, rfl, by omega, by simp, by simp, Lib.hid ⟨_, HT.out⟩, HB4⟩
      case round =>
        obtain ⟨k, rfl, hk, rfl, rfl, HT5, HB5⟩ := hrel
        have hct : (L.take k).countP (fun u => u.take 8 == yl.take 8) ≤ k := Nat.le_trans List.countP_le_length (by rw [List.length_take]; omega)
        by_cases hkn : k < n
        · have hkn' : (k : Int) < (n : Int) := by omega
          obtain ⟨B5, hT5⟩ := HT5.out
          obtain ⟨o', c', e', hce⟩ := texts_shape hT5
          have hkL : k < L.length := by rw [HN.out]; exact hkn
          obtain ⟨g, rfl, hgl, y0⟩ := hce k hkL
          injection e' with e1 e2 e3
          subst e1
          subst e3
          clear e2 hce hT5
          have HQ := Lib.hid (show L[k]? = some (L.getD k []) by rw [List.getD_eq_getElem?_getD, List.getElem?_eq_getElem hkL]; rfl)
          have HTk := Lib.hid (show L.take (k + 1) = L.take k ++ [L.getD k []] by rw [List.take_add_one, HQ.out]; rfl)
          have hu9 : (L.getD k []).length = 9 := hLEN.out _ (List.mem_of_getElem? HQ.out)
          generalize L.getD k [] = u at y0 HTk hu9
          clear HQ hkL
          have HFN := Lib.hid (show decide (xl ∈ L.take (k + 1)) = (decide (xl ∈ L.take k) || (u == xl)) by rw [HTk.out]; exact det_mem)
          have HCN := Lib.hid (show (L.take (k + 1)).countP (fun u => u.take 8 == yl.take 8) = (L.take k).countP (fun u => u.take 8 == yl.take 8) + (if (u.take 8 == yl.take 8) = true then 1 else 0) by rw [HTk.out, List.countP_append, List.countP_singleton])
          clear HTk
          generalize decide (xl ∈ L.take k) = fd at HFN ⊢
          generalize (L.take k).countP (fun u => u.take 8 == yl.take 8) = ct at hct HCN ⊢
          have hz9 : (⟨u.toArray⟩ : ByteArray).size = 9 := by rw [← hu9]; rfl
          have hu8 : (⟨u.toArray⟩ : ByteArray).extract 0 8 = ⟨(u.take 8).toArray⟩ := det_take u
          have hUL : (⟨u.toArray⟩ : ByteArray).toList = u := by simp
          generalize (⟨u.toArray⟩ : ByteArray) = U at y0 hz9 hu8 hUL
          cases hux : u == xl <;> rw [hux] at HFN <;> cases h8 : (u.take 8 == yl.take 8) <;> rw [h8] at HCN <;> cases fd
          all_goals go_wp2_with fail
          all_goals go_region
          all_goals go_wp2_with fail
          all_goals exact ⟨⟨k + 1, by simp, by omega, by rw [HFN.out]; rfl, by rw [HCN.out]; simp, Lib.hid (by obtain ⟨B, h⟩ := HT5.out; exact ⟨B, h⟩), Lib.hid (bD1 HB5.out)⟩, by simp [intOf]; omega⟩
        · obtain rfl : k = n := by omega
          have HL := Lib.hid (show L.take k = L from List.take_of_length_le (by have := HN.out; omega))
          rw [HL.out, hCNT.out, decide_eq_true hFND.out]
          go_wp2_with fail
          refine (awake_any _).mono ?_
          rintro e w6 ⟨rfl, hb⟩
          go_wp2_with fail
          go_ret
          exact ⟨rfl, bTr HB5.out hb⟩
  · have hmf : ((m : Int) == 8) = false := beq_eq_false_iff_ne.2 (by omega)
    have hmb : (m : Int) < 9 := by omega
    have hbb : 0 ≤ 48 + (j : Int) ∧ 48 + (j : Int) < 256 := by omega
    have hpb : plc m (48 + (j : Int)) = true := by unfold plc; rw [if_pos (by omega)]; exact decide_eq_true (by omega)
    generalize hbv : 48 + (j : Int) = bb at hdA hbb hpb
    clear hbv
    have hm9 : m < 9 := by omega
    have hxm : ((X[m]'(by omega)).toNat : Int) = numC N m := (byteAt_at X m (by omega)).trans (HX.out m hm9)
    by_cases he : numC N m = bb
    · rw [he] at hxm
      go_wp2_with fail
      refine (near_any X _).mono ?_
      rintro e w3 ⟨v, rfl, ht, hb⟩
      rw [hNG.out] at ht
      obtain ⟨o, cap, rfl, -⟩ := texts_shape ht
      have HB3 := Lib.hid (bTr HB.out hb)
      clear hb ht
      go_wp2_with fail
      refine (awake_any _).mono ?_
      rintro e w4 ⟨rfl, hb⟩
      go_wp2_with fail
      go_ret
      exact ⟨rfl, bTr HB3.out hb⟩
    · have hbf : (numC N m == bb) = false := beq_eq_false_iff_ne.2 he
      have hsp := hSPL.out m hm9 bb hbb
      have hPE := det_prE N m hm9 bb hpb hbb he
      have hFND := Lib.hid (det_found N m hm9 bb hpb hbb he)
      have hCNT := Lib.hid (det_count N m hm9 bb hpb hbb he)
      have hLEN := Lib.hid (det_len N m hm9 bb hpb hbb he)
      have hYL : (tx9 (upd (numC N) m bb)).extract 0 8 = ⟨((tL (upd (numC N) m bb)).take 8).toArray⟩ := rfl
      have hYz : (tx9 (upd (numC N) m bb)).size = 9 := rfl
      have hNL := Lib.hid (nearL_len (tx9 (upd (numC N) m bb)))
      generalize tL (upd (numC N) m bb) = yl at hCNT hYL
      generalize tx9 (upd (numC N) m bb) = Y at hsp hPE hFND hCNT hLEN hYL hYz hNL
      have hcv1 := text_one w1 bb hbb
      have hcv2 := text_blk (w1.alloc (.cells #[.int .u8 bb] 5)).drew w1.heap.size bb hbb (Blk.newAt rfl)
      have hz1 : (X.extract 0 m).size = m := by rw [ByteArray.size_extract]; omega
      have hz2 : (X.extract (m + 1) 9).size = 8 - m := by rw [ByteArray.size_extract]; omega
      have hm1 : (m : Int) ≤ 9 := by omega
      have hm2 : (m : Int) + 1 ≤ 9 := by omega
      go_wp2_with fail
      go_region
      clear hcv1 hcv2 hz1 hz2 hm1 hm2 hsp
      have HB2 := Lib.hid (bD1 (bAl HB.out (.cells #[.int .u8 bb] 5)))
      generalize (w1.alloc (.cells #[.int .u8 bb] 5)).drew = w2 at HB2 ⊢
      clear HB
      go_wp2_with fail
      refine (parse_any Y _).mono ?_
      rintro e w3 ⟨rfl, hb⟩
      rw [hPE]
      have HB3 := Lib.hid (bTr HB2.out hb)
      clear hb HB2
      go_wp2_with fail
      refine (near_any Y _).mono ?_
      rintro e w4 ⟨v, rfl, ht, hb⟩
      have HT := Lib.hid ht
      have HB4 := Lib.hid (bTr (bAl HB3.out _) hb)
      clear hb ht HB3
      obtain ⟨L, hL⟩ : ∃ L, nearL Y = L := ⟨_, rfl⟩
      rw [hL] at hFND hCNT hLEN HT hNL
      clear hL
      obtain ⟨o, cap, rfl, -⟩ := texts_shape HT.out
      obtain ⟨n, hn⟩ : ∃ n, L.length = n := ⟨_, rfl⟩
      have HN := Lib.hid hn
      have hn5 : n ≤ 100000 := by rw [← hn]; exact hNL.out
      rw [hn] at HT ⊢
      clear hn
      generalize tL (numC N) = xl at hXL hFND
      go_wp2_with fail
      go_loopw [13, 14, 16] (fun f c i wr => ∃ (k : Nat), i = .int .i64 k ∧ k ≤ n ∧ f = .bool (decide (xl ∈ L.take k)) ∧ c = .int .i64 ((L.take k).countP (fun u => u.take 8 == yl.take 8) : Nat) ∧ Hid (∃ B, Texts wr B (.slice o n cap) L) ∧ Hid (Below w.heap.size w wr)) (fun _ _ i _ => n - (intOf i).toNat)
      case atStart => exact ⟨0, rfl, by omega, by simp, by simp, Lib.hid ⟨_, HT.out⟩, HB4⟩
      case round =>
        obtain ⟨k, rfl, hk, rfl, rfl, HT5, HB5⟩ := hrel
        have hct : (L.take k).countP (fun u => u.take 8 == yl.take 8) ≤ k := Nat.le_trans List.countP_le_length (by rw [List.length_take]; omega)
        by_cases hkn : k < n
        · have hkn' : (k : Int) < (n : Int) := by omega
          obtain ⟨B5, hT5⟩ := HT5.out
          obtain ⟨o', c', e', hce⟩ := texts_shape hT5
          have hkL : k < L.length := by rw [HN.out]; exact hkn
          obtain ⟨g, rfl, hgl, y0⟩ := hce k hkL
          injection e' with e1 e2 e3
          subst e1
          subst e3
          clear e2 hce hT5
          have HQ := Lib.hid (show L[k]? = some (L.getD k []) by rw [List.getD_eq_getElem?_getD, List.getElem?_eq_getElem hkL]; rfl)
          have HTk := Lib.hid (show L.take (k + 1) = L.take k ++ [L.getD k []] by rw [List.take_add_one, HQ.out]; rfl)
          have hu9 : (L.getD k []).length = 9 := hLEN.out _ (List.mem_of_getElem? HQ.out)
          generalize L.getD k [] = u at y0 HTk hu9
          clear HQ hkL
          have HFN := Lib.hid (show decide (xl ∈ L.take (k + 1)) = (decide (xl ∈ L.take k) || (u == xl)) by rw [HTk.out]; exact det_mem)
          have HCN := Lib.hid (show (L.take (k + 1)).countP (fun u => u.take 8 == yl.take 8) = (L.take k).countP (fun u => u.take 8 == yl.take 8) + (if (u.take 8 == yl.take 8) = true then 1 else 0) by rw [HTk.out, List.countP_append, List.countP_singleton])
          clear HTk
          generalize decide (xl ∈ L.take k) = fd at HFN ⊢
          generalize (L.take k).countP (fun u => u.take 8 == yl.take 8) = ct at hct HCN ⊢
          have hz9 : (⟨u.toArray⟩ : ByteArray).size = 9 := by rw [← hu9]; rfl
          have hu8 : (⟨u.toArray⟩ : ByteArray).extract 0 8 = ⟨(u.take 8).toArray⟩ := det_take u
          have hUL : (⟨u.toArray⟩ : ByteArray).toList = u := by simp
          generalize (⟨u.toArray⟩ : ByteArray) = U at y0 hz9 hu8 hUL
          cases hux : u == xl <;> rw [hux] at HFN <;> cases h8 : (u.take 8 == yl.take 8) <;> rw [h8] at HCN <;> cases fd
          all_goals go_wp2_with fail
          all_goals go_region
          all_goals go_wp2_with fail
          all_goals exact ⟨⟨k + 1, by simp, by omega, by rw [HFN.out]; rfl, by rw [HCN.out]; simp, Lib.hid (by obtain ⟨B, h⟩ := HT5.out; exact ⟨B, h⟩), Lib.hid (bD1 HB5.out)⟩, by simp [intOf]; omega⟩
        · obtain rfl : k = n := by omega
          have HL := Lib.hid (show L.take k = L from List.take_of_length_le (by have := HN.out; omega))
          rw [HL.out, hCNT.out, decide_eq_true hFND.out]
          go_wp2_with fail
          refine (awake_any _).mono ?_
          rintro e w6 ⟨rfl, hb⟩
          go_wp2_with fail
          go_ret
          exact ⟨rfl, bTr HB5.out hb⟩
end Go.Proofs.Ytlionhmmefghmaa
