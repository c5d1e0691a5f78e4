/-
  The program's Parse: a text without a sign.
-/
import Derived.Test.YtlocgjhblcgpbaaPProg
namespace Go.Proofs.Ytlocgjhblcgpbaa
open Go.RowKit
set_option linter.unusedSimpArgs false
set_option linter.unusedVariables false

set_option maxRecDepth 100000 in
set_option maxHeartbeats 4000000 in
theorem magnitude_text (t : ByteArray) (ht : t.size ≤ 1000) (w : World) :
    Calls Try.prog 64 #[.string t] w fun e w' => e = .returned (.tuple #[.agg #[.int .u64 (Rep.hi (mN t)), .int .u64 (Rep.lo (mN t))], .int .u64 (mD t), .int .i64 (mE t)]) ∧ Below w.heap.size w w' := by
  have hsb := fst_bd (byteAt t) 47 t.size
  have hpb := fst_bd (byteAt t) 46 t.size
  have CS := Lib.hid (fun w => cut_sl t ht w)
  have CP := Lib.hid (fun w => cut_pt t ht w)
  have HS := Lib.hid (show slN t = fst (byteAt t) 47 t.size from rfl)
  have HT := Lib.hid (show ptN t = fst (byteAt t) 46 t.size from rfl)
  rw [HS.out] at CS
  rw [HT.out] at CP
  generalize fst (byteAt t) 47 t.size = sl at hsb HS CS
  generalize fst (byteAt t) 46 t.size = pt at hpb HT CP
  go_enter Try.func64, Try.ntmps64
  by_cases hsl : 0 ≤ sl
  · obtain ⟨i, rfl⟩ := Int.eq_ofNat_of_zero_le hsl
    simp only [if_pos hsl, Int.toNat_natCast] at CS
    have HM := Lib.hid (m_frac HS.out)
    have FR := Lib.hid (fun w => fraction_any (t.extract 0 i) (t.extract (i + 1) t.size) (by rw [ByteArray.size_extract]; omega) (by rw [ByteArray.size_extract]; omega) w)
    rw [HM.out.1, HM.out.2.1, HM.out.2.2] at FR
    go_wp2_with fail
    refine (CS.out _).mono ?_
    rintro e w1 ⟨rfl, hb⟩
    have B0 : Blk (w.alloc (.cells #[.int .u64 0, .int .u64 0] 60)) w.heap.size 60 #[.int .u64 0, .int .u64 0] := Blk.newAt rfl
    have HB1 := Lib.hid (And.intro (B0.later hb) (bTr (bAl (Below.refl w.heap.size w) (.cells #[.int .u64 0, .int .u64 0] 60)) hb))
    clear hb CS CP B0
    go_wp2_with fail
    refine (FR.out _).mono ?_
    rintro e w2 ⟨rfl, hb⟩
    have HB2 := Lib.hid (And.intro (HB1.out.1.later hb) (bTr HB1.out.2 hb))
    clear hb FR HB1 HM
    obtain ⟨⟨y0, y1⟩, ⟨y2, y3⟩, y4⟩ := HB2.out.1.two
    go_wp2_with fail
    exact bodyPost_ret (v := .tuple #[.agg #[.int .u64 (Rep.hi (mN t)), .int .u64 (Rep.lo (mN t))], .int .u64 (mD t), .int .i64 (mE t)]) (by simp [results, Try.results64, go_sem, y0, y1, y4]) rfl ⟨rfl, bSt (bSt HB2.out.2 (by simp) _) (by simp) _⟩
  · simp only [if_neg hsl] at CS
    go_wp2_with fail
    refine (CS.out _).mono ?_
    rintro e w1 ⟨rfl, hb⟩
    have B0 : Blk (w.alloc (.cells #[.int .u64 0, .int .u64 0] 60)) w.heap.size 60 #[.int .u64 0, .int .u64 0] := Blk.newAt rfl
    have HB1 := Lib.hid (And.intro (B0.later hb) (bTr (bAl (Below.refl w.heap.size w) (.cells #[.int .u64 0, .int .u64 0] 60)) hb))
    clear hb CS B0
    go_wp2_with fail
    by_cases hpt : 0 ≤ pt
    · obtain ⟨i, rfl⟩ := Int.eq_ofNat_of_zero_le hpt
      simp only [if_pos hpt, Int.toNat_natCast] at CP
      refine (CP.out _).mono ?_
      rintro e w2 ⟨rfl, hb⟩
      have HB2 := Lib.hid (And.intro (HB1.out.1.later hb) (bTr HB1.out.2 hb))
      clear hb CP HB1
      have ha := nV_bd (t.extract 0 i) (show (19 : Int) ≤ 19 by omega)
      have hd := nV_bd (t.extract (i + 1) t.size) (show (9 : Int) ≤ 19 by omega)
      have hza : (t.extract 0 i).size ≤ 1000 := by rw [ByteArray.size_extract]; omega
      have hzd : (t.extract (i + 1) t.size).size = t.size - (i + 1) := by rw [ByteArray.size_extract]; omega
      have NA := Lib.hid (fun w => parsed_any (t.extract 0 i) 19 (by omega) (by unfold maxLen; omega) w)
      have ND := Lib.hid (fun w => parsed_any (t.extract (i + 1) t.size) 9 (by omega) (by unfold maxLen; omega) w)
      have HL := Lib.hid (show nOk (t.extract (i + 1) t.size) 9 = true → t.size ≤ i + 10 from fun h => by
        unfold nOk at h
        rw [Bool.and_eq_true, decide_eq_true_eq] at h
        omega)
      obtain ⟨va, hva⟩ : ∃ v, nV (t.extract 0 i) 19 = v := ⟨_, rfl⟩
      obtain ⟨vd, hvd⟩ : ∃ v, nV (t.extract (i + 1) t.size) 9 = v := ⟨_, rfl⟩
      obtain ⟨oa, hoa⟩ : ∃ v, nOk (t.extract 0 i) 19 = v := ⟨_, rfl⟩
      obtain ⟨od, hod⟩ : ∃ v, nOk (t.extract (i + 1) t.size) 9 = v := ⟨_, rfl⟩
      have HF := Lib.hid (frm_pt (by rw [HS.out]; omega) HT.out hva hvd hoa hod)
      rw [hva] at ha
      rw [hvd] at hd
      rw [hod] at HL
      simp only [hva, hoa] at NA
      simp only [hvd, hod] at ND
      clear hva hvd hoa hod HS HT
      go_wp2_with fail
      refine (NA.out _).mono ?_
      rintro e w3 ⟨rfl, hb⟩
      have HB3 := Lib.hid (And.intro (HB2.out.1.later hb) (bTr HB2.out.2 hb))
      clear hb NA HB2
      obtain ⟨⟨y0, y1⟩, ⟨y2, y3⟩, y4⟩ := HB3.out.1.two
      cases oa
      · have HM := Lib.hid (m_no (HF.out.1 rfl))
        go_wp2_with fail
        exact bodyPost_ret (v := .tuple #[.agg #[.int .u64 0, .int .u64 0], .int .u64 0, .int .i64 7]) (by simp [results, Try.results64, go_sem, y0, y1, y4]) rfl ⟨ret_pm (by rw [HM.out.2.1]; unfold Rep.hi; omega) (by rw [HM.out.2.1]; unfold Rep.lo; omega) HM.out.2.2.symm HM.out.1.symm, bSt (bSt HB3.out.2 (by simp) _) (by simp) _⟩
      · clear y0 y1 y2 y3 y4
        go_wp2_with fail
        refine (ND.out _).mono ?_
        rintro e w4 ⟨rfl, hb⟩
        have HB4 := Lib.hid (And.intro (HB3.out.1.later hb) (bTr HB3.out.2 hb))
        clear hb ND HB3
        obtain ⟨⟨y0, y1⟩, ⟨y2, y3⟩, y4⟩ := HB4.out.1.two
        cases od
        · have HM := Lib.hid (m_no (HF.out.1 rfl))
          go_wp2_with fail
          exact bodyPost_ret (v := .tuple #[.agg #[.int .u64 0, .int .u64 0], .int .u64 0, .int .i64 7]) (by simp [results, Try.results64, go_sem, y0, y1, y4]) rfl ⟨ret_pm (by rw [HM.out.2.1]; unfold Rep.hi; omega) (by rw [HM.out.2.1]; unfold Rep.lo; omega) HM.out.2.2.symm HM.out.1.symm, bSt (bSt HB4.out.2 (by simp) _) (by simp) _⟩
        · have hl := HL.out rfl
          obtain ⟨f0, f1, f2⟩ := HF.out.2 rfl
          have HM := Lib.hid (m_ok (show frm t ≤ 2 by omega))
          rw [f1, f2] at HM
          obtain ⟨k, ek⟩ : ∃ k, t.size - (i + 1) = k := ⟨_, rfl⟩
          rw [ek] at hzd HM
          have hk9 : k ≤ 9 := by omega
          have HPW := Lib.hid (fun w => power_any k (by omega) w)
          have htp : (0 : Int) < 10 ^ k := Int.pow_pos (by decide)
          have htk : (10 : Int) ^ k ≤ 1000000000 := by
            have h : (10 : Nat) ^ k ≤ 10 ^ 9 := Nat.pow_le_pow_right (by omega) hk9
            have e : ((10 ^ k : Nat) : Int) = (10 : Int) ^ k := by rw [Int.natCast_pow]; rfl
            rw [← e]
            have h' : (10 : Nat) ^ k ≤ 1000000000 := h
            omega
          generalize (10 : Int) ^ k = T at htp htk HM HPW
          have hM : 0 ≤ va * T ∧ va * T ≤ 10000000000000000000000000000 := by
            refine ⟨Int.mul_nonneg ha.1 (by omega), ?_⟩
            have := Int.mul_le_mul (show va ≤ 10000000000000000000 by omega) htk (by omega) (by omega)
            omega
          have HPR := Lib.hid (fun w => times_any va T ha.1 (by omega) (by omega) (by omega) w)
          generalize va * T = M at hM HPR HM
          have HMV := Rep.val_hi_lo M hM.1 (by omega)
          have hm1 := Rep.hi_bd M
          have hm2 := Rep.lo_bd M
          have HPL := Lib.hid (fun w => plus_any (Rep.hi M) (Rep.lo M) 0 vd w hm1.1 hm2.1 (by omega) hd.1 hm1.2 hm2.2 (by omega) (by omega))
          rw [HMV, show Rep.val 0 vd = vd by unfold Rep.val; omega] at HPL
          have HMM := Lib.hid (And.intro HM.out.1.symm (And.intro HM.out.2.1.symm HM.out.2.2.symm))
          clear f0 f1 f2 HF HM HL y0 y1 y2 y3 y4
          go_wp2_with fail
          refine (HPW.out _).mono ?_
          rintro e w5 ⟨rfl, hb⟩
          have HB5 := Lib.hid (And.intro (HB4.out.1.later hb) (bTr HB4.out.2 hb))
          clear hb HPW HB4
          go_wp2_with fail
          refine (HPR.out _).mono ?_
          rintro e w6 ⟨rfl, hb⟩
          have HB6 := Lib.hid (And.intro (HB5.out.1.later hb) (bTr HB5.out.2 hb))
          clear hb HPR HB5
          go_wp2_with fail
          refine (HPL.out _).mono ?_
          rintro e w7 ⟨rfl, hb⟩
          have HB7 := Lib.hid (And.intro (HB6.out.1.later hb) (bTr HB6.out.2 hb))
          clear hb HPL HB6
          obtain ⟨⟨y0, y1⟩, ⟨y2, y3⟩, y4⟩ := HB7.out.1.two
          go_wp2_with fail
          exact bodyPost_ret (v := .tuple #[.agg #[.int .u64 (Rep.hi (M + vd)), .int .u64 (Rep.lo (M + vd))], .int .u64 T, .int .i64 0]) (by simp [results, Try.results64, go_sem, y0, y1, y4]) rfl ⟨ret_pm (by rw [HMM.out.2.1]) (by rw [HMM.out.2.1]) HMM.out.2.2 HMM.out.1, bSt (bSt HB7.out.2 (by simp) _) (by simp) _⟩
    · simp only [if_neg hpt] at CP
      refine (CP.out _).mono ?_
      rintro e w2 ⟨rfl, hb⟩
      have HB2 := Lib.hid (And.intro (HB1.out.1.later hb) (bTr HB1.out.2 hb))
      clear hb CP HB1
      have ha := nV_bd t (show (19 : Int) ≤ 19 by omega)
      have NA := Lib.hid (fun w => parsed_any t 19 (by omega) (by unfold maxLen; omega) w)
      obtain ⟨va, hva⟩ : ∃ v, nV t 19 = v := ⟨_, rfl⟩
      obtain ⟨oa, hoa⟩ : ∃ v, nOk t 19 = v := ⟨_, rfl⟩
      have HF := Lib.hid (frm_int (by rw [HS.out]; omega) (by rw [HT.out]; omega) hva hoa)
      rw [hva] at ha
      simp only [hva, hoa] at NA
      clear hva hoa HS HT
      go_wp2_with fail
      refine (NA.out _).mono ?_
      rintro e w3 ⟨rfl, hb⟩
      have HB3 := Lib.hid (And.intro (HB2.out.1.later hb) (bTr HB2.out.2 hb))
      clear hb NA HB2
      obtain ⟨⟨y0, y1⟩, ⟨y2, y3⟩, y4⟩ := HB3.out.1.two
      cases oa
      · have HM := Lib.hid (m_no (HF.out.1 rfl))
        go_wp2_with fail
        exact bodyPost_ret (v := .tuple #[.agg #[.int .u64 0, .int .u64 0], .int .u64 0, .int .i64 7]) (by simp [results, Try.results64, go_sem, y0, y1, y4]) rfl ⟨ret_pm (by rw [HM.out.2.1]; unfold Rep.hi; omega) (by rw [HM.out.2.1]; unfold Rep.lo; omega) HM.out.2.2.symm HM.out.1.symm, bSt (bSt HB3.out.2 (by simp) _) (by simp) _⟩
      · obtain ⟨f0, f1, f2⟩ := HF.out.2 rfl
        have HM := Lib.hid (m_ok (show frm t ≤ 2 by omega))
        rw [f1, f2] at HM
        clear f0 f1 f2 HF
        go_wp2_with fail
        exact bodyPost_ret (v := .tuple #[.agg #[.int .u64 0, .int .u64 va], .int .u64 1, .int .i64 0]) (by simp [results, Try.results64, go_sem, y0, y1, y4]) rfl ⟨ret_pm (by rw [HM.out.2.1]; unfold Rep.hi; omega) (by rw [HM.out.2.1]; unfold Rep.lo; omega) HM.out.2.2.symm HM.out.1.symm, bSt (bSt HB3.out.2 (by simp) _) (by simp) _⟩
theorem p_bd {t : ByteArray} (ht : t.size ≤ 1000) (h : frm t ≤ 2) : (0 ≤ pnum t ∧ pnum t < 20000000000000000000000000000) ∧ (0 < pden t ∧ pden t < 18446744073709551616) := by
  by_cases hs : 0 ≤ slN t
  · obtain ⟨i, hi⟩ := Int.eq_ofNat_of_zero_le hs
    have hf := frm_sl hi rfl rfl rfl rfl
    have ha := nV_bd (t.extract 0 i) (show (19 : Int) ≤ 19 by omega)
    have hb := nV_bd (t.extract (i + 1) t.size) (show (19 : Int) ≤ 19 by omega)
    by_cases ho : (nOk (t.extract 0 i) 19 && nOk (t.extract (i + 1) t.size) 19) = true
    · by_cases h0 : nV (t.extract (i + 1) t.size) 19 = 0
      · have := hf.2.1 ho h0; omega
      · obtain ⟨f0, f1, f2⟩ := hf.2.2 ho h0
        rw [f1, f2]
        omega
    · have := hf.1 (by simpa using ho); omega
  · by_cases hp : 0 ≤ ptN t
    · obtain ⟨i, hi⟩ := Int.eq_ofNat_of_zero_le hp
      have hf := frm_pt (by omega) hi rfl rfl rfl rfl
      have ha := nV_bd (t.extract 0 i) (show (19 : Int) ≤ 19 by omega)
      have hb := nV_bd (t.extract (i + 1) t.size) (show (9 : Int) ≤ 19 by omega)
      by_cases ho : (nOk (t.extract 0 i) 19 && nOk (t.extract (i + 1) t.size) 9) = true
      · obtain ⟨f0, f1, f2⟩ := hf.2 ho
        rw [f1, f2]
        have hl : t.size - (i + 1) ≤ 9 := by
          rw [Bool.and_eq_true] at ho
          have h := ho.2
          unfold nOk at h
          rw [Bool.and_eq_true, decide_eq_true_eq, ByteArray.size_extract] at h
          omega
        have htp : (0 : Int) < 10 ^ (t.size - (i + 1)) := Int.pow_pos (by decide)
        have htk : (10 : Int) ^ (t.size - (i + 1)) ≤ 1000000000 := by
          have h : (10 : Nat) ^ (t.size - (i + 1)) ≤ 10 ^ 9 := Nat.pow_le_pow_right (by omega) hl
          have e : ((10 ^ (t.size - (i + 1)) : Nat) : Int) = (10 : Int) ^ (t.size - (i + 1)) := by rw [Int.natCast_pow]; rfl
          rw [← e]
          have h' : (10 : Nat) ^ (t.size - (i + 1)) ≤ 1000000000 := h
          omega
        generalize (10 : Int) ^ (t.size - (i + 1)) = T at htp htk ⊢
        have h1 := Int.mul_nonneg ha.1 (show 0 ≤ T by omega)
        have h2 := Int.mul_le_mul (show nV (t.extract 0 i) 19 ≤ 10000000000000000000 by omega) htk (by omega) (by omega)
        omega
      · have := hf.1 (by simpa using ho); omega
    · have hf := frm_int (by omega) (by omega) (rfl : nV t 19 = nV t 19) (rfl : nOk t 19 = nOk t 19)
      have ha := nV_bd t (show (19 : Int) ≤ 19 by omega)
      cases ho : nOk t 19
      · have := hf.1 ho; omega
      · obtain ⟨f0, f1, f2⟩ := hf.2 ho
        rw [f1, f2]
        omega
end Go.Proofs.Ytlocgjhblcgpbaa
