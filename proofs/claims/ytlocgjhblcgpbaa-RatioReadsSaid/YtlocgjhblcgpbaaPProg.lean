/-
  The program's Parse: its parts.
-/
import Derived.Test.YtlocgjhblcgpbaaPRef
namespace Go.Proofs.Ytlocgjhblcgpbaa
open Go.RowKit
set_option linter.unusedSimpArgs false
set_option linter.unusedVariables false

def fcE (a b : ByteArray) : Int := if (nOk a 19 && nOk b 19) = true then (if nV b 19 = 0 then 2 else 0) else 7
def fcN (a b : ByteArray) : Int := if fcE a b = 0 then nV a 19 else 0
def fcD (a b : ByteArray) : Int := if fcE a b = 0 then nV b 19 else 0
theorem ret_pm {a b c d a' b' c' d' : Int} (h1 : a = a') (h2 : b = b') (h3 : c = c') (h4 : d = d') : Ending.returned (.tuple #[.agg #[.int .u64 a, .int .u64 b], .int .u64 c, .int .i64 d]) = .returned (.tuple #[.agg #[.int .u64 a', .int .u64 b'], .int .u64 c', .int .i64 d']) := by rw [h1, h2, h3, h4]
theorem hi0 : (0 : Int) = Rep.hi 0 := by unfold Rep.hi; omega
theorem lo0 : (0 : Int) = Rep.lo 0 := by unfold Rep.lo; omega
set_option maxRecDepth 100000 in
set_option maxHeartbeats 4000000 in
theorem fraction_any (a b : ByteArray) (ha : a.size ≤ 1000) (hb : b.size ≤ 1000) (w : World) :
    Calls Try.prog 90 #[.string a, .string b] w fun e w' => e = .returned (.tuple #[.agg #[.int .u64 (Rep.hi (fcN a b)), .int .u64 (Rep.lo (fcN a b))], .int .u64 (fcD a b), .int .i64 (fcE a b)]) ∧ Below w.heap.size w w' := by
  have na := nV_bd a (show (19 : Int) ≤ 19 by omega)
  have nb := nV_bd b (show (19 : Int) ≤ 19 by omega)
  have NA := Lib.hid (fun w => parsed_any a 19 (by omega) (by unfold maxLen; omega) w)
  have NB := Lib.hid (fun w => parsed_any b 19 (by omega) (by unfold maxLen; omega) w)
  have HE := Lib.hid (show fcE a b = if (nOk a 19 && nOk b 19) = true then (if nV b 19 = 0 then 2 else 0) else 7 from rfl)
  have HN := Lib.hid (show fcN a b = if fcE a b = 0 then nV a 19 else 0 from rfl)
  have HD := Lib.hid (show fcD a b = if fcE a b = 0 then nV b 19 else 0 from rfl)
  obtain ⟨va, hva⟩ : ∃ v, nV a 19 = v := ⟨_, rfl⟩
  obtain ⟨vb, hvb⟩ : ∃ v, nV b 19 = v := ⟨_, rfl⟩
  obtain ⟨oa, hoa⟩ : ∃ v, nOk a 19 = v := ⟨_, rfl⟩
  obtain ⟨ob, hob⟩ : ∃ v, nOk b 19 = v := ⟨_, rfl⟩
  simp only [hva, hvb, hoa, hob] at na nb NA NB HE HN HD
  clear hva hvb hoa hob
  go_enter Try.func90, Try.ntmps90
  go_wp2_with fail
  refine (NA.out _).mono ?_
  rintro e w1 ⟨rfl, hb1⟩
  have B0 : Blk (w.alloc (.cells #[.int .u64 0, .int .u64 0] 60)) w.heap.size 60 #[.int .u64 0, .int .u64 0] := Blk.newAt rfl
  have HB1 := Lib.hid (And.intro (B0.later hb1) (bTr (bAl (Below.refl w.heap.size w) (.cells #[.int .u64 0, .int .u64 0] 60)) hb1))
  clear hb1 NA B0
  cases oa
  · have H7 := Lib.hid (show fcE a b = 7 by rw [HE.out, if_neg (by simp)])
    have HN0 := Lib.hid (show fcN a b = 0 by rw [HN.out, H7.out, if_neg (by omega)])
    have HD0 := Lib.hid (show fcD a b = 0 by rw [HD.out, H7.out, if_neg (by omega)])
    obtain ⟨⟨y0, y1⟩, ⟨y2, y3⟩, y4⟩ := HB1.out.1.two
    go_wp2_with fail
    exact bodyPost_ret (v := .tuple #[.agg #[.int .u64 0, .int .u64 0], .int .u64 0, .int .i64 7]) (by simp [results, Try.results90, go_sem, y0, y1, y4]) rfl ⟨ret_pm (by rw [HN0.out]; unfold Rep.hi; omega) (by rw [HN0.out]; unfold Rep.lo; omega) HD0.out.symm H7.out.symm, bSt (bSt HB1.out.2 (by simp) _) (by simp) _⟩
  · go_wp2_with fail
    refine (NB.out _).mono ?_
    rintro e w2 ⟨rfl, hb2⟩
    have HB2 := Lib.hid (And.intro (HB1.out.1.later hb2) (bTr HB1.out.2 hb2))
    clear hb2 NB HB1
    cases ob
    · have H7 := Lib.hid (show fcE a b = 7 by rw [HE.out, if_neg (by simp)])
      have HN0 := Lib.hid (show fcN a b = 0 by rw [HN.out, H7.out, if_neg (by omega)])
      have HD0 := Lib.hid (show fcD a b = 0 by rw [HD.out, H7.out, if_neg (by omega)])
      obtain ⟨⟨y0, y1⟩, ⟨y2, y3⟩, y4⟩ := HB2.out.1.two
      go_wp2_with fail
      exact bodyPost_ret (v := .tuple #[.agg #[.int .u64 0, .int .u64 0], .int .u64 0, .int .i64 7]) (by simp [results, Try.results90, go_sem, y0, y1, y4]) rfl ⟨ret_pm (by rw [HN0.out]; unfold Rep.hi; omega) (by rw [HN0.out]; unfold Rep.lo; omega) HD0.out.symm H7.out.symm, bSt (bSt HB2.out.2 (by simp) _) (by simp) _⟩
    · by_cases h0 : vb = 0
      · have H2 := Lib.hid (show fcE a b = 2 by rw [HE.out, if_pos (by simp), if_pos h0])
        have HN0 := Lib.hid (show fcN a b = 0 by rw [HN.out, H2.out, if_neg (by omega)])
        have HD0 := Lib.hid (show fcD a b = 0 by rw [HD.out, H2.out, if_neg (by omega)])
        subst h0
        obtain ⟨⟨y0, y1⟩, ⟨y2, y3⟩, y4⟩ := HB2.out.1.two
        go_wp2_with fail
        exact bodyPost_ret (v := .tuple #[.agg #[.int .u64 0, .int .u64 0], .int .u64 0, .int .i64 2]) (by simp [results, Try.results90, go_sem, y0, y1, y4]) rfl ⟨ret_pm (by rw [HN0.out]; unfold Rep.hi; omega) (by rw [HN0.out]; unfold Rep.lo; omega) HD0.out.symm H2.out.symm, bSt (bSt HB2.out.2 (by simp) _) (by simp) _⟩
      · have H0 := Lib.hid (show fcE a b = 0 by rw [HE.out, if_pos (by simp), if_neg h0])
        have HN0 := Lib.hid (show fcN a b = va by rw [HN.out, H0.out, if_pos rfl])
        have HD0 := Lib.hid (show fcD a b = vb by rw [HD.out, H0.out, if_pos rfl])
        have hbf : (vb == 0) = false := beq_eq_false_iff_ne.2 h0
        obtain ⟨⟨y0, y1⟩, ⟨y2, y3⟩, y4⟩ := HB2.out.1.two
        go_wp2_with fail
        exact bodyPost_ret (v := .tuple #[.agg #[.int .u64 0, .int .u64 va], .int .u64 vb, .int .i64 0]) (by simp [results, Try.results90, go_sem, y0, y1, y4]) rfl ⟨ret_pm (by rw [HN0.out]; unfold Rep.hi; omega) (by rw [HN0.out]; unfold Rep.lo; omega) HD0.out.symm H0.out.symm, bSt (bSt HB2.out.2 (by simp) _) (by simp) _⟩
def mE (t : ByteArray) : Int := if frm t ≤ 2 then 0 else if frm t = 3 then 7 else 2
def mN (t : ByteArray) : Int := if frm t ≤ 2 then pnum t else 0
def mD (t : ByteArray) : Int := if frm t ≤ 2 then pden t else 0
theorem m_ok {t : ByteArray} (h : frm t ≤ 2) : mE t = 0 ∧ mN t = pnum t ∧ mD t = pden t := by unfold mE mN mD; rw [if_pos h, if_pos h, if_pos h]; exact ⟨rfl, rfl, rfl⟩
theorem m_no {t : ByteArray} (h : frm t = 3) : mE t = 7 ∧ mN t = 0 ∧ mD t = 0 := by unfold mE mN mD; rw [h]; exact ⟨rfl, rfl, rfl⟩
theorem m_zero {t : ByteArray} (h : frm t = 4) : mE t = 2 ∧ mN t = 0 ∧ mD t = 0 := by unfold mE mN mD; rw [h]; exact ⟨rfl, rfl, rfl⟩
theorem m_frac {t : ByteArray} {i : Nat} (h : slN t = i) : fcE (t.extract 0 i) (t.extract (i + 1) t.size) = mE t ∧ fcN (t.extract 0 i) (t.extract (i + 1) t.size) = mN t ∧ fcD (t.extract 0 i) (t.extract (i + 1) t.size) = mD t := by
  have hf := frm_sl h rfl rfl rfl rfl
  unfold fcN fcD
  have he : fcE (t.extract 0 i) (t.extract (i + 1) t.size) = if (nOk (t.extract 0 i) 19 && nOk (t.extract (i + 1) t.size) 19) = true then (if nV (t.extract (i + 1) t.size) 19 = 0 then 2 else 0) else 7 := rfl
  by_cases ho : (nOk (t.extract 0 i) 19 && nOk (t.extract (i + 1) t.size) 19) = true
  · by_cases h0 : nV (t.extract (i + 1) t.size) 19 = 0
    · obtain ⟨a, b, c⟩ := m_zero (hf.2.1 ho h0)
      rw [if_pos ho, if_pos h0] at he
      rw [he, a, b, c]
      exact ⟨rfl, rfl, rfl⟩
    · obtain ⟨f0, f1, f2⟩ := hf.2.2 ho h0
      obtain ⟨a, b, c⟩ := m_ok (show frm t ≤ 2 by omega)
      rw [if_pos ho, if_neg h0] at he
      rw [he, a, b, c, f1, f2]
      exact ⟨rfl, rfl, rfl⟩
  · obtain ⟨a, b, c⟩ := m_no (hf.1 (by simpa using ho))
    rw [if_neg ho] at he
    rw [he, a, b, c]
    exact ⟨rfl, rfl, rfl⟩
theorem cut_sl (t : ByteArray) (ht : t.size ≤ 1000) (w : World) :
    Calls Try.prog 89 #[.string t, .string ⟨#[47]⟩] w fun e w' => e = .returned (if 0 ≤ slN t then .tuple #[.string (t.extract 0 (slN t).toNat), .string (t.extract ((slN t).toNat + 1) t.size), .bool true] else .tuple #[.string t, .string ⟨#[]⟩, .bool false]) ∧ Below w.heap.size w w' := scut_any t 47 ht w
theorem cut_pt (t : ByteArray) (ht : t.size ≤ 1000) (w : World) :
    Calls Try.prog 89 #[.string t, .string ⟨#[46]⟩] w fun e w' => e = .returned (if 0 ≤ ptN t then .tuple #[.string (t.extract 0 (ptN t).toNat), .string (t.extract ((ptN t).toNat + 1) t.size), .bool true] else .tuple #[.string t, .string ⟨#[]⟩, .bool false]) ∧ Below w.heap.size w w' := scut_any t 46 ht w
end Go.Proofs.Ytlocgjhblcgpbaa
