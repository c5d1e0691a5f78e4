/-
  The reference's Parse: what a text denotes.
-/
import Derived.Test.YtlocgjhblcgpbaaCut
import Derived.Test.YtlocgjhblcgpbaaRAdd
import Derived.Test.YtlocgjhblcgpbaaQuietTail
namespace Go.Proofs.Ytlocgjhblcgpbaa
open Go.RowKit
set_option linter.unusedSimpArgs false
set_option linter.unusedVariables false

def slN (t : ByteArray) : Int := fst (byteAt t) 47 t.size
def ptN (t : ByteArray) : Int := fst (byteAt t) 46 t.size
/-- the form of a text without a sign: 0 a fraction, 1 an integer, 2 a decimal, 3 none, 4 a fraction over 0 -/
def frm (t : ByteArray) : Nat :=
  if 0 ≤ slN t then
    if (nOk (t.extract 0 (slN t).toNat) 19 && nOk (t.extract ((slN t).toNat + 1) t.size) 19) = true then
      if nV (t.extract ((slN t).toNat + 1) t.size) 19 = 0 then 4 else 0
    else 3
  else if 0 ≤ ptN t then
    if (nOk (t.extract 0 (ptN t).toNat) 19 && nOk (t.extract ((ptN t).toNat + 1) t.size) 9) = true then 2 else 3
  else if nOk t 19 = true then 1 else 3
/-- its numerator -/
def pnum (t : ByteArray) : Int :=
  if frm t = 0 then nV (t.extract 0 (slN t).toNat) 19
  else if frm t = 1 then nV t 19
  else nV (t.extract 0 (ptN t).toNat) 19 * 10 ^ (t.size - ((ptN t).toNat + 1)) + nV (t.extract ((ptN t).toNat + 1) t.size) 9
/-- its denominator -/
def pden (t : ByteArray) : Int :=
  if frm t = 0 then nV (t.extract ((slN t).toNat + 1) t.size) 19
  else if frm t = 1 then 1 else 10 ^ (t.size - ((ptN t).toNat + 1))
/-- what Parse answers -/
def parN (s : ByteArray) : Int := if frm (bdy s) ≤ 2 then qn (Rep.sgn (neg s) (pnum (bdy s))) (pden (bdy s)) else 0
def parD (s : ByteArray) : Int := if frm (bdy s) ≤ 2 then qd (Rep.sgn (neg s) (pnum (bdy s))) (pden (bdy s)) else 0
def parE (s : ByteArray) : Int := if frm (bdy s) ≤ 2 then qe (Rep.sgn (neg s) (pnum (bdy s))) (pden (bdy s)) else if frm (bdy s) = 3 then 7 else 2
theorem nV_bd (s : ByteArray) {m : Int} (hm : m ≤ 19) : 0 ≤ nV s m ∧ nV s m < 10000000000000000000 := by
  unfold nV
  split
  · rename_i h
    unfold nOk at h
    rw [Bool.and_eq_true, decide_eq_true_eq] at h
    have := dv_bd s.size h.2
    have := ten_le (show s.size ≤ 19 by omega)
    omega
  · omega
theorem bdy_size (s : ByteArray) : (bdy s).size ≤ s.size := by
  unfold bdy
  split
  · rw [ByteArray.size_extract]; omega
  · omega
theorem frm_sl {t : ByteArray} {i : Nat} {va vd : Int} {oa od : Bool} (h : slN t = i) (e1 : nV (t.extract 0 i) 19 = va) (e2 : nV (t.extract (i + 1) t.size) 19 = vd) (e3 : nOk (t.extract 0 i) 19 = oa) (e4 : nOk (t.extract (i + 1) t.size) 19 = od) :
    ((oa && od) = false → frm t = 3) ∧ ((oa && od) = true → vd = 0 → frm t = 4) ∧ ((oa && od) = true → ¬ vd = 0 → frm t = 0 ∧ pnum t = va ∧ pden t = vd) := by
  have hf : frm t = if (oa && od) = true then if vd = 0 then 4 else 0 else 3 := by
    unfold frm
    rw [h, if_pos (Int.natCast_nonneg i), Int.toNat_natCast, e2, e3, e4]
  refine ⟨fun a => by rw [hf, if_neg (by rw [a]; simp)], fun a b => by rw [hf, if_pos a, if_pos b], fun a b => ?_⟩
  have h0 : frm t = 0 := by rw [hf, if_pos a, if_neg b]
  unfold pnum pden
  rw [if_pos h0, if_pos h0, h, Int.toNat_natCast, e1, e2]
  exact ⟨h0, rfl, rfl⟩
theorem frm_int {t : ByteArray} {va : Int} {oa : Bool} (h : slN t < 0) (h2 : ptN t < 0) (e1 : nV t 19 = va) (e3 : nOk t 19 = oa) :
    (oa = false → frm t = 3) ∧ (oa = true → frm t = 1 ∧ pnum t = va ∧ pden t = 1) := by
  have hf : frm t = if oa = true then 1 else 3 := by
    unfold frm
    rw [if_neg (by omega), if_neg (by omega), e3]
  refine ⟨fun a => by rw [hf, if_neg (by rw [a]; simp)], fun a => ?_⟩
  have h1 : frm t = 1 := by rw [hf, if_pos a]
  unfold pnum pden
  rw [if_neg (by omega), if_pos h1, if_neg (by omega), if_pos h1, e1]
  exact ⟨h1, rfl, rfl⟩
theorem frm_pt {t : ByteArray} {i : Nat} {va vd : Int} {oa od : Bool} (h : slN t < 0) (h2 : ptN t = i) (e1 : nV (t.extract 0 i) 19 = va) (e2 : nV (t.extract (i + 1) t.size) 9 = vd) (e3 : nOk (t.extract 0 i) 19 = oa) (e4 : nOk (t.extract (i + 1) t.size) 9 = od) :
    ((oa && od) = false → frm t = 3) ∧ ((oa && od) = true → frm t = 2 ∧ pnum t = va * 10 ^ (t.size - (i + 1)) + vd ∧ pden t = 10 ^ (t.size - (i + 1))) := by
  have hf : frm t = if (oa && od) = true then 2 else 3 := by
    unfold frm
    rw [if_neg (by omega), h2, if_pos (Int.natCast_nonneg i), Int.toNat_natCast, e3, e4]
  refine ⟨fun a => by rw [hf, if_neg (by rw [a]; simp)], fun a => ?_⟩
  have h1 : frm t = 2 := by rw [hf, if_pos a]
  unfold pnum pden
  rw [if_neg (by omega), if_neg (by omega), if_neg (by omega), if_neg (by omega), h2, Int.toNat_natCast, e1, e2]
  exact ⟨h1, rfl, rfl⟩
theorem par_three {f : Nat} {a b c rn rd re : Int} (h : f = 3) (h1 : rn = if f ≤ 2 then a else 0) (h2 : rd = if f ≤ 2 then b else 0) (h3 : re = if f ≤ 2 then c else if f = 3 then 7 else 2) : 0 = rn ∧ 0 = rd ∧ 7 = re := by subst h; exact ⟨h1.symm, h2.symm, h3.symm⟩
theorem par_four {f : Nat} {a b c rn rd re : Int} (h : f = 4) (h1 : rn = if f ≤ 2 then a else 0) (h2 : rd = if f ≤ 2 then b else 0) (h3 : re = if f ≤ 2 then c else if f = 3 then 7 else 2) : 0 = rn ∧ 0 = rd ∧ 2 = re := by subst h; exact ⟨h1.symm, h2.symm, h3.symm⟩
theorem par_ok {f : Nat} {a b c rn rd re : Int} (h : f ≤ 2) (h1 : rn = if f ≤ 2 then a else 0) (h2 : rd = if f ≤ 2 then b else 0) (h3 : re = if f ≤ 2 then c else if f = 3 then 7 else 2) : a = rn ∧ b = rd ∧ c = re := by rw [if_pos h] at h1 h2 h3; exact ⟨h1.symm, h2.symm, h3.symm⟩
set_option maxRecDepth 100000 in
set_option maxHeartbeats 8000000 in
theorem rparse_any (s : ByteArray) (hs : s.size ≤ 1000) (w : World) :
    Calls Try.prog 35 #[.string s] w fun e w' => e = .returned (.tuple #[.agg #[.int .i64 (parN s), .int .i64 (parD s)], .int .i64 (parE s)]) ∧ Below w.heap.size w w' := by
  have hbs := bdy_size s
  go_enter Try.func35, Try.ntmps35
  go_upto_region 1 with (fail)
  go_cut [4] (fun s4 wx => s4 = .bool (neg s) ∧ Hid (Blk wx w.heap.size 26 #[.int .i64 0, .int .i64 0] ∧ Below w.heap.size w wx))
  case first =>
    have HN := Lib.hid (show neg s = decide (0 < s.size ∧ byteAt s 0 = 45) from rfl)
    have B0 : Hid (Blk (w.alloc (.cells #[.int .i64 0, .int .i64 0] 26)) w.heap.size 26 #[.int .i64 0, .int .i64 0] ∧ Below w.heap.size w (w.alloc (.cells #[.int .i64 0, .int .i64 0] 26))) := Lib.hid ⟨Blk.newAt rfl, bAl (Below.refl w.heap.size w) _⟩
    by_cases h0 : 0 < s.size
    · have hx := byteAt_at s 0 h0
      have h0' : 0 < (s.size : Int) := by omega
      have h1' : 1 ≤ (s.size : Int) := by omega
      by_cases h45 : byteAt s 0 = 45
      · rw [decide_eq_true (show 0 < s.size ∧ byteAt s 0 = 45 from ⟨h0, h45⟩)] at HN
        rw [h45] at hx
        go_wp2_with fail
        go_meet
        exact ⟨by rw [HN.out], B0⟩
      · rw [decide_eq_false (show ¬ (0 < s.size ∧ byteAt s 0 = 45) from fun h => h45 h.2)] at HN
        have hbf : (byteAt s 0 == 45) = false := beq_eq_false_iff_ne.2 h45
        generalize byteAt s 0 = x at hx hbf
        go_wp2_with fail
        go_meet
        exact ⟨by rw [HN.out], B0⟩
    · rw [decide_eq_false (show ¬ (0 < s.size ∧ byteAt s 0 = 45) from fun h => h0 h.1)] at HN
      have h0' : ¬ 0 < (s.size : Int) := by omega
      go_wp2_with fail
      go_meet
      exact ⟨by rw [HN.out], B0⟩
  case rest =>
   obtain ⟨rfl, HW0⟩ := hcut
   have HB := Lib.hid (show bdy s = if neg s = true then s.extract 1 s.size else s from rfl)
   have HNS := Lib.hid (show neg s = true → 1 ≤ (s.size : Int) from fun h => by unfold neg at h; rw [decide_eq_true_eq] at h; omega)
   have HPN := Lib.hid (show parN s = if frm (bdy s) ≤ 2 then qn (Rep.sgn (neg s) (pnum (bdy s))) (pden (bdy s)) else 0 from rfl)
   have HPD := Lib.hid (show parD s = if frm (bdy s) ≤ 2 then qd (Rep.sgn (neg s) (pnum (bdy s))) (pden (bdy s)) else 0 from rfl)
   have HPE := Lib.hid (show parE s = if frm (bdy s) ≤ 2 then qe (Rep.sgn (neg s) (pnum (bdy s))) (pden (bdy s)) else if frm (bdy s) = 3 then 7 else 2 from rfl)
   generalize neg s = ng at HB HNS HPN HPD HPE ⊢
   go_upto_if 28 with (fail)
   go_cut [0] (fun s0 wx => s0 = .string (bdy s) ∧ Hid (Blk wx w.heap.size 26 #[.int .i64 0, .int .i64 0] ∧ Below w.heap.size w wx))
   case first =>
    cases ng
    · rw [if_neg (by simp)] at HB
      go_wp2_with fail
      go_meet
      exact ⟨by rw [HB.out], HW0⟩
    · rw [if_pos rfl] at HB
      have h1 := HNS.out rfl
      go_wp2_with fail
      go_meet
      exact ⟨by rw [HB.out], HW0⟩
   case rest =>
    obtain ⟨rfl, HW⟩ := hcut
    clear HW0 HB HNS
    generalize bdy s = t at hbs HPN HPD HPE ⊢
    have ht : t.size ≤ 1000 := by omega
    go_wp2_with fail
    refine (index_any t 47 (by omega) (by unfold maxLen; omega) _).mono ?_
    rintro e w1 ⟨rfl, hb⟩
    have HW1 := Lib.hid (And.intro (HW.out.1.later hb) (bTr HW.out.2 hb))
    clear hb HW
    go_wp2_with fail
    refine (index_any t 46 (by omega) (by unfold maxLen; omega) _).mono ?_
    rintro e w2 ⟨rfl, hb⟩
    have HW2 := Lib.hid (And.intro (HW1.out.1.later hb) (bTr HW1.out.2 hb))
    clear hb HW1
    have hsb := fst_bd (byteAt t) 47 t.size
    have hpb := fst_bd (byteAt t) 46 t.size
    have HS := Lib.hid (show slN t = fst (byteAt t) 47 t.size from rfl)
    have HT := Lib.hid (show ptN t = fst (byteAt t) 46 t.size from rfl)
    generalize fst (byteAt t) 47 t.size = sl at hsb HS ⊢
    generalize fst (byteAt t) 46 t.size = pt at hpb HT ⊢
    by_cases hsl : 0 ≤ sl
    · obtain ⟨i, rfl⟩ := Int.eq_ofNat_of_zero_le hsl
      have hi1 : (i : Int) ≤ (t.size : Int) := by omega
      have hi2 : (i : Int) + 1 ≤ (t.size : Int) := by omega
      have ha := nV_bd (t.extract 0 i) (show (19 : Int) ≤ 19 by omega)
      have hd := nV_bd (t.extract (i + 1) t.size) (show (19 : Int) ≤ 19 by omega)
      have hza : (t.extract 0 i).size ≤ 1000 := by rw [ByteArray.size_extract]; omega
      have hzd : (t.extract (i + 1) t.size).size ≤ 1000 := by rw [ByteArray.size_extract]; omega
      have w1' : IntKind.i64.wrap ((i : Int) + 1) = (i : Int) + 1 := IntWalk.i64_in _ (by omega)
      have NA := Lib.hid (fun w => number_any (t.extract 0 i) 19 (by omega) (by unfold maxLen; omega) w)
      have ND := Lib.hid (fun w => number_any (t.extract (i + 1) t.size) 19 (by omega) (by unfold maxLen; omega) w)
      obtain ⟨va, hva⟩ : ∃ v, nV (t.extract 0 i) 19 = v := ⟨_, rfl⟩
      obtain ⟨vd, hvd⟩ : ∃ v, nV (t.extract (i + 1) t.size) 19 = v := ⟨_, rfl⟩
      obtain ⟨oa, hoa⟩ : ∃ v, nOk (t.extract 0 i) 19 = v := ⟨_, rfl⟩
      obtain ⟨od, hod⟩ : ∃ v, nOk (t.extract (i + 1) t.size) 19 = v := ⟨_, rfl⟩
      have HF := Lib.hid (frm_sl HS.out hva hvd hoa hod)
      rw [hva] at ha
      rw [hvd] at hd
      simp only [hva, hoa] at NA
      simp only [hvd, hod] at ND
      clear hva hvd hoa hod HS HT hpb
      go_wp2_with fail
      refine (NA.out _).mono ?_
      rintro e w3 ⟨rfl, hb⟩
      have HW3 := Lib.hid (And.intro (HW2.out.1.later hb) (bTr HW2.out.2 hb))
      clear hb HW2
      go_wp2_with fail
      refine (ND.out _).mono ?_
      rintro e w4 ⟨rfl, hb⟩
      have HW4 := Lib.hid (And.intro (HW3.out.1.later hb) (bTr HW3.out.2 hb))
      clear hb HW3
      by_cases hok : (oa && od) = true
      · obtain ⟨rfl, rfl⟩ : oa = true ∧ od = true := by simpa using hok
        by_cases hd0 : vd = 0
        · subst hd0
          have HP4 := Lib.hid (par_four (HF.out.2.1 rfl rfl) HPN.out HPD.out HPE.out)
          obtain ⟨⟨y0, y1⟩, ⟨y2, y3⟩, y4⟩ := HW4.out.1.two
          go_wp2_with fail
          exact bodyPost_ret (v := .tuple #[.agg #[.int .i64 0, .int .i64 0], .int .i64 2]) (by simp [results, Try.results35, go_sem, y0, y1, y4]) rfl ⟨ret3 (HP4.out), bSt (bSt HW4.out.2 (by simp) _) (by simp) _⟩
        · obtain ⟨f0, f1, f2⟩ := HF.out.2.2 rfl hd0
          have HP0 := Lib.hid (par_ok (show frm t ≤ 2 by omega) HPN.out HPD.out HPE.out)
          rw [f1, f2] at HP0
          have RD : ∀ ng' : Bool, Rep.sgn ng' va = Rep.sgn ng va → Hid (∀ W, Calls Try.prog 53 #[.bool ng', .agg #[.int .u64 0, .int .u64 va], .agg #[.int .u64 0, .int .u64 vd]] W fun e w' => e = .returned (.tuple #[.agg #[.int .i64 (parN s), .int .i64 (parD s)], .int .i64 (parE s)]) ∧ Below W.heap.size W w') := fun ng' h => Lib.hid fun W => by
            have := reduce_z ng' va vd _ ha.1 (by omega) (by omega) (by omega) h W
            rw [show Rep.hi va = 0 by unfold Rep.hi; omega, show Rep.lo va = va by unfold Rep.lo; omega, show Rep.hi vd = 0 by unfold Rep.hi; omega, show Rep.lo vd = vd by unfold Rep.lo; omega, HP0.out.1, HP0.out.2.1, HP0.out.2.2] at this
            exact this
          clear HP0 f0 f1 f2 HF HPN HPD HPE
          cases ng
          · have RX := RD false rfl
            clear RD
            go_wp2_with fail
            refine (RX.out _).mono ?_
            rintro e w5 ⟨rfl, hb⟩
            have HW5 := Lib.hid (And.intro (HW4.out.1.later hb) (bTr HW4.out.2 hb))
            clear hb RX HW4
            obtain ⟨⟨y0, y1⟩, ⟨y2, y3⟩, y4⟩ := HW5.out.1.two
            go_wp2_with fail
            exact bodyPost_ret (v := .tuple #[.agg #[.int .i64 (parN s), .int .i64 (parD s)], .int .i64 (parE s)]) (by simp [results, Try.results35, go_sem, y0, y1, y4]) rfl ⟨rfl, bSt (bSt HW5.out.2 (by simp) _) (by simp) _⟩
          · by_cases hv : va = 0
            · have RX := RD false (by rw [hv]; rfl)
              clear RD
              subst hv
              go_wp2_with fail
              refine (RX.out _).mono ?_
              rintro e w5 ⟨rfl, hb⟩
              have HW5 := Lib.hid (And.intro (HW4.out.1.later hb) (bTr HW4.out.2 hb))
              clear hb RX HW4
              obtain ⟨⟨y0, y1⟩, ⟨y2, y3⟩, y4⟩ := HW5.out.1.two
              go_wp2_with fail
              exact bodyPost_ret (v := .tuple #[.agg #[.int .i64 (parN s), .int .i64 (parD s)], .int .i64 (parE s)]) (by simp [results, Try.results35, go_sem, y0, y1, y4]) rfl ⟨rfl, bSt (bSt HW5.out.2 (by simp) _) (by simp) _⟩
            · have RX := RD true rfl
              have hv' : 0 < va := by omega
              clear RD
              go_wp2_with fail
              refine (RX.out _).mono ?_
              rintro e w5 ⟨rfl, hb⟩
              have HW5 := Lib.hid (And.intro (HW4.out.1.later hb) (bTr HW4.out.2 hb))
              clear hb RX HW4
              obtain ⟨⟨y0, y1⟩, ⟨y2, y3⟩, y4⟩ := HW5.out.1.two
              go_wp2_with fail
              exact bodyPost_ret (v := .tuple #[.agg #[.int .i64 (parN s), .int .i64 (parD s)], .int .i64 (parE s)]) (by simp [results, Try.results35, go_sem, y0, y1, y4]) rfl ⟨rfl, bSt (bSt HW5.out.2 (by simp) _) (by simp) _⟩
      · have hok' : (oa && od) = false := by simpa using hok
        have HP3 := Lib.hid (par_three (HF.out.1 hok') HPN.out HPD.out HPE.out)
        obtain ⟨⟨y0, y1⟩, ⟨y2, y3⟩, y4⟩ := HW4.out.1.two
        clear HF HPN HPD HPE
        cases oa <;> cases od <;> simp at hok'
        all_goals go_wp2_with fail
        all_goals exact bodyPost_ret (v := .tuple #[.agg #[.int .i64 0, .int .i64 0], .int .i64 7]) (by simp [results, Try.results35, go_sem, y0, y1, y4]) rfl ⟨ret3 (HP3.out), bSt (bSt HW4.out.2 (by simp) _) (by simp) _⟩
    · by_cases hpt : 0 ≤ pt
      · obtain ⟨i, rfl⟩ := Int.eq_ofNat_of_zero_le hpt
        have hi1 : (i : Int) ≤ (t.size : Int) := by omega
        have hi2 : (i : Int) + 1 ≤ (t.size : Int) := by omega
        have ha := nV_bd (t.extract 0 i) (show (19 : Int) ≤ 19 by omega)
        have hd := nV_bd (t.extract (i + 1) t.size) (show (9 : Int) ≤ 19 by omega)
        have hza : (t.extract 0 i).size ≤ 1000 := by rw [ByteArray.size_extract]; omega
        have hzd : (t.extract (i + 1) t.size).size = t.size - (i + 1) := by rw [ByteArray.size_extract]; omega
        have w1' : IntKind.i64.wrap ((i : Int) + 1) = (i : Int) + 1 := IntWalk.i64_in _ (by omega)
        have NA := Lib.hid (fun w => number_any (t.extract 0 i) 19 (by omega) (by unfold maxLen; omega) w)
        have ND := Lib.hid (fun w => number_any (t.extract (i + 1) t.size) 9 (by omega) (by unfold maxLen; omega) w)
        have HL := Lib.hid (show nOk (t.extract (i + 1) t.size) 9 = true → t.size ≤ i + 10 from fun h => by
          unfold nOk at h
          rw [Bool.and_eq_true, decide_eq_true_eq] at h
          omega)
        obtain ⟨va, hva⟩ : ∃ v, nV (t.extract 0 i) 19 = v := ⟨_, rfl⟩
        obtain ⟨vd, hvd⟩ : ∃ v, nV (t.extract (i + 1) t.size) 9 = v := ⟨_, rfl⟩
        obtain ⟨oa, hoa⟩ : ∃ v, nOk (t.extract 0 i) 19 = v := ⟨_, rfl⟩
        obtain ⟨od, hod⟩ : ∃ v, nOk (t.extract (i + 1) t.size) 9 = v := ⟨_, rfl⟩
        have HF := Lib.hid (frm_pt (by rw [HS.out]; omega) HT.out hva hvd hoa hod)
        rw [hva] at ha
        rw [hvd] at hd
        rw [hod] at HL
        simp only [hva, hoa] at NA
        simp only [hvd, hod] at ND
        clear hva hvd hoa hod HS HT
        go_wp2_with fail
        refine (NA.out _).mono ?_
        rintro e w3 ⟨rfl, hb⟩
        have HW3 := Lib.hid (And.intro (HW2.out.1.later hb) (bTr HW2.out.2 hb))
        clear hb HW2 NA
        go_wp2_with fail
        refine (ND.out _).mono ?_
        rintro e w4 ⟨rfl, hb⟩
        have HW4 := Lib.hid (And.intro (HW3.out.1.later hb) (bTr HW3.out.2 hb))
        clear hb HW3 ND
        by_cases hok : (oa && od) = true
        · obtain ⟨rfl, rfl⟩ : oa = true ∧ od = true := by simpa using hok
          have hl := HL.out rfl
          obtain ⟨f0, f1, f2⟩ := HF.out.2 rfl
          have HP0 := Lib.hid (par_ok (show frm t ≤ 2 by omega) HPN.out HPD.out HPE.out)
          rw [f1, f2] at HP0
          clear HF HPN HPD HPE f0 f1 f2 HL hok
          go_wp2_with fail
          go_loopw [17, 18] (fun v j wr => ∃ k : Nat, j = .int .i64 ((i : Int) + 1 + k) ∧ i + 1 + k ≤ t.size ∧ v = .int .u64 ((10 : Int) ^ k) ∧ wr = w4) (fun _ j _ => t.size - (intOf j).toNat)
          case atStart => exact ⟨0, by simp, by omega, by simp, rfl⟩
          case round =>
            obtain ⟨k, rfl, hk, rfl, rfl⟩ := hrel
            have ht9 := ten_le (show k ≤ 19 by omega)
            have ht10 := ten_le (show k + 1 ≤ 19 by omega)
            have htp : (0 : Int) < 10 ^ k := Int.pow_pos (by decide)
            have HE := Lib.hid (show (10 : Int) ^ (k + 1) = 10 ^ k * 10 from Int.pow_succ 10 k)
            rw [HE.out] at ht10
            by_cases hkn : i + 1 + k < t.size
            · have hkn' : (i : Int) + 1 + (k : Int) < (t.size : Int) := by omega
              generalize (10 : Int) ^ k = T at ht9 ht10 htp HE ⊢
              have w2' : IntKind.u64.wrap (T * 10) = T * 10 := by rw [IntKind.wrap_u64]; omega
              go_wp2_with fail
              go_roundw
              case rel => exact ⟨k + 1, by go_num, by omega, by rw [HE.out], trivial⟩
              case measure => simp [intOf]; omega
            · have ek : t.size - (i + 1) = k := by omega
              rw [ek] at HP0
              have hkn' : ¬ (i : Int) + 1 + (k : Int) < (t.size : Int) := by omega
              have htk : (10 : Int) ^ k ≤ 1000000000 := by
                have h : (10 : Nat) ^ k ≤ 10 ^ 9 := Nat.pow_le_pow_right (by omega) (show k ≤ 9 by omega)
                have e : ((10 ^ k : Nat) : Int) = (10 : Int) ^ k := by rw [Int.natCast_pow]; rfl
                rw [← e]
                have h' : (10 : Nat) ^ k ≤ 1000000000 := h
                omega
              clear HE ht9 ht10
              generalize (10 : Int) ^ k = T at htp htk HP0 ⊢
              have hM : 0 ≤ va * T ∧ va * T ≤ 10000000000000000000000000000 := by
                refine ⟨Int.mul_nonneg ha.1 (by omega), ?_⟩
                have := Int.mul_le_mul (show va ≤ 10000000000000000000 by omega) htk (by omega) (by omega)
                omega
              have HPR := Lib.hid (fun w => r_product va T ha.1 (by omega) (by omega) (by omega) w)
              generalize va * T = M at hM HPR HP0
              have HMV := Rep.val_hi_lo M hM.1 (by omega)
              have hm1 := Rep.hi_bd M
              have hm2 := Rep.lo_bd M
              have HPL := Lib.hid (fun w => r_plus (Rep.hi M) (Rep.lo M) 0 vd w hm1.1 hm2.1 (by omega) hd.1 hm1.2 hm2.2 (by omega) (by omega))
              rw [HMV, show Rep.val 0 vd = vd by unfold Rep.val; omega] at HPL
              have hP : 0 ≤ M + vd ∧ M + vd < 20000000000000000000000000000 := by omega
              generalize M + vd = P at hP HPL HP0
              go_wp2_with fail
              refine (HPR.out _).mono ?_
              rintro e w5 ⟨rfl, hb⟩
              have HW5 := Lib.hid (And.intro (HW4.out.1.later hb) (bTr HW4.out.2 hb))
              clear hb HPR HW4
              go_wp2_with fail
              refine (HPL.out _).mono ?_
              rintro e w6 ⟨rfl, hb⟩
              have HW6 := Lib.hid (And.intro (HW5.out.1.later hb) (bTr HW5.out.2 hb))
              clear hb HPL HW5
              go_wp2_with fail
              have HW7 := Lib.hid (show Blk (w6.alloc (.cells #[.int .u64 (Rep.hi P), .int .u64 (Rep.lo P)] 65)) w.heap.size 26 #[.int .i64 0, .int .i64 0] ∧ Blk (w6.alloc (.cells #[.int .u64 (Rep.hi P), .int .u64 (Rep.lo P)] 65)) w6.heap.size 65 #[.int .u64 (Rep.hi P), .int .u64 (Rep.lo P)] ∧ Below w.heap.size w (w6.alloc (.cells #[.int .u64 (Rep.hi P), .int .u64 (Rep.lo P)] 65)) from ⟨HW6.out.1.alloc _, Blk.newAt rfl, bAl HW6.out.2 _⟩)
              generalize w6.alloc (.cells #[.int .u64 (Rep.hi P), .int .u64 (Rep.lo P)] 65) = w7 at HW7 ⊢
              generalize w6.heap.size = G at HW7 ⊢
              have RD : ∀ ng' : Bool, Rep.sgn ng' P = Rep.sgn ng P → Hid (∀ W, Calls Try.prog 53 #[.bool ng', .agg #[.int .u64 (Rep.hi P), .int .u64 (Rep.lo P)], .agg #[.int .u64 0, .int .u64 T]] W fun e w' => e = .returned (.tuple #[.agg #[.int .i64 (parN s), .int .i64 (parD s)], .int .i64 (parE s)]) ∧ Below W.heap.size W w') := fun ng' h => Lib.hid fun W => by
                have := reduce_z ng' P T _ hP.1 (by omega) (by omega) (by omega) h W
                rw [show Rep.hi T = 0 by unfold Rep.hi; omega, show Rep.lo T = T by unfold Rep.lo; omega, HP0.out.1, HP0.out.2.1, HP0.out.2.2] at this
                exact this
              have HV := Lib.hid (Rep.val_hi_lo P hP.1 (by omega))
              obtain ⟨⟨m0, m1⟩, -, m4⟩ := HW7.out.2.1.two
              have n0 : ∀ p : BelowOf w7, p.to.cell? ⟨G, 0, none⟩ = some (.int .u64 (Rep.hi P)) := bq_cell m4 m0
              have n1 : ∀ p : BelowOf w7, p.to.cell? ⟨G, 1, none⟩ = some (.int .u64 (Rep.lo P)) := bq_cell m4 m1
              clear m0 m1 m4 HP0 HW6
              cases ng
              · have RX := RD false rfl
                clear RD HV
                refine wp_region_below_tail 12 (by kernel_rfl) (by kernel_rfl) ?_
                simp only [List.take_succ_cons, List.take_zero, List.drop_succ_cons, List.drop_zero]
                repeat (go_big_quiet_step ((go_at_call 53; exact bq_call (RX.out _))))
                refine wpQuiet_nil ?_
                intro w8 hw'
                have HX := Lib.hid (show Below w7.heap.size w7 w8 by obtain ⟨pw, h⟩ := hw'; exact h ▸ pw.h)
                clear hw' n0 n1
                obtain ⟨⟨y0, y1⟩, ⟨y2, y3⟩, y4⟩ := (HW7.out.1.later HX.out).two
                go_wp2
                exact bodyPost_ret (v := .tuple #[.agg #[.int .i64 (parN s), .int .i64 (parD s)], .int .i64 (parE s)]) (by simp [results, Try.results35, go_sem, y0, y1, y4]) rfl ⟨rfl, bSt (bSt (bTr HW7.out.2.2 HX.out) (by simp) _) (by simp) _⟩
              · by_cases hN : P = 0
                · have RX := RD false (by rw [hN]; rfl)
                  have e1 : Rep.hi P = 0 := by rw [hN]; unfold Rep.hi; omega
                  have e2 : Rep.lo P = 0 := by rw [hN]; unfold Rep.lo; omega
                  rw [e1, e2] at RX
                  rw [e1] at n0
                  rw [e2] at n1
                  clear RD e1 e2 hN HV
                  refine wp_region_below_tail 12 (by kernel_rfl) (by kernel_rfl) ?_
                  simp only [List.take_succ_cons, List.take_zero, List.drop_succ_cons, List.drop_zero]
                  repeat (go_big_quiet_step ((go_at_call 53; exact bq_call (RX.out _))))
                  refine wpQuiet_nil ?_
                  intro w8 hw'
                  have HX := Lib.hid (show Below w7.heap.size w7 w8 by obtain ⟨pw, h⟩ := hw'; exact h ▸ pw.h)
                  clear hw' n0 n1
                  obtain ⟨⟨y0, y1⟩, ⟨y2, y3⟩, y4⟩ := (HW7.out.1.later HX.out).two
                  go_wp2
                  exact bodyPost_ret (v := .tuple #[.agg #[.int .i64 (parN s), .int .i64 (parD s)], .int .i64 (parE s)]) (by simp [results, Try.results35, go_sem, y0, y1, y4]) rfl ⟨rfl, bSt (bSt (bTr HW7.out.2.2 HX.out) (by simp) _) (by simp) _⟩
                · have RX := RD true rfl
                  by_cases hh : Rep.hi P = 0
                  · have hl2 : ¬ Rep.lo P = 0 := fun e => hN (by rw [← HV.out, hh, e]; rfl)
                    rw [hh] at RX n0
                    clear RD hh HV
                    refine wp_region_below_tail 12 (by kernel_rfl) (by kernel_rfl) ?_
                    simp only [List.take_succ_cons, List.take_zero, List.drop_succ_cons, List.drop_zero]
                    repeat (go_big_quiet_step ((go_at_call 53; exact bq_call (RX.out _))))
                    refine wpQuiet_nil ?_
                    intro w8 hw'
                    have HX := Lib.hid (show Below w7.heap.size w7 w8 by obtain ⟨pw, h⟩ := hw'; exact h ▸ pw.h)
                    clear hw' n0 n1
                    obtain ⟨⟨y0, y1⟩, ⟨y2, y3⟩, y4⟩ := (HW7.out.1.later HX.out).two
                    go_wp2
                    exact bodyPost_ret (v := .tuple #[.agg #[.int .i64 (parN s), .int .i64 (parD s)], .int .i64 (parE s)]) (by simp [results, Try.results35, go_sem, y0, y1, y4]) rfl ⟨rfl, bSt (bSt (bTr HW7.out.2.2 HX.out) (by simp) _) (by simp) _⟩
                  · clear RD HV
                    refine wp_region_below_tail 12 (by kernel_rfl) (by kernel_rfl) ?_
                    simp only [List.take_succ_cons, List.take_zero, List.drop_succ_cons, List.drop_zero]
                    repeat (go_big_quiet_step ((go_at_call 53; exact bq_call (RX.out _))))
                    refine wpQuiet_nil ?_
                    intro w8 hw'
                    have HX := Lib.hid (show Below w7.heap.size w7 w8 by obtain ⟨pw, h⟩ := hw'; exact h ▸ pw.h)
                    clear hw' n0 n1
                    obtain ⟨⟨y0, y1⟩, ⟨y2, y3⟩, y4⟩ := (HW7.out.1.later HX.out).two
                    go_wp2
                    exact bodyPost_ret (v := .tuple #[.agg #[.int .i64 (parN s), .int .i64 (parD s)], .int .i64 (parE s)]) (by simp [results, Try.results35, go_sem, y0, y1, y4]) rfl ⟨rfl, bSt (bSt (bTr HW7.out.2.2 HX.out) (by simp) _) (by simp) _⟩
        · have hok' : (oa && od) = false := by simpa using hok
          have HP3 := Lib.hid (par_three (HF.out.1 hok') HPN.out HPD.out HPE.out)
          obtain ⟨⟨y0, y1⟩, ⟨y2, y3⟩, y4⟩ := HW4.out.1.two
          clear HF HPN HPD HPE
          cases oa <;> cases od <;> simp at hok'
          all_goals go_wp2_with fail
          all_goals exact bodyPost_ret (v := .tuple #[.agg #[.int .i64 0, .int .i64 0], .int .i64 7]) (by simp [results, Try.results35, go_sem, y0, y1, y4]) rfl ⟨ret3 (HP3.out), bSt (bSt HW4.out.2 (by simp) _) (by simp) _⟩
      · have ha := nV_bd t (show (19 : Int) ≤ 19 by omega)
        have NA := Lib.hid (fun w => number_any t 19 (by omega) (by unfold maxLen; omega) w)
        obtain ⟨va, hva⟩ : ∃ v, nV t 19 = v := ⟨_, rfl⟩
        obtain ⟨oa, hoa⟩ : ∃ v, nOk t 19 = v := ⟨_, rfl⟩
        have HF := Lib.hid (frm_int (by rw [HS.out]; omega) (by rw [HT.out]; omega) hva hoa)
        rw [hva] at ha
        simp only [hva, hoa] at NA
        clear hva hoa HS HT
        go_wp2_with fail
        refine (NA.out _).mono ?_
        rintro e w4 ⟨rfl, hb⟩
        have HW4 := Lib.hid (And.intro (HW2.out.1.later hb) (bTr HW2.out.2 hb))
        clear hb HW2
        cases oa
        · have HP3 := Lib.hid (par_three (HF.out.1 rfl) HPN.out HPD.out HPE.out)
          obtain ⟨⟨y0, y1⟩, ⟨y2, y3⟩, y4⟩ := HW4.out.1.two
          clear HF HPN HPD HPE
          go_wp2_with fail
          exact bodyPost_ret (v := .tuple #[.agg #[.int .i64 0, .int .i64 0], .int .i64 7]) (by simp [results, Try.results35, go_sem, y0, y1, y4]) rfl ⟨ret3 (HP3.out), bSt (bSt HW4.out.2 (by simp) _) (by simp) _⟩
        · obtain ⟨f0, f1, f2⟩ := HF.out.2 rfl
          have HP0 := Lib.hid (par_ok (show frm t ≤ 2 by omega) HPN.out HPD.out HPE.out)
          rw [f1, f2] at HP0
          have RD : ∀ ng' : Bool, Rep.sgn ng' va = Rep.sgn ng va → Hid (∀ W, Calls Try.prog 53 #[.bool ng', .agg #[.int .u64 0, .int .u64 va], .agg #[.int .u64 0, .int .u64 1]] W fun e w' => e = .returned (.tuple #[.agg #[.int .i64 (parN s), .int .i64 (parD s)], .int .i64 (parE s)]) ∧ Below W.heap.size W w') := fun ng' h => Lib.hid fun W => by
            have := reduce_z ng' va 1 _ ha.1 (by omega) (by omega) (by omega) h W
            rw [show Rep.hi va = 0 by unfold Rep.hi; omega, show Rep.lo va = va by unfold Rep.lo; omega, show Rep.hi 1 = 0 by unfold Rep.hi; omega, show Rep.lo 1 = 1 by unfold Rep.lo; omega, HP0.out.1, HP0.out.2.1, HP0.out.2.2] at this
            exact this
          clear HP0 f0 f1 f2 HF HPN HPD HPE
          cases ng
          · have RX := RD false rfl
            clear RD
            go_wp2_with fail
            refine (RX.out _).mono ?_
            rintro e w5 ⟨rfl, hb⟩
            have HW5 := Lib.hid (And.intro (HW4.out.1.later hb) (bTr HW4.out.2 hb))
            clear hb RX HW4
            obtain ⟨⟨y0, y1⟩, ⟨y2, y3⟩, y4⟩ := HW5.out.1.two
            go_wp2_with fail
            exact bodyPost_ret (v := .tuple #[.agg #[.int .i64 (parN s), .int .i64 (parD s)], .int .i64 (parE s)]) (by simp [results, Try.results35, go_sem, y0, y1, y4]) rfl ⟨rfl, bSt (bSt HW5.out.2 (by simp) _) (by simp) _⟩
          · by_cases hv : va = 0
            · have RX := RD false (by rw [hv]; rfl)
              clear RD
              subst hv
              go_wp2_with fail
              refine (RX.out _).mono ?_
              rintro e w5 ⟨rfl, hb⟩
              have HW5 := Lib.hid (And.intro (HW4.out.1.later hb) (bTr HW4.out.2 hb))
              clear hb RX HW4
              obtain ⟨⟨y0, y1⟩, ⟨y2, y3⟩, y4⟩ := HW5.out.1.two
              go_wp2_with fail
              exact bodyPost_ret (v := .tuple #[.agg #[.int .i64 (parN s), .int .i64 (parD s)], .int .i64 (parE s)]) (by simp [results, Try.results35, go_sem, y0, y1, y4]) rfl ⟨rfl, bSt (bSt HW5.out.2 (by simp) _) (by simp) _⟩
            · have RX := RD true rfl
              have hv' : 0 < va := by omega
              clear RD
              go_wp2_with fail
              refine (RX.out _).mono ?_
              rintro e w5 ⟨rfl, hb⟩
              have HW5 := Lib.hid (And.intro (HW4.out.1.later hb) (bTr HW4.out.2 hb))
              clear hb RX HW4
              obtain ⟨⟨y0, y1⟩, ⟨y2, y3⟩, y4⟩ := HW5.out.1.two
              go_wp2_with fail
              exact bodyPost_ret (v := .tuple #[.agg #[.int .i64 (parN s), .int .i64 (parD s)], .int .i64 (parE s)]) (by simp [results, Try.results35, go_sem, y0, y1, y4]) rfl ⟨rfl, bSt (bSt HW5.out.2 (by simp) _) (by simp) _⟩
end Go.Proofs.Ytlocgjhblcgpbaa
