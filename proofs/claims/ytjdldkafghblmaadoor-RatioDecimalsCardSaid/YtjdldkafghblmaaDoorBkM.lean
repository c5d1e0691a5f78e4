/-
  The text of a fraction, in plain lists: what its reader finds in it.
-/
import Derived.Test.YtjdldkafghblmaaDoorBkC
import Derived.Lib.ItoaNum
namespace Go.Proofs.YtjdldkafghblmaaDoor
open Go.RowKit Go.Lib
set_option linter.unusedSimpArgs false
set_option linter.unusedVariables false

def cl (l : List UInt8) (i : Nat) : Int := ((l.getD i 0).toNat : Int)
theorem byteAt_cl (s : ByteArray) : byteAt s = cl s.data.toList := rfl
theorem cl_lt {l m : List UInt8} {i : Nat} (h : i < l.length) : cl (l ++ m) i = cl l i := by
  unfold cl
  rw [List.getD_eq_getElem?_getD, List.getD_eq_getElem?_getD, List.getElem?_append_left h]
theorem cl_len {l m : List UInt8} {a : UInt8} : cl (l ++ a :: m) l.length = a.toNat := by
  unfold cl
  rw [List.getD_eq_getElem?_getD, List.getElem?_append_right (Nat.le_refl _), Nat.sub_self]
  rfl
theorem dgs_congr {c d : Nat → Int} : ∀ {n : Nat}, (∀ i, i < n → c i = d i) → dgs c n = dgs d n
  | 0, _ => rfl
  | n + 1, h => by
    show (dgs c n && decide (48 ≤ c n ∧ c n ≤ 57)) = (dgs d n && decide (48 ≤ d n ∧ d n ≤ 57))
    rw [dgs_congr fun i hi => h i (by omega), h n (by omega)]
theorem dv_congr {c d : Nat → Int} : ∀ {n : Nat}, (∀ i, i < n → c i = d i) → dv c n = dv d n
  | 0, _ => rfl
  | n + 1, h => by
    show 10 * dv c n + (c n - 48) = 10 * dv d n + (d n - 48)
    rw [dv_congr fun i hi => h i (by omega), h n (by omega)]
theorem digit_nat {d : Nat} (h : d < 10) : (UInt8.ofNat (48 + d)).toNat = 48 + d := by
  rw [UInt8.toNat_ofNat']
  omega
theorem dec_small {u : Nat} (h : u < 10) : decDigits u = [UInt8.ofNat (48 + u)] := by rw [decDigits, dif_pos h]
theorem dec_big {u : Nat} (h : ¬ u < 10) : decDigits u = decDigits (u / 10) ++ [UInt8.ofNat (48 + u % 10)] := by rw [decDigits, dif_neg h]
theorem dec_dv (u : Nat) : dgs (cl (decDigits u)) (decDigits u).length = true ∧ dv (cl (decDigits u)) (decDigits u).length = u := by
  induction u using Nat.strongRecOn with
  | ind u ih =>
    by_cases h : u < 10
    · rw [dec_small h]
      have e : cl [UInt8.ofNat (48 + u)] 0 = ((48 + u : Nat) : Int) := by
        show ((UInt8.ofNat (48 + u)).toNat : Int) = _
        rw [digit_nat h]
      constructor
      · show (true && decide (48 ≤ cl [UInt8.ofNat (48 + u)] 0 ∧ cl [UInt8.ofNat (48 + u)] 0 ≤ 57)) = true
        rw [e, Bool.true_and, decide_eq_true_eq]
        omega
      · show 10 * 0 + (cl [UInt8.ofNat (48 + u)] 0 - 48) = _
        rw [e]
        omega
    · obtain ⟨i1, i2⟩ := ih (u / 10) (by omega)
      rw [dec_big h, List.length_append, List.length_singleton]
      generalize decDigits (u / 10) = l at i1 i2 ⊢
      have hm : u % 10 < 10 := by omega
      have e : cl (l ++ [UInt8.ofNat (48 + u % 10)]) l.length = ((48 + u % 10 : Nat) : Int) := by rw [cl_len, digit_nat hm]
      have hc : ∀ i, i < l.length → cl (l ++ [UInt8.ofNat (48 + u % 10)]) i = cl l i := fun i hi => cl_lt hi
      constructor
      · show (dgs (cl (l ++ [UInt8.ofNat (48 + u % 10)])) l.length && decide (48 ≤ cl (l ++ [UInt8.ofNat (48 + u % 10)]) l.length ∧ cl (l ++ [UInt8.ofNat (48 + u % 10)]) l.length ≤ 57)) = true
        rw [dgs_congr hc, i1, e, Bool.true_and, decide_eq_true_eq]
        omega
      · show 10 * dv (cl (l ++ [UInt8.ofNat (48 + u % 10)])) l.length + (cl (l ++ [UInt8.ofNat (48 + u % 10)]) l.length - 48) = _
        rw [dv_congr hc, i2, e]
        omega
theorem dgs_at {c : Nat → Int} : ∀ {n : Nat}, dgs c n = true → ∀ i, i < n → 48 ≤ c i ∧ c i ≤ 57
  | 0, _, i, hi => by omega
  | n + 1, h, i, hi => by
    have h' : (dgs c n && decide (48 ≤ c n ∧ c n ≤ 57)) = true := h
    rw [Bool.and_eq_true, decide_eq_true_eq] at h'
    rcases Nat.lt_or_ge i n with g | g
    · exact dgs_at h'.1 i g
    · obtain rfl : i = n := by omega
      exact h'.2
theorem dec_len : ∀ (k u : Nat), 1 ≤ k → u < 10 ^ k → 1 ≤ (decDigits u).length ∧ (decDigits u).length ≤ k
  | 0, _, h, _ => by omega
  | k + 1, u, _, h => by
    by_cases hs : u < 10
    · rw [dec_small hs]; simp
    · rw [dec_big hs, List.length_append, List.length_singleton]
      rcases Nat.eq_zero_or_pos k with rfl | hk
      · simp at h; omega
      · have := dec_len k (u / 10) hk (by rw [Nat.pow_succ] at h; omega)
        omega
theorem fst_none {c : Nat → Int} {b : Int} : ∀ {n : Nat}, (∀ i, i < n → c i ≠ b) → fst c b n = -1
  | 0, _ => rfl
  | n + 1, h => by
    show (if 0 ≤ fst c b n then fst c b n else if c n = b then (n : Int) else -1) = -1
    rw [fst_none fun i hi => h i (by omega), if_neg (by omega), if_neg (h n (by omega))]
theorem fst_keep {c : Nat → Int} {b : Int} {k : Nat} (h : 0 ≤ fst c b k) : ∀ {n : Nat}, k ≤ n → fst c b n = fst c b k
  | 0, hk => by obtain rfl : k = 0 := by omega
                rfl
  | n + 1, hk => by
    rcases Nat.lt_or_ge n k with g | g
    · obtain rfl : k = n + 1 := by omega
      rfl
    · have := fst_keep h g
      show (if 0 ≤ fst c b n then fst c b n else if c n = b then (n : Int) else -1) = fst c b k
      rw [this, if_pos h]
theorem fst_first {c : Nat → Int} {b : Int} {n i : Nat} (hi : i < n) (h0 : ∀ j, j < i → c j ≠ b) (h1 : c i = b) : fst c b n = i := by
  have e : fst c b (i + 1) = i := by
    show (if 0 ≤ fst c b i then fst c b i else if c i = b then (i : Int) else -1) = i
    rw [fst_none h0, if_neg (by omega), if_pos h1]
  rw [fst_keep (k := i + 1) (n := n) (by rw [e]; omega) (by omega), e]
theorem ext_list (t : ByteArray) (a b : Nat) : (t.extract a b).data.toList = (t.data.toList.take b).drop a := by
  rw [ByteArray.data_extract, Array.toList_extract, List.extract_eq_take_drop, List.drop_take]
theorem nV_list {t : ByteArray} {u : Nat} (h : t.data.toList = decDigits u) (hu : u < 10 ^ 19) : nOk t 19 = true ∧ nV t 19 = u := by
  have hl := dec_len 19 u (by omega) hu
  have hs : t.size = (decDigits u).length := by rw [size_eq, h]
  obtain ⟨d1, d2⟩ := dec_dv u
  have e : nOk t 19 = true := by
    unfold nOk
    rw [hs, byteAt_cl, h, d1, decide_eq_true (by omega)]
    rfl
  refine ⟨e, ?_⟩
  unfold nV
  rw [if_pos e, hs, byteAt_cl, h, d2]
theorem dec_ne {u : Nat} {b : Int} (hb : b < 48) : ∀ j, j < (decDigits u).length → cl (decDigits u) j ≠ b := fun j hj => by
  have := dgs_at (dec_dv u).1 j hj
  omega
/-- an integer's digits -/
theorem frm_digits {t : ByteArray} {u : Nat} (h : t.data.toList = decDigits u) (hu : u < 10 ^ 19) : frm t = 1 ∧ pnum t = u ∧ pden t = 1 := by
  have hs : t.size = (decDigits u).length := by rw [size_eq, h]
  obtain ⟨o, v⟩ := nV_list h hu
  have n1 : slN t < 0 := by unfold slN; rw [hs, byteAt_cl, h, fst_none (dec_ne (by omega))]; omega
  have n2 : ptN t < 0 := by unfold ptN; rw [hs, byteAt_cl, h, fst_none (dec_ne (by omega))]; omega
  exact (frm_int n1 n2 v o).2 rfl
/-- two numbers' digits with a stroke between them -/
theorem frm_stroke {t : ByteArray} {u v : Nat} (h : t.data.toList = decDigits u ++ 47 :: decDigits v) (hu : u < 10 ^ 19) (hv : v < 10 ^ 19) (hv0 : 0 < v) : frm t = 0 ∧ pnum t = u ∧ pden t = v := by
  have hs : t.size = (decDigits u).length + 1 + (decDigits v).length := by rw [size_eq, h, List.length_append, List.length_cons]; omega
  have hi : slN t = ((decDigits u).length : Nat) := by
    unfold slN
    rw [byteAt_cl, h]
    refine fst_first (by omega) (fun j hj => ?_) (by rw [cl_len]; rfl)
    rw [cl_lt hj]
    exact dec_ne (by omega) j hj
  have x1 : (t.extract 0 (decDigits u).length).data.toList = decDigits u := by rw [ext_list, h, List.drop_zero, List.take_left]
  have x2 : (t.extract ((decDigits u).length + 1) t.size).data.toList = decDigits v := by
    rw [ext_list, List.take_of_length_le (by rw [← size_eq]; omega), h, ← List.drop_drop, List.drop_left]
    rfl
  obtain ⟨o1, v1⟩ := nV_list x1 hu
  obtain ⟨o2, v2⟩ := nV_list x2 hv
  exact (frm_sl hi v1 v2 o1 o2).2.2 rfl (by omega)
/-- the text of a fraction -/
def fmtL (N D : Int) : List UInt8 := itoa N ++ (if D = 1 then [] else 47 :: itoa D)
theorem itoa_decM (N : Int) : itoa N = (if N < 0 then [45] else []) ++ decDigits N.natAbs := by
  unfold itoa
  by_cases h : N < 0
  · rw [if_pos h, if_pos h]; rfl
  · rw [if_neg h, if_neg h, List.nil_append, show N.natAbs = N.toNat by omega]
theorem neg_bdy {s : ByteArray} {N : Int} {u : Nat} {m : List UInt8} (h : s.data.toList = (if N < 0 then [45] else []) ++ (decDigits u ++ m)) : neg s = decide (N < 0) ∧ (bdy s).data.toList = decDigits u ++ m := by
  have hl : 1 ≤ (decDigits u).length := (dec_len (u + 1) u (by omega) (by have := Nat.lt_pow_self (n := u) (show 1 < 10 by omega); rw [Nat.pow_succ]; omega)).1
  by_cases hn : N < 0
  · rw [if_pos hn] at h
    have e : neg s = true := by
      unfold neg
      rw [size_eq, byteAt_cl, h, decide_eq_true_eq]
      exact ⟨by simp, rfl⟩
    rw [decide_eq_true hn]
    refine ⟨e, ?_⟩
    unfold bdy
    rw [if_pos e, ext_list, List.take_of_length_le (by rw [← size_eq]; omega), h]
    rfl
  · rw [if_neg hn, List.nil_append] at h
    have e : neg s = false := by
      unfold neg
      rw [decide_eq_false_iff_not]
      rintro ⟨h1, h2⟩
      rw [byteAt_cl, h, cl_lt (by omega)] at h2
      exact dec_ne (by omega) 0 (by omega) h2
    rw [decide_eq_false hn]
    refine ⟨e, ?_⟩
    unfold bdy
    rw [if_neg (by rw [e]; simp)]
    exact h
theorem sgn_back (N : Int) : Rep.sgn (decide (N < 0)) N.natAbs = N := by
  by_cases h : N < 0
  · rw [decide_eq_true h]; simp [Rep.sgn]; omega
  · rw [decide_eq_false h]; simp [Rep.sgn]; omega
/-- the reader finds the fraction in its text -/
theorem par_back {N D : Int} (hv : Frac.valid N D = true) : let s : ByteArray := ⟨(fmtL N D).toArray⟩; parN s = N ∧ parD s = D ∧ parE s = 0 := by
  intro s
  obtain ⟨b1, b2, a1, a2, g⟩ := (valid_iff N D).1 hv
  have hu : N.natAbs < 10 ^ 19 := by have : (10 : Nat) ^ 19 = 10000000000000000000 := by decide
                                     omega
  have hd : D.natAbs < 10 ^ 19 := by have : (10 : Nat) ^ 19 = 10000000000000000000 := by decide
                                     omega
  have hs : s.data.toList = (if N < 0 then [45] else []) ++ (decDigits N.natAbs ++ (if D = 1 then [] else 47 :: decDigits D.natAbs)) := by
    show (fmtL N D) = _
    unfold fmtL
    rw [itoa_decM N, itoa_decM D, if_neg (show ¬ D < 0 by omega), List.nil_append, List.append_assoc]
  obtain ⟨hn, hb⟩ := neg_bdy hs
  have hf : frm (bdy s) ≤ 2 ∧ pnum (bdy s) = N.natAbs ∧ pden (bdy s) = D := by
    by_cases h1 : D = 1
    · rw [if_pos h1, List.append_nil] at hb
      obtain ⟨f1, f2, f3⟩ := frm_digits hb hu
      exact ⟨by omega, f2, by rw [f3, h1]⟩
    · rw [if_neg h1] at hb
      obtain ⟨f1, f2, f3⟩ := frm_stroke hb hu hd (by omega)
      exact ⟨by omega, f2, by rw [f3]; omega⟩
  obtain ⟨f1, f2, f3⟩ := hf
  obtain ⟨q1, q2, q3⟩ := q_self hv
  unfold parN parD parE
  rw [if_pos f1, if_pos f1, if_pos f1, f2, f3, hn, sgn_back]
  exact ⟨q1, q2, q3⟩
theorem fmt_size {N D : Int} (hv : Frac.valid N D = true) : (fmtL N D).length ≤ 1000 := by
  obtain ⟨b1, b2, a1, a2, g⟩ := (valid_iff N D).1 hv
  have e : (10 : Nat) ^ 19 = 10000000000000000000 := by decide
  have h1 := dec_len 19 N.natAbs (by omega) (by omega)
  have h2 := dec_len 19 D.natAbs (by omega) (by omega)
  unfold fmtL
  rw [itoa_decM N, itoa_decM D]
  rw [if_neg (show ¬ D < 0 by omega), List.nil_append]
  by_cases hn : N < 0 <;> by_cases hD : D = 1 <;> simp [hn, hD, List.length_append] <;> omega
theorem par_empty : parE ⟨#[]⟩ = 7 ∧ parN ⟨#[]⟩ = 0 ∧ parD ⟨#[]⟩ = 0 := by decide +kernel
end Go.Proofs.YtjdldkafghblmaaDoor
