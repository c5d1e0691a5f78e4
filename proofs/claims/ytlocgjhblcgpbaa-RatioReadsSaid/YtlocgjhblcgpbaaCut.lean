/-
  strings.CutPrefix and strings.Cut at one byte.
-/
import Derived.Test.YtlocgjhblcgpbaaDigits
import Derived.Test.YtlocgjhblcgpbaaShelfS
namespace Go.Proofs.Ytlocgjhblcgpbaa
open Go.RowKit
set_option linter.unusedSimpArgs false
set_option linter.unusedVariables false

theorem fst_congr {c d : Nat → Int} {b : Int} {n : Nat} (h : ∀ i, i < n → c i = d i) : fst c b n = fst d b n := by
  induction n with
  | zero => rfl
  | succ n ih =>
    show (if 0 ≤ fst c b n then fst c b n else if c n = b then (n : Int) else -1) = (if 0 ≤ fst d b n then fst d b n else if d n = b then (n : Int) else -1)
    rw [ih fun i hi => h i (by omega), h n (by omega)]
theorem indexByte_snoc (l : List UInt8) (a b : UInt8) : Lib.indexByte (l ++ [a]) b = if Lib.indexByte l b = -1 then (if a = b then (l.length : Int) else -1) else Lib.indexByte l b := by
  induction l with
  | nil =>
    show Lib.indexByte [a] b = _
    simp only [Lib.indexByte]
    by_cases h : a = b
    · subst h; simp
    · simp [h]
  | cons x l ih =>
    show Lib.indexByte (x :: (l ++ [a])) b = _
    simp only [Lib.indexByte, ih]
    have hg := Lib.indexByte_ge l b
    by_cases h : x = b
    · subst h; simp
    · by_cases h2 : Lib.indexByte l b = -1
      · by_cases h3 : a = b
        · simp [h, h2, h3]
        · simp [h, h2, h3]
      · have h4 : ¬ Lib.indexByte l b + 1 = -1 := by omega
        simp [h, h2, h4]
theorem indexByte_list (l : List UInt8) (b : UInt8) : Lib.indexByte l b = fst (fun i => ((l.getD i 0).toNat : Int)) b.toNat l.length := by
  obtain ⟨r, rfl⟩ : ∃ r : List UInt8, l = r.reverse := ⟨l.reverse, by simp⟩
  induction r with
  | nil => rfl
  | cons a r ih =>
    rw [List.reverse_cons, indexByte_snoc, ih, List.length_append, List.length_singleton]
    generalize r.reverse = l
    have e : fst (fun i => (((l ++ [a]).getD i 0).toNat : Int)) b.toNat l.length = fst (fun i => ((l.getD i 0).toNat : Int)) b.toNat l.length := fst_congr fun i hi => by
      rw [List.getD_eq_getElem?_getD, List.getElem?_append_left hi, ← List.getD_eq_getElem?_getD]
    have ha : (((l ++ [a]).getD l.length 0).toNat : Int) = (a.toNat : Int) := by simp [List.getD_eq_getElem?_getD]
    show _ = (if 0 ≤ fst (fun i => (((l ++ [a]).getD i 0).toNat : Int)) b.toNat l.length then fst (fun i => (((l ++ [a]).getD i 0).toNat : Int)) b.toNat l.length else if (((l ++ [a]).getD l.length 0).toNat : Int) = (b.toNat : Int) then (l.length : Int) else -1)
    rw [e, ha]
    have hb := fst_bd (fun i => ((l.getD i 0).toNat : Int)) b.toNat l.length
    have hi : ((a.toNat : Int) = (b.toNat : Int)) ↔ a = b := ⟨fun h => UInt8.toNat_inj.1 (by omega), fun h => by rw [h]⟩
    generalize fst (fun i => ((l.getD i 0).toNat : Int)) b.toNat l.length = f at hb
    by_cases h : f = -1
    · rw [if_pos h, if_neg (show ¬ 0 ≤ f by omega)]
      by_cases h2 : a = b
      · rw [if_pos h2, if_pos (hi.2 h2)]
      · rw [if_neg h2, if_neg (fun g => h2 (hi.1 g))]
    · rw [if_neg h, if_pos (show 0 ≤ f by omega)]
theorem indexByte_fst (s : ByteArray) (b : UInt8) : Lib.indexByte s.data.toList b = fst (byteAt s) b.toNat s.size := by
  rw [indexByte_list]
  rw [show s.data.toList.length = s.size by rw [Lib.size_eq]]
  rfl
set_option maxHeartbeats 2000000 in
theorem cut_one (s : ByteArray) (b : UInt8) (hs : s.size ≤ 1000) (w : World) :
    Calls Try.prog 100 #[.string s, .string ⟨#[b]⟩] w fun e w' => e = .returned (if 0 ≤ fst (byteAt s) b.toNat s.size then .tuple #[.string (s.extract 0 (fst (byteAt s) b.toNat s.size).toNat), .string (s.extract ((fst (byteAt s) b.toNat s.size).toNat + 1) s.size), .bool true] else .tuple #[.string s, .string ⟨#[]⟩, .bool false]) ∧ Below w.heap.size w w' := by
  have hi := fun w => indexByte_fst s b ▸ (Any.stringslite_Index_one Try.lays219 s b w : Calls Try.prog 104 _ _ _)
  have hf := fst_bd (byteAt s) b.toNat s.size
  generalize fst (byteAt s) b.toNat s.size = f at hi hf ⊢
  by_cases h : 0 ≤ f
  · rw [if_pos h]
    obtain ⟨i, rfl⟩ := Int.eq_ofNat_of_zero_le h
    go_enter Try.func100, Try.ntmps100
    go_wp2_with (go_at_call 104; refine (hi _).mono ?_; rintro e w' ⟨rfl, rfl⟩)
    have w1 : IntKind.i64.wrap ((i : Int) + 1) = (i : Int) + 1 := IntWalk.i64_in _ (by omega)
    have hm1 : (i : Int) ≤ (s.size : Int) := by omega
    have hm2 : (i : Int) + 1 ≤ (s.size : Int) := by omega
    go_region
    go_wp2_with fail
    exact bodyPost_ret (v := .tuple #[.string (s.extract 0 i), .string (s.extract (i + 1) s.size), .bool true]) (by simp [results, Try.results100, go_sem]) rfl ⟨by simp, bD1 (Below.refl _ _)⟩
  · rw [if_neg h]
    go_enter Try.func100, Try.ntmps100
    go_wp2_with (go_at_call 104; refine (hi _).mono ?_; rintro e w' ⟨rfl, rfl⟩)
    exact bodyPost_ret (v := .tuple #[.string s, .string ⟨#[]⟩, .bool false]) (by simp [results, Try.results100, go_sem]) rfl ⟨rfl, Below.refl _ _⟩
theorem scut_any (s : ByteArray) (b : UInt8) (hs : s.size ≤ 1000) (w : World) :
    Calls Try.prog 89 #[.string s, .string ⟨#[b]⟩] w fun e w' => e = .returned (if 0 ≤ fst (byteAt s) b.toNat s.size then .tuple #[.string (s.extract 0 (fst (byteAt s) b.toNat s.size).toNat), .string (s.extract ((fst (byteAt s) b.toNat s.size).toNat + 1) s.size), .bool true] else .tuple #[.string s, .string ⟨#[]⟩, .bool false]) ∧ Below w.heap.size w w' := by
  have hc := fun w => cut_one s b hs w
  generalize fst (byteAt s) b.toNat s.size = f at hc ⊢
  by_cases h : 0 ≤ f
  · rw [if_pos h]
    simp only [if_pos h] at hc
    go_enter Try.func89, Try.ntmps89
    go_wp2_with (go_at_call 100; refine (hc _).mono ?_; rintro e w' ⟨rfl, hb⟩)
    exact bodyPost_ret (v := .tuple #[.string (s.extract 0 f.toNat), .string (s.extract (f.toNat + 1) s.size), .bool true]) (by simp [results, Try.results89, go_sem]) rfl ⟨rfl, hb⟩
  · rw [if_neg h]
    simp only [if_neg h] at hc
    go_enter Try.func89, Try.ntmps89
    go_wp2_with (go_at_call 100; refine (hc _).mono ?_; rintro e w' ⟨rfl, hb⟩)
    exact bodyPost_ret (v := .tuple #[.string s, .string ⟨#[]⟩, .bool false]) (by simp [results, Try.results89, go_sem]) rfl ⟨rfl, hb⟩
/-- a minus stands in front -/
def neg (s : ByteArray) : Bool := decide (0 < s.size ∧ byteAt s 0 = 45)
/-- what stands behind it -/
def bdy (s : ByteArray) : ByteArray := if neg s = true then s.extract 1 s.size else s
theorem hasPrefix_neg (s : ByteArray) : Lib.hasPrefix s.data.toList [45] = neg s := by
  unfold neg byteAt
  have hz : s.size = s.data.toList.length := Lib.size_eq s
  rw [hz]
  cases h : s.data.toList with
  | nil => rfl
  | cons a l =>
    show ((45 : UInt8) == a && [].isPrefixOf l) = _
    by_cases ha : a = 45
    · subst ha; simp
    · have : ¬ ((a.toNat : Int) = 45) := fun e => ha (UInt8.toNat_inj.1 (by simpa using (show a.toNat = 45 by omega)))
      simp [this, Ne.symm ha]
theorem trim_bdy (s : ByteArray) : (⟨(Lib.trimPrefix s.data.toList [45]).toArray⟩ : ByteArray) = bdy s := by
  unfold Lib.trimPrefix bdy
  rw [hasPrefix_neg]
  by_cases h : neg s = true
  · rw [if_pos h, if_pos h]
    apply ByteArray.ext
    rw [ByteArray.data_extract]
    show (s.data.toList.drop 1).toArray = s.data.extract 1 s.size
    apply Array.ext'
    simp [Array.toList_extract, List.extract]
    rw [List.take_of_length_le]
    rw [List.length_tail, Lib.size_eq]
    exact Nat.le_refl _
  · rw [if_neg h, if_neg h]
theorem prefix_any (s : ByteArray) (w : World) :
    Calls Try.prog 63 #[.string s, .string ⟨#[45]⟩] w fun e w' => e = .returned (.tuple #[.string (bdy s), .bool (neg s)]) ∧ w' = w := by
  have h : Calls Try.prog 63 _ _ _ := Any.strings_CutPrefix Try.lays103 s ⟨#[45]⟩ w
  rwa [show ((⟨#[45]⟩ : ByteArray).data.toList) = [45] from rfl, hasPrefix_neg, trim_bdy] at h
end Go.Proofs.Ytlocgjhblcgpbaa
