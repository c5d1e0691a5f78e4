/-
  What the statements of this seat need of the fractions: parse_any, q_self, valid_iff.
-/
import Derived.Test.YtjdldkafghblmaaDoorBkA
import Derived.Test.YtjdldkafghblmaaDoorShelfS
import Derived.Test.YtjdldkafghblmaaDoorMath
import Derived.Test.YtjdldkafghblmaaDoorMem
import Derived.Test.YtjdldkafghblmaaDoorNums
import Derived.Test.YtjdldkafghblmaaDoorTape
import Derived.WalkKit
import Derived.Below
import Derived.Laws.OwnMore
import Derived.Deep.Draws
import Derived.Laws.Rows
import Derived.Lib.Hide
import Derived.WalkLawsBesides
import Derived.WalkSpells
import Derived.BigQuiet
import Derived.Deep.QuietTactic
import Derived.Laws.Bits64
import Derived.Deep.LoopGhost
import Derived.Outline
import Derived.LoopN
import Derived.Shelf.Spec.BitsCarry
import Derived.Deep.RegionHeld3
import Derived.Laws.BitsAllLaws
import Derived.RegionTactic
import Derived.Deep.DeepCutAuto
import Derived.Deep.CutBlock
import Derived.Lib.ItoaNum
import Derived.BigRegion
import Derived.Laws.StructEq
import Derived.StillTail
namespace Go.Proofs.YtjdldkafghblmaaDoor
set_option linter.unusedSimpArgs false
set_option linter.unusedVariables false
open Go.RowKit
/-- the byte at place i, 0 past the end -/
def byteAt (s : ByteArray) (i : Nat) : Int := ((s.data.toList.getD i 0).toNat : Int)
theorem byteAt_bd (s : ByteArray) (i : Nat) : 0 ≤ byteAt s i ∧ byteAt s i < 256 := by
  unfold byteAt
  have := (s.data.toList.getD i 0).toNat_lt
  omega
theorem byteAt_at (s : ByteArray) (k : Nat) (h : k < s.size) : ((s[k]).toNat : Int) = byteAt s k := by
  unfold byteAt
  have h' : k < s.data.toList.length := by simpa using h
  rw [List.getD_eq_getElem?_getD, List.getElem?_eq_getElem h']
  rfl
/-- the value of the first k digits -/
def dv (c : Nat → Int) : Nat → Int
  | 0 => 0
  | k + 1 => 10 * dv c k + (c k - 48)
/-- the first k are digits -/
def dgs (c : Nat → Int) : Nat → Bool
  | 0 => true
  | k + 1 => dgs c k && decide (48 ≤ c k ∧ c k ≤ 57)
theorem dgs_no {c : Nat → Int} {k n : Nat} (hk : k < n) (h : ¬ (48 ≤ c k ∧ c k ≤ 57)) : dgs c n = false := by
  induction n with
  | zero => omega
  | succ n ih =>
    show (dgs c n && decide (48 ≤ c n ∧ c n ≤ 57)) = false
    rcases Nat.lt_or_ge k n with g | g
    · rw [ih g]; rfl
    · obtain rfl : k = n := by omega
      rw [decide_eq_false h, Bool.and_false]
theorem dv_bd {c : Nat → Int} (k : Nat) (h : dgs c k = true) : 0 ≤ dv c k ∧ dv c k < 10 ^ k := by
  induction k with
  | zero => exact ⟨Int.le_refl 0, by show (0 : Int) < 10 ^ 0; decide⟩
  | succ k ih =>
    have h' : (dgs c k && decide (48 ≤ c k ∧ c k ≤ 57)) = true := h
    rw [Bool.and_eq_true, decide_eq_true_eq] at h'
    have := ih h'.1
    have e : (10 : Int) ^ (k + 1) = 10 ^ k * 10 := Int.pow_succ 10 k
    show 0 ≤ 10 * dv c k + (c k - 48) ∧ 10 * dv c k + (c k - 48) < 10 ^ (k + 1)
    rw [e]
    generalize (10 : Int) ^ k = T at *
    omega
theorem ten_le {k : Nat} (h : k ≤ 19) : (10 : Int) ^ k ≤ 10000000000000000000 := by
  have : (10 : Nat) ^ k ≤ 10 ^ 19 := Nat.pow_le_pow_right (by omega) h
  have e : ((10 ^ k : Nat) : Int) = (10 : Int) ^ k := by rw [Int.natCast_pow]; rfl
  rw [← e]
  have : (10 : Nat) ^ k ≤ 10000000000000000000 := this
  omega
def nOk (s : ByteArray) (m : Int) : Bool := decide (1 ≤ (s.size : Int) ∧ (s.size : Int) ≤ m) && dgs (byteAt s) s.size
def nV (s : ByteArray) (m : Int) : Int := if nOk s m = true then dv (byteAt s) s.size else 0
theorem ret_nv {a b : Int} {x y : Bool} (h : a = b) (k : x = y) : Ending.returned (.tuple #[.int .u64 a, .bool x]) = .returned (.tuple #[.int .u64 b, .bool y]) := by rw [h, k]
set_option maxHeartbeats 2000000 in
theorem parsed_any (s : ByteArray) (m : Int) (hm : m ≤ 19) (hs : s.size ≤ maxLen) (w : World) :
    Calls Tryd.prog 52 #[.string s, .int .i64 m] w fun e w' => e = .returned (.tuple #[.int .u64 (nV s m), .bool (nOk s m)]) ∧ Below w.heap.size w w' := by
  by_cases hL : 1 ≤ (s.size : Int) ∧ (s.size : Int) ≤ m
  · have HO := Lib.hid (show nOk s m = dgs (byteAt s) s.size by unfold nOk; rw [decide_eq_true hL]; rfl)
    have HV := Lib.hid (show nV s m = if nOk s m = true then dv (byteAt s) s.size else 0 from rfl)
    obtain ⟨hL1, hL2⟩ := hL
    go_enter Tryd.func52, Tryd.ntmps52
    go_wp2_with fail
    go_loopw [6, 19] (fun v i wr => ∃ k : Nat, i = .int .i64 k ∧ k ≤ s.size ∧ v = .int .u64 (dv (byteAt s) k) ∧ Hid (dgs (byteAt s) k = true) ∧ wr = w) (fun _ i _ => s.size - (intOf i).toNat)
    case atStart => exact ⟨0, rfl, Nat.zero_le _, rfl, Lib.hid rfl, rfl⟩
    case round =>
      obtain ⟨k, rfl, hk, rfl, HD, rfl⟩ := hrel
      have hv := dv_bd k HD.out
      by_cases hkn : k < s.size
      · have hkn' : (k : Int) < (s.size : Int) := by omega
        have hx := byteAt_at s k hkn
        have hxb := byteAt_bd s k
        have ht := ten_le (show k + 1 ≤ 19 by omega)
        rw [Int.pow_succ] at ht
        have hv2 : 10 * dv (byteAt s) k + 10 ≤ 10000000000000000000 := by
          generalize (10 : Int) ^ k = T at *
          omega
        have hv0 := hv.1
        have HS := Lib.hid (show dv (byteAt s) (k + 1) = 10 * dv (byteAt s) k + (byteAt s k - 48) from rfl)
        have HDS := Lib.hid (show dgs (byteAt s) (k + 1) = (dgs (byteAt s) k && decide (48 ≤ byteAt s k ∧ byteAt s k ≤ 57)) from rfl)
        have HNO := Lib.hid (fun h => dgs_no (c := byteAt s) hkn h)
        clear ht hv
        generalize byteAt s k = x at hx hxb HS HDS HNO
        generalize dv (byteAt s) k = n at HS hv2 hv0
        by_cases h1 : x < 48
        · have HF := Lib.hid (show nOk s m = false by rw [HO.out]; exact HNO.out (by omega))
          have HV0 := Lib.hid (show nV s m = 0 by rw [HV.out, HF.out]; rfl)
          go_wp2_with fail
          exact bodyPost_ret (v := .tuple #[.int .u64 0, .bool false]) (by simp [results, Tryd.results52, go_sem]) rfl ⟨ret_nv HV0.out.symm HF.out.symm, Below.refl _ _⟩
        · by_cases h2 : 57 < x
          · have HF := Lib.hid (show nOk s m = false by rw [HO.out]; exact HNO.out (by omega))
            have HV0 := Lib.hid (show nV s m = 0 by rw [HV.out, HF.out]; rfl)
            go_wp2_with fail
            exact bodyPost_ret (v := .tuple #[.int .u64 0, .bool false]) (by simp [results, Tryd.results52, go_sem]) rfl ⟨ret_nv HV0.out.symm HF.out.symm, Below.refl _ _⟩
          · have HD2 := Lib.hid (show dgs (byteAt s) (k + 1) = true by rw [HDS.out, HD.out, decide_eq_true (show 48 ≤ x ∧ x ≤ 57 by omega)]; rfl)
            have w1 : IntKind.u64.wrap (10 * n) = 10 * n := by rw [IntKind.wrap_u64]; omega
            have w2 : IntKind.u64.wrap (10 * n + (x - 48)) = 10 * n + (x - 48) := by rw [IntKind.wrap_u64]; omega
            go_wp2_with fail
            go_roundw
            case rel => exact ⟨k + 1, by go_num, by omega, by rw [HS.out], HD2, trivial⟩
            case measure => simp [intOf]; omega
      · obtain rfl : k = s.size := by omega
        have HT := Lib.hid (show nOk s m = true by rw [HO.out]; exact HD.out)
        have HV0 := Lib.hid (show nV s m = dv (byteAt s) s.size by rw [HV.out, HT.out]; rfl)
        go_wp2_with fail
        exact bodyPost_ret (v := .tuple #[.int .u64 (dv (byteAt s) s.size), .bool true]) (by simp [results, Tryd.results52, go_sem]) rfl ⟨ret_nv HV0.out.symm HT.out.symm, Below.refl _ _⟩
  · have HO := Lib.hid (show nOk s m = false by unfold nOk; rw [decide_eq_false hL]; rfl)
    have HV := Lib.hid (show nV s m = 0 by unfold nV; rw [HO.out]; rfl)
    go_enter Tryd.func52, Tryd.ntmps52
    by_cases h1 : (s.size : Int) < 1
    · go_wp2_with fail
      exact bodyPost_ret (v := .tuple #[.int .u64 0, .bool false]) (by simp [results, Tryd.results52, go_sem]) rfl ⟨ret_nv HV.out.symm HO.out.symm, Below.refl _ _⟩
    · have h2 : m < (s.size : Int) := by omega
      go_wp2_with fail
      exact bodyPost_ret (v := .tuple #[.int .u64 0, .bool false]) (by simp [results, Tryd.results52, go_sem]) rfl ⟨ret_nv HV.out.symm HO.out.symm, Below.refl _ _⟩
/-- the first place of a byte among the first k -/
def fst (c : Nat → Int) (b : Int) : Nat → Int
  | 0 => -1
  | k + 1 => if 0 ≤ fst c b k then fst c b k else if c k = b then k else -1
theorem fst_bd (c : Nat → Int) (b : Int) (k : Nat) : -1 ≤ fst c b k ∧ fst c b k < k := by
  induction k with
  | zero => exact ⟨Int.le_refl _, by show (-1 : Int) < 0; decide⟩
  | succ k ih =>
    show -1 ≤ (if 0 ≤ fst c b k then fst c b k else if c k = b then (k : Int) else -1) ∧ (if 0 ≤ fst c b k then fst c b k else if c k = b then (k : Int) else -1) < ((k + 1 : Nat) : Int)
    repeat' split
    all_goals omega
set_option maxHeartbeats 2000000 in
theorem power_any (n : Nat) (hn : n ≤ 18) (w : World) :
    Calls Tryd.prog 30 #[.int .i64 n] w fun e w' => e = .returned (.int .u64 ((10 : Int) ^ n)) ∧ Below w.heap.size w w' := by
  go_enter Tryd.func30, Tryd.ntmps30
  go_wp2_with fail
  go_loopw [3, 5] (fun v i wr => ∃ k : Nat, i = .int .i64 k ∧ k ≤ n ∧ v = .int .u64 ((10 : Int) ^ k) ∧ wr = w) (fun _ i _ => n - (intOf i).toNat)
  case atStart => exact ⟨0, rfl, Nat.zero_le _, rfl, rfl⟩
  case round =>
    obtain ⟨k, rfl, hk, rfl, rfl⟩ := hrel
    by_cases hkn : k < n
    · have hkn' : (k : Int) < (n : Int) := by omega
      have ht := ten_le (show k + 1 ≤ 19 by omega)
      have hp : (0 : Int) < 10 ^ k := Int.pow_pos (by decide)
      rw [Int.pow_succ] at ht
      have HE := Lib.hid (show (10 : Int) ^ (k + 1) = 10 ^ k * 10 from Int.pow_succ 10 k)
      generalize (10 : Int) ^ k = T at ht hp HE ⊢
      have w1 : IntKind.u64.wrap (T * 10) = T * 10 := by rw [IntKind.wrap_u64]; omega
      go_wp2_with fail
      go_roundw
      case rel => exact ⟨k + 1, by go_num, by omega, by rw [HE.out], trivial⟩
      case measure => simp [intOf]; omega
    · obtain rfl : k = n := by omega
      go_wp2_with fail
      exact bodyPost_ret (v := .int .u64 ((10 : Int) ^ k)) (by simp [results, Tryd.results30, go_sem]) rfl ⟨rfl, Below.refl _ _⟩
theorem fst_congr {c d : Nat → Int} {b : Int} {n : Nat} (h : ∀ i, i < n → c i = d i) : fst c b n = fst d b n := by
  induction n with
  | zero => rfl
  | succ n ih =>
    show (if 0 ≤ fst c b n then fst c b n else if c n = b then (n : Int) else -1) = (if 0 ≤ fst d b n then fst d b n else if d n = b then (n : Int) else -1)
    rw [ih fun i hi => h i (by omega), h n (by omega)]
theorem indexByte_snoc (l : List UInt8) (a b : UInt8) : Lib.indexByte (l ++ [a]) b = if Lib.indexByte l b = -1 then (if a = b then (l.length : Int) else -1) else Lib.indexByte l b := by
  induction l with
  | nil =>
    show Lib.indexByte [a] b = _
    simp only [Lib.indexByte]
    by_cases h : a = b
    · subst h; simp
    · simp [h]
  | cons x l ih =>
    show Lib.indexByte (x :: (l ++ [a])) b = _
    simp only [Lib.indexByte, ih]
    have hg := Lib.indexByte_ge l b
    by_cases h : x = b
    · subst h; simp
    · by_cases h2 : Lib.indexByte l b = -1
      · by_cases h3 : a = b
        · simp [h, h2, h3]
        · simp [h, h2, h3]
      · have h4 : ¬ Lib.indexByte l b + 1 = -1 := by omega
        simp [h, h2, h4]
theorem indexByte_list (l : List UInt8) (b : UInt8) : Lib.indexByte l b = fst (fun i => ((l.getD i 0).toNat : Int)) b.toNat l.length := by
  obtain ⟨r, rfl⟩ : ∃ r : List UInt8, l = r.reverse := ⟨l.reverse, by simp⟩
  induction r with
  | nil => rfl
  | cons a r ih =>
    rw [List.reverse_cons, indexByte_snoc, ih, List.length_append, List.length_singleton]
    generalize r.reverse = l
    have e : fst (fun i => (((l ++ [a]).getD i 0).toNat : Int)) b.toNat l.length = fst (fun i => ((l.getD i 0).toNat : Int)) b.toNat l.length := fst_congr fun i hi => by
      rw [List.getD_eq_getElem?_getD, List.getElem?_append_left hi, ← List.getD_eq_getElem?_getD]
    have ha : (((l ++ [a]).getD l.length 0).toNat : Int) = (a.toNat : Int) := by simp [List.getD_eq_getElem?_getD]
    show _ = (if 0 ≤ fst (fun i => (((l ++ [a]).getD i 0).toNat : Int)) b.toNat l.length then fst (fun i => (((l ++ [a]).getD i 0).toNat : Int)) b.toNat l.length else if (((l ++ [a]).getD l.length 0).toNat : Int) = (b.toNat : Int) then (l.length : Int) else -1)
    rw [e, ha]
    have hb := fst_bd (fun i => ((l.getD i 0).toNat : Int)) b.toNat l.length
    have hi : ((a.toNat : Int) = (b.toNat : Int)) ↔ a = b := ⟨fun h => UInt8.toNat_inj.1 (by omega), fun h => by rw [h]⟩
    generalize fst (fun i => ((l.getD i 0).toNat : Int)) b.toNat l.length = f at hb
    by_cases h : f = -1
    · rw [if_pos h, if_neg (show ¬ 0 ≤ f by omega)]
      by_cases h2 : a = b
      · rw [if_pos h2, if_pos (hi.2 h2)]
      · rw [if_neg h2, if_neg (fun g => h2 (hi.1 g))]
    · rw [if_neg h, if_pos (show 0 ≤ f by omega)]
theorem indexByte_fst (s : ByteArray) (b : UInt8) : Lib.indexByte s.data.toList b = fst (byteAt s) b.toNat s.size := by
  rw [indexByte_list]
  rw [show s.data.toList.length = s.size by rw [Lib.size_eq]]
  rfl
set_option maxHeartbeats 2000000 in
theorem cut_one (s : ByteArray) (b : UInt8) (hs : s.size ≤ 1000) (w : World) :
    Calls Tryd.prog 68 #[.string s, .string ⟨#[b]⟩] w fun e w' => e = .returned (if 0 ≤ fst (byteAt s) b.toNat s.size then .tuple #[.string (s.extract 0 (fst (byteAt s) b.toNat s.size).toNat), .string (s.extract ((fst (byteAt s) b.toNat s.size).toNat + 1) s.size), .bool true] else .tuple #[.string s, .string ⟨#[]⟩, .bool false]) ∧ Below w.heap.size w w' := by
  have hi := fun w => indexByte_fst s b ▸ (Any.stringslite_Index_one Tryd.lays219 s b w : Calls Tryd.prog 85 _ _ _)
  have hf := fst_bd (byteAt s) b.toNat s.size
  generalize fst (byteAt s) b.toNat s.size = f at hi hf ⊢
  by_cases h : 0 ≤ f
  · rw [if_pos h]
    obtain ⟨i, rfl⟩ := Int.eq_ofNat_of_zero_le h
    go_enter Tryd.func68, Tryd.ntmps68
    go_wp2_with (go_at_call 85; refine (hi _).mono ?_; rintro e w' ⟨rfl, rfl⟩)
    have w1 : IntKind.i64.wrap ((i : Int) + 1) = (i : Int) + 1 := IntWalk.i64_in _ (by omega)
    have hm1 : (i : Int) ≤ (s.size : Int) := by omega
    have hm2 : (i : Int) + 1 ≤ (s.size : Int) := by omega
    go_region
    go_wp2_with fail
    exact bodyPost_ret (v := .tuple #[.string (s.extract 0 i), .string (s.extract (i + 1) s.size), .bool true]) (by simp [results, Tryd.results68, go_sem]) rfl ⟨by simp, bD1 (Below.refl _ _)⟩
  · rw [if_neg h]
    go_enter Tryd.func68, Tryd.ntmps68
    go_wp2_with (go_at_call 85; refine (hi _).mono ?_; rintro e w' ⟨rfl, rfl⟩)
    exact bodyPost_ret (v := .tuple #[.string s, .string ⟨#[]⟩, .bool false]) (by simp [results, Tryd.results68, go_sem]) rfl ⟨rfl, Below.refl _ _⟩
theorem scut_any (s : ByteArray) (b : UInt8) (hs : s.size ≤ 1000) (w : World) :
    Calls Tryd.prog 50 #[.string s, .string ⟨#[b]⟩] w fun e w' => e = .returned (if 0 ≤ fst (byteAt s) b.toNat s.size then .tuple #[.string (s.extract 0 (fst (byteAt s) b.toNat s.size).toNat), .string (s.extract ((fst (byteAt s) b.toNat s.size).toNat + 1) s.size), .bool true] else .tuple #[.string s, .string ⟨#[]⟩, .bool false]) ∧ Below w.heap.size w w' := by
  have hc := fun w => cut_one s b hs w
  generalize fst (byteAt s) b.toNat s.size = f at hc ⊢
  by_cases h : 0 ≤ f
  · rw [if_pos h]
    simp only [if_pos h] at hc
    go_enter Tryd.func50, Tryd.ntmps50
    go_wp2_with (go_at_call 68; refine (hc _).mono ?_; rintro e w' ⟨rfl, hb⟩)
    exact bodyPost_ret (v := .tuple #[.string (s.extract 0 f.toNat), .string (s.extract (f.toNat + 1) s.size), .bool true]) (by simp [results, Tryd.results50, go_sem]) rfl ⟨rfl, hb⟩
  · rw [if_neg h]
    simp only [if_neg h] at hc
    go_enter Tryd.func50, Tryd.ntmps50
    go_wp2_with (go_at_call 68; refine (hc _).mono ?_; rintro e w' ⟨rfl, hb⟩)
    exact bodyPost_ret (v := .tuple #[.string s, .string ⟨#[]⟩, .bool false]) (by simp [results, Tryd.results50, go_sem]) rfl ⟨rfl, hb⟩
/-- a minus stands in front -/
def neg (s : ByteArray) : Bool := decide (0 < s.size ∧ byteAt s 0 = 45)
/-- what stands behind it -/
def bdy (s : ByteArray) : ByteArray := if neg s = true then s.extract 1 s.size else s
theorem hasPrefix_neg (s : ByteArray) : Lib.hasPrefix s.data.toList [45] = neg s := by
  unfold neg byteAt
  have hz : s.size = s.data.toList.length := Lib.size_eq s
  rw [hz]
  cases h : s.data.toList with
  | nil => rfl
  | cons a l =>
    show ((45 : UInt8) == a && [].isPrefixOf l) = _
    by_cases ha : a = 45
    · subst ha; simp
    · have : ¬ ((a.toNat : Int) = 45) := fun e => ha (UInt8.toNat_inj.1 (by simpa using (show a.toNat = 45 by omega)))
      simp [this, Ne.symm ha]
theorem trim_bdy (s : ByteArray) : (⟨(Lib.trimPrefix s.data.toList [45]).toArray⟩ : ByteArray) = bdy s := by
  unfold Lib.trimPrefix bdy
  rw [hasPrefix_neg]
  by_cases h : neg s = true
  · rw [if_pos h, if_pos h]
    apply ByteArray.ext
    rw [ByteArray.data_extract]
    show (s.data.toList.drop 1).toArray = s.data.extract 1 s.size
    apply Array.ext'
    simp [Array.toList_extract, List.extract]
    rw [List.take_of_length_le]
    rw [List.length_tail, Lib.size_eq]
    exact Nat.le_refl _
  · rw [if_neg h, if_neg h]
theorem prefix_any (s : ByteArray) (w : World) :
    Calls Tryd.prog 23 #[.string s, .string ⟨#[45]⟩] w fun e w' => e = .returned (.tuple #[.string (bdy s), .bool (neg s)]) ∧ w' = w := by
  have h : Calls Tryd.prog 23 _ _ _ := Any.strings_CutPrefix Tryd.lays103 s ⟨#[45]⟩ w
  rwa [show ((⟨#[45]⟩ : ByteArray).data.toList) = [45] from rfl, hasPrefix_neg, trim_bdy] at h
/-- the fraction N / D in lowest terms: numerator, denominator, code -/
def qn (N D : Int) : Int := rnum (decide (N < 0)) N.natAbs D.natAbs
def qd (N D : Int) : Int := rden N.natAbs D.natAbs
def qe (N D : Int) : Int := rerr N.natAbs D.natAbs
theorem valid_iff (n d : Int) : Frac.valid n d = true ↔ 1 ≤ d ∧ d ≤ 1152921504606846976 ∧ -1152921504606846976 ≤ n ∧ n ≤ 1152921504606846976 ∧ Nat.gcd n.natAbs d.natAbs = 1 := by
  unfold Frac.valid
  simp only [Bool.and_eq_true, decide_eq_true_eq, beq_iff_eq]
  constructor
  · rintro ⟨⟨⟨⟨a, b⟩, c⟩, d⟩, e⟩; exact ⟨a, b, c, d, e⟩
  · rintro ⟨a, b, c, d, e⟩; exact ⟨⟨⟨⟨a, b⟩, c⟩, d⟩, e⟩
/-- where it fits: the fraction is valid, and it denotes N / D -/
theorem q_ok (N D : Int) (hD : 0 < D) (he : qe N D = 0) : Frac.valid (qn N D) (qd N D) = true ∧ qn N D * D = N * qd N D := by
  unfold qe rerr at he
  unfold qn qd rnum rden
  have hf : Frac.fit N.natAbs D.natAbs = true := by
    by_cases h : Frac.fit N.natAbs D.natAbs = true
    · exact h
    · rw [if_neg h] at he; omega
  rw [if_pos hf, if_pos hf]
  unfold Frac.fit at hf
  simp only [Bool.and_eq_true, decide_eq_true_eq] at hf
  unfold Frac.M at hf
  obtain ⟨g, hg⟩ : ∃ g, Nat.gcd N.natAbs D.natAbs = g := ⟨_, rfl⟩
  have g0 : 0 < g := by rw [← hg]; exact Nat.gcd_pos_of_pos_right _ (by omega)
  obtain ⟨x, hx⟩ : g ∣ N.natAbs := by rw [← hg]; exact Nat.gcd_dvd_left _ _
  obtain ⟨y, hy⟩ : g ∣ D.natAbs := by rw [← hg]; exact Nat.gcd_dvd_right _ _
  have hc : Nat.gcd x y = 1 := by
    have h1 : Nat.gcd (g * x) (g * y) = g := by rw [← hx, ← hy]; exact hg
    rw [Nat.gcd_mul_left] at h1
    exact Nat.eq_of_mul_eq_mul_left g0 (by omega)
  have hnx : N.natAbs / g = x := by rw [hx]; exact Nat.mul_div_cancel_left _ g0
  have hny : D.natAbs / g = y := by rw [hy]; exact Nat.mul_div_cancel_left _ g0
  rw [hg, hnx, hny] at hf
  have y0 : 0 < y := by
    rcases Nat.eq_zero_or_pos y with h | h
    · subst h; omega
    · exact h
  unfold Frac.num Frac.den
  rw [hg, hnx, hny]
  have hDg : D = (g : Int) * (y : Int) := by rw [← Int.natCast_mul, ← hy]; omega
  by_cases hn : N < 0
  · rw [decide_eq_true hn]
    simp only [if_true]
    have hNg : N = -((g : Int) * (x : Int)) := by rw [← Int.natCast_mul, ← hx]; omega
    refine ⟨(valid_iff _ _).2 ⟨by omega, by omega, by omega, by omega, ?_⟩, ?_⟩
    · rw [Int.natAbs_neg, Int.natAbs_natCast, Int.natAbs_natCast]; exact hc
    · rw [hDg, hNg]
      simp only [Int.neg_mul]
      rw [← Int.mul_assoc, Int.mul_comm (x : Int) (g : Int)]
  · rw [decide_eq_false hn]
    simp only [Bool.false_eq_true, if_false]
    have hNg : N = ((g : Int) * (x : Int)) := by rw [← Int.natCast_mul, ← hx]; omega
    refine ⟨(valid_iff _ _).2 ⟨by omega, by omega, by omega, by omega, ?_⟩, ?_⟩
    · rw [Int.natAbs_natCast, Int.natAbs_natCast]; exact hc
    · rw [hDg, hNg]
      rw [← Int.mul_assoc, Int.mul_comm (x : Int) (g : Int)]
theorem q_fits (N D : Int) (h0 : -1152921504606846976 ≤ N) (h1 : N ≤ 1152921504606846976) (h2 : D ≤ 1152921504606846976) (h3 : 0 < D) : qe N D = 0 := by
  unfold qe rerr
  have a := Nat.div_le_self N.natAbs (Nat.gcd N.natAbs D.natAbs)
  have b := Nat.div_le_self D.natAbs (Nat.gcd N.natAbs D.natAbs)
  rw [if_pos]
  unfold Frac.fit Frac.M
  rw [decide_eq_true (show N.natAbs / Nat.gcd N.natAbs D.natAbs ≤ 1152921504606846976 by omega), decide_eq_true (show D.natAbs / Nat.gcd N.natAbs D.natAbs ≤ 1152921504606846976 by omega)]
  rfl
theorem coprime_eq {a b c d : Nat} (h1 : Nat.gcd a b = 1) (h2 : Nat.gcd c d = 1) (hb : 0 < b) (hd : 0 < d) (h : a * d = c * b) : a = c ∧ b = d := by
  have k1 : b ∣ d := (Nat.Coprime.symm (show Nat.Coprime a b from h1)).dvd_of_dvd_mul_left (by rw [h]; exact Nat.dvd_mul_left _ _)
  have k2 : d ∣ b := (Nat.Coprime.symm (show Nat.Coprime c d from h2)).dvd_of_dvd_mul_left (by rw [← h]; exact Nat.dvd_mul_left _ _)
  have e : b = d := Nat.dvd_antisymm k1 k2
  subst e
  exact ⟨Nat.eq_of_mul_eq_mul_right hb h, rfl⟩
/-- valid fractions that denote one number are one fraction -/
theorem valid_eq {a b c d : Int} (h1 : Frac.valid a b = true) (h2 : Frac.valid c d = true) (h : a * d = c * b) : a = c ∧ b = d := by
  obtain ⟨b1, -, -, -, g1⟩ := (valid_iff a b).1 h1
  obtain ⟨d1, -, -, -, g2⟩ := (valid_iff c d).1 h2
  have hn : a.natAbs * d.natAbs = c.natAbs * b.natAbs := by rw [← Int.natAbs_mul, ← Int.natAbs_mul, h]
  obtain ⟨e1, e2⟩ := coprime_eq g1 g2 (by omega) (by omega) hn
  have e3 : b = d := by omega
  subst e3
  exact ⟨Int.eq_of_mul_eq_mul_right (by omega) h, rfl⟩
/-- a valid fraction is its own lowest terms -/
theorem q_self {a b : Int} (h : Frac.valid a b = true) : qn a b = a ∧ qd a b = b ∧ qe a b = 0 := by
  obtain ⟨b1, b2, a1, a2, g⟩ := (valid_iff a b).1 h
  have he := q_fits a b a1 a2 b2 (by omega)
  obtain ⟨v, e⟩ := q_ok a b (by omega) he
  obtain ⟨x, y⟩ := valid_eq v h e
  exact ⟨x, y, he⟩
/-- the valid fraction p / q denotes N / D, and how great N and D may be -/
structure Q (p q N D : Int) (A B : Nat) : Prop where
  v : Frac.valid p q = true
  e : p * D = N * q
  d : 0 < D
  n : N.natAbs ≤ A
  m : D.natAbs ≤ B
theorem Q.of {N D : Int} {A B : Nat} (d : 0 < D) (n : N.natAbs ≤ A) (m : D.natAbs ≤ B) (hA : A ≤ 1152921504606846976) (hB : B ≤ 1152921504606846976) : Q (qn N D) (qd N D) N D A B ∧ qe N D = 0 := by
  have he := q_fits N D (by omega) (by omega) (by omega) d
  obtain ⟨v, e⟩ := q_ok N D d he
  exact ⟨⟨v, e, d, n, m⟩, he⟩
theorem Q.den {p q N D : Int} {A B : Nat} (h : Q p q N D A B) : 0 < q := by have := ((valid_iff p q).1 h.v).1; omega
theorem ret3 {a b c a' b' c' : Int} (h : a = a' ∧ b = b' ∧ c = c') : Ending.returned (.tuple #[.agg #[.int .i64 a, .int .i64 b], .int .i64 c]) = .returned (.tuple #[.agg #[.int .i64 a', .int .i64 b'], .int .i64 c']) := by rw [h.1, h.2.1, h.2.2]
section
variable {w wr w' : World} {ah al bh bl qh ql rh rl : Int}
end
/-- the memory of the reference's divisor: its two numbers and its result -/
structure GP (w : World) (ih il jh jl : Int) (wr : World) : Prop where
  b0 : Blk wr w.heap.size 46 #[.int .u64 ih, .int .u64 il]
  b1 : Blk wr (w.heap.size + 1) 46 #[.int .u64 jh, .int .u64 jl]
  b2 : Blk wr (w.heap.size + 1 + 1) 46 #[.int .u64 0, .int .u64 0]
  hb : Below w.heap.size w wr
theorem GP.later {w wr w' : World} {ih il jh jl : Int} (h : GP w ih il jh jl wr) (hb : Below wr.heap.size wr w') : GP w ih il jh jl w' := ⟨h.b0.later hb, h.b1.later hb, h.b2.later hb, bTr h.hb hb⟩
def slN (t : ByteArray) : Int := fst (byteAt t) 47 t.size
def ptN (t : ByteArray) : Int := fst (byteAt t) 46 t.size
/-- the form of a text without a sign: 0 a fraction, 1 an integer, 2 a decimal, 3 none, 4 a fraction over 0 -/
def frm (t : ByteArray) : Nat :=
  if 0 ≤ slN t then
    if (nOk (t.extract 0 (slN t).toNat) 19 && nOk (t.extract ((slN t).toNat + 1) t.size) 19) = true then
      if nV (t.extract ((slN t).toNat + 1) t.size) 19 = 0 then 4 else 0
    else 3
  else if 0 ≤ ptN t then
    if (nOk (t.extract 0 (ptN t).toNat) 19 && nOk (t.extract ((ptN t).toNat + 1) t.size) 9) = true then 2 else 3
  else if nOk t 19 = true then 1 else 3
/-- its numerator -/
def pnum (t : ByteArray) : Int :=
  if frm t = 0 then nV (t.extract 0 (slN t).toNat) 19
  else if frm t = 1 then nV t 19
  else nV (t.extract 0 (ptN t).toNat) 19 * 10 ^ (t.size - ((ptN t).toNat + 1)) + nV (t.extract ((ptN t).toNat + 1) t.size) 9
/-- its denominator -/
def pden (t : ByteArray) : Int :=
  if frm t = 0 then nV (t.extract ((slN t).toNat + 1) t.size) 19
  else if frm t = 1 then 1 else 10 ^ (t.size - ((ptN t).toNat + 1))
/-- what Parse answers -/
def parN (s : ByteArray) : Int := if frm (bdy s) ≤ 2 then qn (Rep.sgn (neg s) (pnum (bdy s))) (pden (bdy s)) else 0
def parD (s : ByteArray) : Int := if frm (bdy s) ≤ 2 then qd (Rep.sgn (neg s) (pnum (bdy s))) (pden (bdy s)) else 0
def parE (s : ByteArray) : Int := if frm (bdy s) ≤ 2 then qe (Rep.sgn (neg s) (pnum (bdy s))) (pden (bdy s)) else if frm (bdy s) = 3 then 7 else 2
theorem nV_bd (s : ByteArray) {m : Int} (hm : m ≤ 19) : 0 ≤ nV s m ∧ nV s m < 10000000000000000000 := by
  unfold nV
  split
  · rename_i h
    unfold nOk at h
    rw [Bool.and_eq_true, decide_eq_true_eq] at h
    have := dv_bd s.size h.2
    have := ten_le (show s.size ≤ 19 by omega)
    omega
  · omega
theorem bdy_size (s : ByteArray) : (bdy s).size ≤ s.size := by
  unfold bdy
  split
  · rw [ByteArray.size_extract]; omega
  · omega
theorem frm_sl {t : ByteArray} {i : Nat} {va vd : Int} {oa od : Bool} (h : slN t = i) (e1 : nV (t.extract 0 i) 19 = va) (e2 : nV (t.extract (i + 1) t.size) 19 = vd) (e3 : nOk (t.extract 0 i) 19 = oa) (e4 : nOk (t.extract (i + 1) t.size) 19 = od) :
    ((oa && od) = false → frm t = 3) ∧ ((oa && od) = true → vd = 0 → frm t = 4) ∧ ((oa && od) = true → ¬ vd = 0 → frm t = 0 ∧ pnum t = va ∧ pden t = vd) := by
  have hf : frm t = if (oa && od) = true then if vd = 0 then 4 else 0 else 3 := by
    unfold frm
    rw [h, if_pos (Int.natCast_nonneg i), Int.toNat_natCast, e2, e3, e4]
  refine ⟨fun a => by rw [hf, if_neg (by rw [a]; simp)], fun a b => by rw [hf, if_pos a, if_pos b], fun a b => ?_⟩
  have h0 : frm t = 0 := by rw [hf, if_pos a, if_neg b]
  unfold pnum pden
  rw [if_pos h0, if_pos h0, h, Int.toNat_natCast, e1, e2]
  exact ⟨h0, rfl, rfl⟩
theorem frm_int {t : ByteArray} {va : Int} {oa : Bool} (h : slN t < 0) (h2 : ptN t < 0) (e1 : nV t 19 = va) (e3 : nOk t 19 = oa) :
    (oa = false → frm t = 3) ∧ (oa = true → frm t = 1 ∧ pnum t = va ∧ pden t = 1) := by
  have hf : frm t = if oa = true then 1 else 3 := by
    unfold frm
    rw [if_neg (by omega), if_neg (by omega), e3]
  refine ⟨fun a => by rw [hf, if_neg (by rw [a]; simp)], fun a => ?_⟩
  have h1 : frm t = 1 := by rw [hf, if_pos a]
  unfold pnum pden
  rw [if_neg (by omega), if_pos h1, if_neg (by omega), if_pos h1, e1]
  exact ⟨h1, rfl, rfl⟩
theorem frm_pt {t : ByteArray} {i : Nat} {va vd : Int} {oa od : Bool} (h : slN t < 0) (h2 : ptN t = i) (e1 : nV (t.extract 0 i) 19 = va) (e2 : nV (t.extract (i + 1) t.size) 9 = vd) (e3 : nOk (t.extract 0 i) 19 = oa) (e4 : nOk (t.extract (i + 1) t.size) 9 = od) :
    ((oa && od) = false → frm t = 3) ∧ ((oa && od) = true → frm t = 2 ∧ pnum t = va * 10 ^ (t.size - (i + 1)) + vd ∧ pden t = 10 ^ (t.size - (i + 1))) := by
  have hf : frm t = if (oa && od) = true then 2 else 3 := by
    unfold frm
    rw [if_neg (by omega), h2, if_pos (Int.natCast_nonneg i), Int.toNat_natCast, e3, e4]
  refine ⟨fun a => by rw [hf, if_neg (by rw [a]; simp)], fun a => ?_⟩
  have h1 : frm t = 2 := by rw [hf, if_pos a]
  unfold pnum pden
  rw [if_neg (by omega), if_neg (by omega), if_neg (by omega), if_neg (by omega), h2, Int.toNat_natCast, e1, e2]
  exact ⟨h1, rfl, rfl⟩
theorem par_ok {f : Nat} {a b c rn rd re : Int} (h : f ≤ 2) (h1 : rn = if f ≤ 2 then a else 0) (h2 : rd = if f ≤ 2 then b else 0) (h3 : re = if f ≤ 2 then c else if f = 3 then 7 else 2) : a = rn ∧ b = rd ∧ c = re := by rw [if_pos h] at h1 h2 h3; exact ⟨h1.symm, h2.symm, h3.symm⟩
def fcE (a b : ByteArray) : Int := if (nOk a 19 && nOk b 19) = true then (if nV b 19 = 0 then 2 else 0) else 7
def fcN (a b : ByteArray) : Int := if fcE a b = 0 then nV a 19 else 0
def fcD (a b : ByteArray) : Int := if fcE a b = 0 then nV b 19 else 0
theorem ret_pm {a b c d a' b' c' d' : Int} (h1 : a = a') (h2 : b = b') (h3 : c = c') (h4 : d = d') : Ending.returned (.tuple #[.agg #[.int .u64 a, .int .u64 b], .int .u64 c, .int .i64 d]) = .returned (.tuple #[.agg #[.int .u64 a', .int .u64 b'], .int .u64 c', .int .i64 d']) := by rw [h1, h2, h3, h4]
set_option maxRecDepth 100000 in
set_option maxHeartbeats 4000000 in
theorem fraction_any (a b : ByteArray) (ha : a.size ≤ 1000) (hb : b.size ≤ 1000) (w : World) :
    Calls Tryd.prog 51 #[.string a, .string b] w fun e w' => e = .returned (.tuple #[.agg #[.int .u64 (Rep.hi (fcN a b)), .int .u64 (Rep.lo (fcN a b))], .int .u64 (fcD a b), .int .i64 (fcE a b)]) ∧ Below w.heap.size w w' := by
  have na := nV_bd a (show (19 : Int) ≤ 19 by omega)
  have nb := nV_bd b (show (19 : Int) ≤ 19 by omega)
  have NA := Lib.hid (fun w => parsed_any a 19 (by omega) (by unfold maxLen; omega) w)
  have NB := Lib.hid (fun w => parsed_any b 19 (by omega) (by unfold maxLen; omega) w)
  have HE := Lib.hid (show fcE a b = if (nOk a 19 && nOk b 19) = true then (if nV b 19 = 0 then 2 else 0) else 7 from rfl)
  have HN := Lib.hid (show fcN a b = if fcE a b = 0 then nV a 19 else 0 from rfl)
  have HD := Lib.hid (show fcD a b = if fcE a b = 0 then nV b 19 else 0 from rfl)
  obtain ⟨va, hva⟩ : ∃ v, nV a 19 = v := ⟨_, rfl⟩
  obtain ⟨vb, hvb⟩ : ∃ v, nV b 19 = v := ⟨_, rfl⟩
  obtain ⟨oa, hoa⟩ : ∃ v, nOk a 19 = v := ⟨_, rfl⟩
  obtain ⟨ob, hob⟩ : ∃ v, nOk b 19 = v := ⟨_, rfl⟩
  simp only [hva, hvb, hoa, hob] at na nb NA NB HE HN HD
  clear hva hvb hoa hob
  go_enter Tryd.func51, Tryd.ntmps51
  go_wp2_with fail
  refine (NA.out _).mono ?_
  rintro e w1 ⟨rfl, hb1⟩
  have B0 : Blk (w.alloc (.cells #[.int .u64 0, .int .u64 0] 50)) w.heap.size 50 #[.int .u64 0, .int .u64 0] := Blk.newAt rfl
  have HB1 := Lib.hid (And.intro (B0.later hb1) (bTr (bAl (Below.refl w.heap.size w) (.cells #[.int .u64 0, .int .u64 0] 50)) hb1))
  clear hb1 NA B0
  cases oa
  · have H7 := Lib.hid (show fcE a b = 7 by rw [HE.out, if_neg (by simp)])
    have HN0 := Lib.hid (show fcN a b = 0 by rw [HN.out, H7.out, if_neg (by omega)])
    have HD0 := Lib.hid (show fcD a b = 0 by rw [HD.out, H7.out, if_neg (by omega)])
    obtain ⟨⟨y0, y1⟩, ⟨y2, y3⟩, y4⟩ := HB1.out.1.two
    go_wp2_with fail
    exact bodyPost_ret (v := .tuple #[.agg #[.int .u64 0, .int .u64 0], .int .u64 0, .int .i64 7]) (by simp [results, Tryd.results51, go_sem, y0, y1, y4]) rfl ⟨ret_pm (by rw [HN0.out]; unfold Rep.hi; omega) (by rw [HN0.out]; unfold Rep.lo; omega) HD0.out.symm H7.out.symm, bSt (bSt HB1.out.2 (by simp) _) (by simp) _⟩
  · go_wp2_with fail
    refine (NB.out _).mono ?_
    rintro e w2 ⟨rfl, hb2⟩
    have HB2 := Lib.hid (And.intro (HB1.out.1.later hb2) (bTr HB1.out.2 hb2))
    clear hb2 NB HB1
    cases ob
    · have H7 := Lib.hid (show fcE a b = 7 by rw [HE.out, if_neg (by simp)])
      have HN0 := Lib.hid (show fcN a b = 0 by rw [HN.out, H7.out, if_neg (by omega)])
      have HD0 := Lib.hid (show fcD a b = 0 by rw [HD.out, H7.out, if_neg (by omega)])
      obtain ⟨⟨y0, y1⟩, ⟨y2, y3⟩, y4⟩ := HB2.out.1.two
      go_wp2_with fail
      exact bodyPost_ret (v := .tuple #[.agg #[.int .u64 0, .int .u64 0], .int .u64 0, .int .i64 7]) (by simp [results, Tryd.results51, go_sem, y0, y1, y4]) rfl ⟨ret_pm (by rw [HN0.out]; unfold Rep.hi; omega) (by rw [HN0.out]; unfold Rep.lo; omega) HD0.out.symm H7.out.symm, bSt (bSt HB2.out.2 (by simp) _) (by simp) _⟩
    · by_cases h0 : vb = 0
      · have H2 := Lib.hid (show fcE a b = 2 by rw [HE.out, if_pos (by simp), if_pos h0])
        have HN0 := Lib.hid (show fcN a b = 0 by rw [HN.out, H2.out, if_neg (by omega)])
        have HD0 := Lib.hid (show fcD a b = 0 by rw [HD.out, H2.out, if_neg (by omega)])
        subst h0
        obtain ⟨⟨y0, y1⟩, ⟨y2, y3⟩, y4⟩ := HB2.out.1.two
        go_wp2_with fail
        exact bodyPost_ret (v := .tuple #[.agg #[.int .u64 0, .int .u64 0], .int .u64 0, .int .i64 2]) (by simp [results, Tryd.results51, go_sem, y0, y1, y4]) rfl ⟨ret_pm (by rw [HN0.out]; unfold Rep.hi; omega) (by rw [HN0.out]; unfold Rep.lo; omega) HD0.out.symm H2.out.symm, bSt (bSt HB2.out.2 (by simp) _) (by simp) _⟩
      · have H0 := Lib.hid (show fcE a b = 0 by rw [HE.out, if_pos (by simp), if_neg h0])
        have HN0 := Lib.hid (show fcN a b = va by rw [HN.out, H0.out, if_pos rfl])
        have HD0 := Lib.hid (show fcD a b = vb by rw [HD.out, H0.out, if_pos rfl])
        have hbf : (vb == 0) = false := beq_eq_false_iff_ne.2 h0
        obtain ⟨⟨y0, y1⟩, ⟨y2, y3⟩, y4⟩ := HB2.out.1.two
        go_wp2_with fail
        exact bodyPost_ret (v := .tuple #[.agg #[.int .u64 0, .int .u64 va], .int .u64 vb, .int .i64 0]) (by simp [results, Tryd.results51, go_sem, y0, y1, y4]) rfl ⟨ret_pm (by rw [HN0.out]; unfold Rep.hi; omega) (by rw [HN0.out]; unfold Rep.lo; omega) HD0.out.symm H0.out.symm, bSt (bSt HB2.out.2 (by simp) _) (by simp) _⟩
def mE (t : ByteArray) : Int := if frm t ≤ 2 then 0 else if frm t = 3 then 7 else 2
def mN (t : ByteArray) : Int := if frm t ≤ 2 then pnum t else 0
def mD (t : ByteArray) : Int := if frm t ≤ 2 then pden t else 0
theorem m_ok {t : ByteArray} (h : frm t ≤ 2) : mE t = 0 ∧ mN t = pnum t ∧ mD t = pden t := by unfold mE mN mD; rw [if_pos h, if_pos h, if_pos h]; exact ⟨rfl, rfl, rfl⟩
theorem m_no {t : ByteArray} (h : frm t = 3) : mE t = 7 ∧ mN t = 0 ∧ mD t = 0 := by unfold mE mN mD; rw [h]; exact ⟨rfl, rfl, rfl⟩
theorem m_zero {t : ByteArray} (h : frm t = 4) : mE t = 2 ∧ mN t = 0 ∧ mD t = 0 := by unfold mE mN mD; rw [h]; exact ⟨rfl, rfl, rfl⟩
theorem m_frac {t : ByteArray} {i : Nat} (h : slN t = i) : fcE (t.extract 0 i) (t.extract (i + 1) t.size) = mE t ∧ fcN (t.extract 0 i) (t.extract (i + 1) t.size) = mN t ∧ fcD (t.extract 0 i) (t.extract (i + 1) t.size) = mD t := by
  have hf := frm_sl h rfl rfl rfl rfl
  unfold fcN fcD
  have he : fcE (t.extract 0 i) (t.extract (i + 1) t.size) = if (nOk (t.extract 0 i) 19 && nOk (t.extract (i + 1) t.size) 19) = true then (if nV (t.extract (i + 1) t.size) 19 = 0 then 2 else 0) else 7 := rfl
  by_cases ho : (nOk (t.extract 0 i) 19 && nOk (t.extract (i + 1) t.size) 19) = true
  · by_cases h0 : nV (t.extract (i + 1) t.size) 19 = 0
    · obtain ⟨a, b, c⟩ := m_zero (hf.2.1 ho h0)
      rw [if_pos ho, if_pos h0] at he
      rw [he, a, b, c]
      exact ⟨rfl, rfl, rfl⟩
    · obtain ⟨f0, f1, f2⟩ := hf.2.2 ho h0
      obtain ⟨a, b, c⟩ := m_ok (show frm t ≤ 2 by omega)
      rw [if_pos ho, if_neg h0] at he
      rw [he, a, b, c, f1, f2]
      exact ⟨rfl, rfl, rfl⟩
  · obtain ⟨a, b, c⟩ := m_no (hf.1 (by simpa using ho))
    rw [if_neg ho] at he
    rw [he, a, b, c]
    exact ⟨rfl, rfl, rfl⟩
theorem cut_sl (t : ByteArray) (ht : t.size ≤ 1000) (w : World) :
    Calls Tryd.prog 50 #[.string t, .string ⟨#[47]⟩] w fun e w' => e = .returned (if 0 ≤ slN t then .tuple #[.string (t.extract 0 (slN t).toNat), .string (t.extract ((slN t).toNat + 1) t.size), .bool true] else .tuple #[.string t, .string ⟨#[]⟩, .bool false]) ∧ Below w.heap.size w w' := scut_any t 47 ht w
theorem cut_pt (t : ByteArray) (ht : t.size ≤ 1000) (w : World) :
    Calls Tryd.prog 50 #[.string t, .string ⟨#[46]⟩] w fun e w' => e = .returned (if 0 ≤ ptN t then .tuple #[.string (t.extract 0 (ptN t).toNat), .string (t.extract ((ptN t).toNat + 1) t.size), .bool true] else .tuple #[.string t, .string ⟨#[]⟩, .bool false]) ∧ Below w.heap.size w w' := scut_any t 46 ht w
set_option maxRecDepth 100000 in
set_option maxHeartbeats 4000000 in
theorem magnitude_text (t : ByteArray) (ht : t.size ≤ 1000) (w : World) :
    Calls Tryd.prog 24 #[.string t] w fun e w' => e = .returned (.tuple #[.agg #[.int .u64 (Rep.hi (mN t)), .int .u64 (Rep.lo (mN t))], .int .u64 (mD t), .int .i64 (mE t)]) ∧ Below w.heap.size w w' := by
  have hsb := fst_bd (byteAt t) 47 t.size
  have hpb := fst_bd (byteAt t) 46 t.size
  have CS := Lib.hid (fun w => cut_sl t ht w)
  have CP := Lib.hid (fun w => cut_pt t ht w)
  have HS := Lib.hid (show slN t = fst (byteAt t) 47 t.size from rfl)
  have HT := Lib.hid (show ptN t = fst (byteAt t) 46 t.size from rfl)
  rw [HS.out] at CS
  rw [HT.out] at CP
  generalize fst (byteAt t) 47 t.size = sl at hsb HS CS
  generalize fst (byteAt t) 46 t.size = pt at hpb HT CP
  go_enter Tryd.func24, Tryd.ntmps24
  by_cases hsl : 0 ≤ sl
  · obtain ⟨i, rfl⟩ := Int.eq_ofNat_of_zero_le hsl
    simp only [if_pos hsl, Int.toNat_natCast] at CS
    have HM := Lib.hid (m_frac HS.out)
    have FR := Lib.hid (fun w => fraction_any (t.extract 0 i) (t.extract (i + 1) t.size) (by rw [ByteArray.size_extract]; omega) (by rw [ByteArray.size_extract]; omega) w)
    rw [HM.out.1, HM.out.2.1, HM.out.2.2] at FR
    go_wp2_with fail
    refine (CS.out _).mono ?_
    rintro e w1 ⟨rfl, hb⟩
    have B0 : Blk (w.alloc (.cells #[.int .u64 0, .int .u64 0] 50)) w.heap.size 50 #[.int .u64 0, .int .u64 0] := Blk.newAt rfl
    have HB1 := Lib.hid (And.intro (B0.later hb) (bTr (bAl (Below.refl w.heap.size w) (.cells #[.int .u64 0, .int .u64 0] 50)) hb))
    clear hb CS CP B0
    go_wp2_with fail
    refine (FR.out _).mono ?_
    rintro e w2 ⟨rfl, hb⟩
    have HB2 := Lib.hid (And.intro (HB1.out.1.later hb) (bTr HB1.out.2 hb))
    clear hb FR HB1 HM
    obtain ⟨⟨y0, y1⟩, ⟨y2, y3⟩, y4⟩ := HB2.out.1.two
    go_wp2_with fail
    exact bodyPost_ret (v := .tuple #[.agg #[.int .u64 (Rep.hi (mN t)), .int .u64 (Rep.lo (mN t))], .int .u64 (mD t), .int .i64 (mE t)]) (by simp [results, Tryd.results24, go_sem, y0, y1, y4]) rfl ⟨rfl, bSt (bSt HB2.out.2 (by simp) _) (by simp) _⟩
  · simp only [if_neg hsl] at CS
    go_wp2_with fail
    refine (CS.out _).mono ?_
    rintro e w1 ⟨rfl, hb⟩
    have B0 : Blk (w.alloc (.cells #[.int .u64 0, .int .u64 0] 50)) w.heap.size 50 #[.int .u64 0, .int .u64 0] := Blk.newAt rfl
    have HB1 := Lib.hid (And.intro (B0.later hb) (bTr (bAl (Below.refl w.heap.size w) (.cells #[.int .u64 0, .int .u64 0] 50)) hb))
    clear hb CS B0
    go_wp2_with fail
    by_cases hpt : 0 ≤ pt
    · obtain ⟨i, rfl⟩ := Int.eq_ofNat_of_zero_le hpt
      simp only [if_pos hpt, Int.toNat_natCast] at CP
      refine (CP.out _).mono ?_
      rintro e w2 ⟨rfl, hb⟩
      have HB2 := Lib.hid (And.intro (HB1.out.1.later hb) (bTr HB1.out.2 hb))
      clear hb CP HB1
      have ha := nV_bd (t.extract 0 i) (show (19 : Int) ≤ 19 by omega)
      have hd := nV_bd (t.extract (i + 1) t.size) (show (9 : Int) ≤ 19 by omega)
      have hza : (t.extract 0 i).size ≤ 1000 := by rw [ByteArray.size_extract]; omega
      have hzd : (t.extract (i + 1) t.size).size = t.size - (i + 1) := by rw [ByteArray.size_extract]; omega
      have NA := Lib.hid (fun w => parsed_any (t.extract 0 i) 19 (by omega) (by unfold maxLen; omega) w)
      have ND := Lib.hid (fun w => parsed_any (t.extract (i + 1) t.size) 9 (by omega) (by unfold maxLen; omega) w)
      have HL := Lib.hid (show nOk (t.extract (i + 1) t.size) 9 = true → t.size ≤ i + 10 from fun h => by
        unfold nOk at h
        rw [Bool.and_eq_true, decide_eq_true_eq] at h
        omega)
      obtain ⟨va, hva⟩ : ∃ v, nV (t.extract 0 i) 19 = v := ⟨_, rfl⟩
      obtain ⟨vd, hvd⟩ : ∃ v, nV (t.extract (i + 1) t.size) 9 = v := ⟨_, rfl⟩
      obtain ⟨oa, hoa⟩ : ∃ v, nOk (t.extract 0 i) 19 = v := ⟨_, rfl⟩
      obtain ⟨od, hod⟩ : ∃ v, nOk (t.extract (i + 1) t.size) 9 = v := ⟨_, rfl⟩
      have HF := Lib.hid (frm_pt (by rw [HS.out]; omega) HT.out hva hvd hoa hod)
      rw [hva] at ha
      rw [hvd] at hd
      rw [hod] at HL
      simp only [hva, hoa] at NA
      simp only [hvd, hod] at ND
      clear hva hvd hoa hod HS HT
      go_wp2_with fail
      refine (NA.out _).mono ?_
      rintro e w3 ⟨rfl, hb⟩
      have HB3 := Lib.hid (And.intro (HB2.out.1.later hb) (bTr HB2.out.2 hb))
      clear hb NA HB2
      obtain ⟨⟨y0, y1⟩, ⟨y2, y3⟩, y4⟩ := HB3.out.1.two
      cases oa
      · have HM := Lib.hid (m_no (HF.out.1 rfl))
        go_wp2_with fail
        exact bodyPost_ret (v := .tuple #[.agg #[.int .u64 0, .int .u64 0], .int .u64 0, .int .i64 7]) (by simp [results, Tryd.results24, go_sem, y0, y1, y4]) rfl ⟨ret_pm (by rw [HM.out.2.1]; unfold Rep.hi; omega) (by rw [HM.out.2.1]; unfold Rep.lo; omega) HM.out.2.2.symm HM.out.1.symm, bSt (bSt HB3.out.2 (by simp) _) (by simp) _⟩
      · clear y0 y1 y2 y3 y4
        go_wp2_with fail
        refine (ND.out _).mono ?_
        rintro e w4 ⟨rfl, hb⟩
        have HB4 := Lib.hid (And.intro (HB3.out.1.later hb) (bTr HB3.out.2 hb))
        clear hb ND HB3
        obtain ⟨⟨y0, y1⟩, ⟨y2, y3⟩, y4⟩ := HB4.out.1.two
        cases od
        · have HM := Lib.hid (m_no (HF.out.1 rfl))
          go_wp2_with fail
          exact bodyPost_ret (v := .tuple #[.agg #[.int .u64 0, .int .u64 0], .int .u64 0, .int .i64 7]) (by simp [results, Tryd.results24, go_sem, y0, y1, y4]) rfl ⟨ret_pm (by rw [HM.out.2.1]; unfold Rep.hi; omega) (by rw [HM.out.2.1]; unfold Rep.lo; omega) HM.out.2.2.symm HM.out.1.symm, bSt (bSt HB4.out.2 (by simp) _) (by simp) _⟩
        · have hl := HL.out rfl
          obtain ⟨f0, f1, f2⟩ := HF.out.2 rfl
          have HM := Lib.hid (m_ok (show frm t ≤ 2 by omega))
          rw [f1, f2] at HM
          obtain ⟨k, ek⟩ : ∃ k, t.size - (i + 1) = k := ⟨_, rfl⟩
          rw [ek] at hzd HM
          have hk9 : k ≤ 9 := by omega
          have HPW := Lib.hid (fun w => power_any k (by omega) w)
          have htp : (0 : Int) < 10 ^ k := Int.pow_pos (by decide)
          have htk : (10 : Int) ^ k ≤ 1000000000 := by
            have h : (10 : Nat) ^ k ≤ 10 ^ 9 := Nat.pow_le_pow_right (by omega) hk9
            have e : ((10 ^ k : Nat) : Int) = (10 : Int) ^ k := by rw [Int.natCast_pow]; rfl
            rw [← e]
            have h' : (10 : Nat) ^ k ≤ 1000000000 := h
            omega
          generalize (10 : Int) ^ k = T at htp htk HM HPW
          have hM : 0 ≤ va * T ∧ va * T ≤ 10000000000000000000000000000 := by
            refine ⟨Int.mul_nonneg ha.1 (by omega), ?_⟩
            have := Int.mul_le_mul (show va ≤ 10000000000000000000 by omega) htk (by omega) (by omega)
            omega
          have HPR := Lib.hid (fun w => times_any va T ha.1 (by omega) (by omega) (by omega) w)
          generalize va * T = M at hM HPR HM
          have HMV := Rep.val_hi_lo M hM.1 (by omega)
          have hm1 := Rep.hi_bd M
          have hm2 := Rep.lo_bd M
          have HPL := Lib.hid (fun w => plus_any (Rep.hi M) (Rep.lo M) 0 vd w hm1.1 hm2.1 (by omega) hd.1 hm1.2 hm2.2 (by omega) (by omega))
          rw [HMV, show Rep.val 0 vd = vd by unfold Rep.val; omega] at HPL
          have HMM := Lib.hid (And.intro HM.out.1.symm (And.intro HM.out.2.1.symm HM.out.2.2.symm))
          clear f0 f1 f2 HF HM HL y0 y1 y2 y3 y4
          go_wp2_with fail
          refine (HPW.out _).mono ?_
          rintro e w5 ⟨rfl, hb⟩
          have HB5 := Lib.hid (And.intro (HB4.out.1.later hb) (bTr HB4.out.2 hb))
          clear hb HPW HB4
          go_wp2_with fail
          refine (HPR.out _).mono ?_
          rintro e w6 ⟨rfl, hb⟩
          have HB6 := Lib.hid (And.intro (HB5.out.1.later hb) (bTr HB5.out.2 hb))
          clear hb HPR HB5
          go_wp2_with fail
          refine (HPL.out _).mono ?_
          rintro e w7 ⟨rfl, hb⟩
          have HB7 := Lib.hid (And.intro (HB6.out.1.later hb) (bTr HB6.out.2 hb))
          clear hb HPL HB6
          obtain ⟨⟨y0, y1⟩, ⟨y2, y3⟩, y4⟩ := HB7.out.1.two
          go_wp2_with fail
          exact bodyPost_ret (v := .tuple #[.agg #[.int .u64 (Rep.hi (M + vd)), .int .u64 (Rep.lo (M + vd))], .int .u64 T, .int .i64 0]) (by simp [results, Tryd.results24, go_sem, y0, y1, y4]) rfl ⟨ret_pm (by rw [HMM.out.2.1]) (by rw [HMM.out.2.1]) HMM.out.2.2 HMM.out.1, bSt (bSt HB7.out.2 (by simp) _) (by simp) _⟩
    · simp only [if_neg hpt] at CP
      refine (CP.out _).mono ?_
      rintro e w2 ⟨rfl, hb⟩
      have HB2 := Lib.hid (And.intro (HB1.out.1.later hb) (bTr HB1.out.2 hb))
      clear hb CP HB1
      have ha := nV_bd t (show (19 : Int) ≤ 19 by omega)
      have NA := Lib.hid (fun w => parsed_any t 19 (by omega) (by unfold maxLen; omega) w)
      obtain ⟨va, hva⟩ : ∃ v, nV t 19 = v := ⟨_, rfl⟩
      obtain ⟨oa, hoa⟩ : ∃ v, nOk t 19 = v := ⟨_, rfl⟩
      have HF := Lib.hid (frm_int (by rw [HS.out]; omega) (by rw [HT.out]; omega) hva hoa)
      rw [hva] at ha
      simp only [hva, hoa] at NA
      clear hva hoa HS HT
      go_wp2_with fail
      refine (NA.out _).mono ?_
      rintro e w3 ⟨rfl, hb⟩
      have HB3 := Lib.hid (And.intro (HB2.out.1.later hb) (bTr HB2.out.2 hb))
      clear hb NA HB2
      obtain ⟨⟨y0, y1⟩, ⟨y2, y3⟩, y4⟩ := HB3.out.1.two
      cases oa
      · have HM := Lib.hid (m_no (HF.out.1 rfl))
        go_wp2_with fail
        exact bodyPost_ret (v := .tuple #[.agg #[.int .u64 0, .int .u64 0], .int .u64 0, .int .i64 7]) (by simp [results, Tryd.results24, go_sem, y0, y1, y4]) rfl ⟨ret_pm (by rw [HM.out.2.1]; unfold Rep.hi; omega) (by rw [HM.out.2.1]; unfold Rep.lo; omega) HM.out.2.2.symm HM.out.1.symm, bSt (bSt HB3.out.2 (by simp) _) (by simp) _⟩
      · obtain ⟨f0, f1, f2⟩ := HF.out.2 rfl
        have HM := Lib.hid (m_ok (show frm t ≤ 2 by omega))
        rw [f1, f2] at HM
        clear f0 f1 f2 HF
        go_wp2_with fail
        exact bodyPost_ret (v := .tuple #[.agg #[.int .u64 0, .int .u64 va], .int .u64 1, .int .i64 0]) (by simp [results, Tryd.results24, go_sem, y0, y1, y4]) rfl ⟨ret_pm (by rw [HM.out.2.1]; unfold Rep.hi; omega) (by rw [HM.out.2.1]; unfold Rep.lo; omega) HM.out.2.2.symm HM.out.1.symm, bSt (bSt HB3.out.2 (by simp) _) (by simp) _⟩
theorem p_bd {t : ByteArray} (ht : t.size ≤ 1000) (h : frm t ≤ 2) : (0 ≤ pnum t ∧ pnum t < 20000000000000000000000000000) ∧ (0 < pden t ∧ pden t < 18446744073709551616) := by
  by_cases hs : 0 ≤ slN t
  · obtain ⟨i, hi⟩ := Int.eq_ofNat_of_zero_le hs
    have hf := frm_sl hi rfl rfl rfl rfl
    have ha := nV_bd (t.extract 0 i) (show (19 : Int) ≤ 19 by omega)
    have hb := nV_bd (t.extract (i + 1) t.size) (show (19 : Int) ≤ 19 by omega)
    by_cases ho : (nOk (t.extract 0 i) 19 && nOk (t.extract (i + 1) t.size) 19) = true
    · by_cases h0 : nV (t.extract (i + 1) t.size) 19 = 0
      · have := hf.2.1 ho h0; omega
      · obtain ⟨f0, f1, f2⟩ := hf.2.2 ho h0
        rw [f1, f2]
        omega
    · have := hf.1 (by simpa using ho); omega
  · by_cases hp : 0 ≤ ptN t
    · obtain ⟨i, hi⟩ := Int.eq_ofNat_of_zero_le hp
      have hf := frm_pt (by omega) hi rfl rfl rfl rfl
      have ha := nV_bd (t.extract 0 i) (show (19 : Int) ≤ 19 by omega)
      have hb := nV_bd (t.extract (i + 1) t.size) (show (9 : Int) ≤ 19 by omega)
      by_cases ho : (nOk (t.extract 0 i) 19 && nOk (t.extract (i + 1) t.size) 9) = true
      · obtain ⟨f0, f1, f2⟩ := hf.2 ho
        rw [f1, f2]
        have hl : t.size - (i + 1) ≤ 9 := by
          rw [Bool.and_eq_true] at ho
          have h := ho.2
          unfold nOk at h
          rw [Bool.and_eq_true, decide_eq_true_eq, ByteArray.size_extract] at h
          omega
        have htp : (0 : Int) < 10 ^ (t.size - (i + 1)) := Int.pow_pos (by decide)
        have htk : (10 : Int) ^ (t.size - (i + 1)) ≤ 1000000000 := by
          have h : (10 : Nat) ^ (t.size - (i + 1)) ≤ 10 ^ 9 := Nat.pow_le_pow_right (by omega) hl
          have e : ((10 ^ (t.size - (i + 1)) : Nat) : Int) = (10 : Int) ^ (t.size - (i + 1)) := by rw [Int.natCast_pow]; rfl
          rw [← e]
          have h' : (10 : Nat) ^ (t.size - (i + 1)) ≤ 1000000000 := h
          omega
        generalize (10 : Int) ^ (t.size - (i + 1)) = T at htp htk ⊢
        have h1 := Int.mul_nonneg ha.1 (show 0 ≤ T by omega)
        have h2 := Int.mul_le_mul (show nV (t.extract 0 i) 19 ≤ 10000000000000000000 by omega) htk (by omega) (by omega)
        omega
      · have := hf.1 (by simpa using ho); omega
    · have hf := frm_int (by omega) (by omega) (rfl : nV t 19 = nV t 19) (rfl : nOk t 19 = nOk t 19)
      have ha := nV_bd t (show (19 : Int) ≤ 19 by omega)
      cases ho : nOk t 19
      · have := hf.1 ho; omega
      · obtain ⟨f0, f1, f2⟩ := hf.2 ho
        rw [f1, f2]
        omega
theorem q_one {z d : Int} (w : World) (z0 : -20000000000000000000000000000 < z) (z1 : z < 20000000000000000000000000000) (d0 : 0 < d) (d1 : d < 18446744073709551616) :
    Calls Tryd.prog 25 #[.agg #[.int .u64 (Rep.hi z), .int .u64 (Rep.lo z)], .int .u64 d, .int .u64 1] w fun e w' => e = .returned (.tuple #[.agg #[.int .i64 (qn z d), .int .i64 (qd z d)], .int .i64 (qe z d)]) ∧ Below w.heap.size w w' := by
  obtain ⟨n, rfl⟩ := Int.eq_ofNat_of_zero_le (show 0 ≤ d by omega)
  have h := quotient_any z n 1 w (by omega) (by omega) (by omega) (by omega) (by omega) (by omega) (Nat.gcd_one_right _)
  rw [Nat.mul_one] at h
  exact h
theorem sgn_bd {g : Bool} {p : Int} (h : 0 ≤ p ∧ p < 20000000000000000000000000000) : -20000000000000000000000000000 < Rep.sgn g p ∧ Rep.sgn g p < 20000000000000000000000000000 := by cases g <;> simp [Rep.sgn] <;> omega
set_option maxRecDepth 100000 in
set_option maxHeartbeats 4000000 in
theorem parse_any (s : ByteArray) (hs : s.size ≤ 1000) (w : World) :
    Calls Tryd.prog 9 #[.string s] w fun e w' => e = .returned (.tuple #[.agg #[.int .i64 (parN s), .int .i64 (parD s)], .int .i64 (parE s)]) ∧ Below w.heap.size w w' := by
  have hbs := bdy_size s
  have PX := Lib.hid (fun w => prefix_any s w)
  have MX := Lib.hid (fun w => magnitude_text (bdy s) (by omega) w)
  have HPN := Lib.hid (show parN s = if frm (bdy s) ≤ 2 then qn (Rep.sgn (neg s) (pnum (bdy s))) (pden (bdy s)) else 0 from rfl)
  have HPD := Lib.hid (show parD s = if frm (bdy s) ≤ 2 then qd (Rep.sgn (neg s) (pnum (bdy s))) (pden (bdy s)) else 0 from rfl)
  have HPE := Lib.hid (show parE s = if frm (bdy s) ≤ 2 then qe (Rep.sgn (neg s) (pnum (bdy s))) (pden (bdy s)) else if frm (bdy s) = 3 then 7 else 2 from rfl)
  have B0 : Hid (Blk (w.alloc (.cells #[.int .i64 0, .int .i64 0] 24)) w.heap.size 24 #[.int .i64 0, .int .i64 0] ∧ Below w.heap.size w (w.alloc (.cells #[.int .i64 0, .int .i64 0] 24))) := Lib.hid ⟨Blk.newAt rfl, bAl (Below.refl w.heap.size w) _⟩
  by_cases h2 : frm (bdy s) ≤ 2
  · obtain ⟨m0, m1, m2⟩ := m_ok h2
    have hp := p_bd (show (bdy s).size ≤ 1000 by omega) h2
    have HP := Lib.hid (par_ok h2 HPN.out HPD.out HPE.out)
    simp only [m0, m1, m2] at MX
    have hg := sgn_bd (g := neg s) hp.1
    have QX := Lib.hid (fun w => q_one (z := Rep.sgn (neg s) (pnum (bdy s))) (d := pden (bdy s)) w hg.1 hg.2 hp.2.1 hp.2.2)
    simp only [HP.out.1, HP.out.2.1, HP.out.2.2] at QX
    have SX := Lib.hid (fun w => signed_any (neg s) (Rep.hi (pnum (bdy s))) (Rep.lo (pnum (bdy s))) w (Rep.hi_bd _).1 (Rep.lo_bd _).1 (Rep.hi_bd _).2 (Rep.lo_bd _).2)
    simp only [Rep.val_hi_lo (pnum (bdy s)) hp.1.1 (by omega)] at SX
    clear HP HPN HPD HPE m0 m1 m2 hg hp h2
    generalize Rep.sgn (neg s) (pnum (bdy s)) = z at QX SX
    go_enter Tryd.func9, Tryd.ntmps9
    go_wp2_with fail
    refine (PX.out _).mono ?_
    rintro e w1 ⟨rfl, hw⟩
    obtain rfl := hw
    go_wp2_with fail
    refine (MX.out _).mono ?_
    rintro e w2 ⟨rfl, hb⟩
    have HB2 := Lib.hid (And.intro (B0.out.1.later hb) (bTr B0.out.2 hb))
    clear hb B0 MX PX
    go_wp2_with fail
    refine (SX.out _).mono ?_
    rintro e w3 ⟨rfl, hb⟩
    have HB3 := Lib.hid (And.intro ((HB2.out.1.alloc _).later hb) (bTr (bAl HB2.out.2 _) hb))
    clear hb SX HB2
    go_wp2_with fail
    refine (QX.out _).mono ?_
    rintro e w4 ⟨rfl, hb⟩
    have HB4 := Lib.hid (And.intro (HB3.out.1.later hb) (bTr HB3.out.2 hb))
    clear hb QX HB3
    obtain ⟨⟨y0, y1⟩, ⟨y2, y3⟩, y4⟩ := HB4.out.1.two
    go_wp2_with fail
    exact bodyPost_ret (v := .tuple #[.agg #[.int .i64 (parN s), .int .i64 (parD s)], .int .i64 (parE s)]) (by simp [results, Tryd.results9, go_sem, y0, y1, y4]) rfl ⟨rfl, bSt (bSt HB4.out.2 (by simp) _) (by simp) _⟩
  · have HE : Hid (parN s = 0 ∧ parD s = 0 ∧ parE s = mE (bdy s)) := Lib.hid ⟨by rw [HPN.out, if_neg h2], by rw [HPD.out, if_neg h2], by rw [HPE.out, if_neg h2]; unfold mE; rw [if_neg h2]⟩
    have hne : ¬ mE (bdy s) = 0 := by unfold mE; rw [if_neg h2]; split <;> omega
    have hbf : (mE (bdy s) == 0) = false := beq_eq_false_iff_ne.2 hne
    have hbf2 : (mE (bdy s) != 0) = true := by simp [bne, hbf]
    clear HPN HPD HPE h2
    generalize mE (bdy s) = c at MX HE hne hbf hbf2
    go_enter Tryd.func9, Tryd.ntmps9
    go_wp2_with fail
    refine (PX.out _).mono ?_
    rintro e w1 ⟨rfl, hw⟩
    obtain rfl := hw
    go_wp2_with fail
    refine (MX.out _).mono ?_
    rintro e w2 ⟨rfl, hb⟩
    have HB2 := Lib.hid (And.intro (B0.out.1.later hb) (bTr B0.out.2 hb))
    clear hb B0 MX PX
    obtain ⟨⟨y0, y1⟩, ⟨y2, y3⟩, y4⟩ := HB2.out.1.two
    go_wp2_with fail
    exact bodyPost_ret (v := .tuple #[.agg #[.int .i64 0, .int .i64 0], .int .i64 c]) (by simp [results, Tryd.results9, go_sem, y0, y1, y4]) rfl ⟨ret3 ⟨HE.out.1.symm, HE.out.2.1.symm, HE.out.2.2.symm⟩, bAl (bSt (bSt HB2.out.2 (by simp) _) (by simp) _) _⟩
end Go.Proofs.YtjdldkafghblmaaDoor
