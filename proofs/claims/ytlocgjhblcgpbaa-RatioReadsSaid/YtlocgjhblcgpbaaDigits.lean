/-
  Numbers read out of digits: the program's and the reference's reader are one.
-/
import Derived.Test.YtlocgjhblcgpbaaNums
import Derived.LoopN
namespace Go.Proofs.Ytlocgjhblcgpbaa
open Go.RowKit
set_option linter.unusedSimpArgs false
set_option linter.unusedVariables false

/-- the byte at place i, 0 past the end -/
def byteAt (s : ByteArray) (i : Nat) : Int := ((s.data.toList.getD i 0).toNat : Int)
theorem byteAt_bd (s : ByteArray) (i : Nat) : 0 ≤ byteAt s i ∧ byteAt s i < 256 := by
  unfold byteAt
  have := (s.data.toList.getD i 0).toNat_lt
  omega
theorem byteAt_at (s : ByteArray) (k : Nat) (h : k < s.size) : ((s[k]).toNat : Int) = byteAt s k := by
  unfold byteAt
  have h' : k < s.data.toList.length := by simpa using h
  rw [List.getD_eq_getElem?_getD, List.getElem?_eq_getElem h']
  rfl
/-- the value of the first k digits -/
def dv (c : Nat → Int) : Nat → Int
  | 0 => 0
  | k + 1 => 10 * dv c k + (c k - 48)
/-- the first k are digits -/
def dgs (c : Nat → Int) : Nat → Bool
  | 0 => true
  | k + 1 => dgs c k && decide (48 ≤ c k ∧ c k ≤ 57)
theorem dgs_no {c : Nat → Int} {k n : Nat} (hk : k < n) (h : ¬ (48 ≤ c k ∧ c k ≤ 57)) : dgs c n = false := by
  induction n with
  | zero => omega
  | succ n ih =>
    show (dgs c n && decide (48 ≤ c n ∧ c n ≤ 57)) = false
    rcases Nat.lt_or_ge k n with g | g
    · rw [ih g]; rfl
    · obtain rfl : k = n := by omega
      rw [decide_eq_false h, Bool.and_false]
theorem dv_bd {c : Nat → Int} (k : Nat) (h : dgs c k = true) : 0 ≤ dv c k ∧ dv c k < 10 ^ k := by
  induction k with
  | zero => exact ⟨Int.le_refl 0, by show (0 : Int) < 10 ^ 0; decide⟩
  | succ k ih =>
    have h' : (dgs c k && decide (48 ≤ c k ∧ c k ≤ 57)) = true := h
    rw [Bool.and_eq_true, decide_eq_true_eq] at h'
    have := ih h'.1
    have e : (10 : Int) ^ (k + 1) = 10 ^ k * 10 := Int.pow_succ 10 k
    show 0 ≤ 10 * dv c k + (c k - 48) ∧ 10 * dv c k + (c k - 48) < 10 ^ (k + 1)
    rw [e]
    generalize (10 : Int) ^ k = T at *
    omega
theorem ten_le {k : Nat} (h : k ≤ 19) : (10 : Int) ^ k ≤ 10000000000000000000 := by
  have : (10 : Nat) ^ k ≤ 10 ^ 19 := Nat.pow_le_pow_right (by omega) h
  have e : ((10 ^ k : Nat) : Int) = (10 : Int) ^ k := by rw [Int.natCast_pow]; rfl
  rw [← e]
  have : (10 : Nat) ^ k ≤ 10000000000000000000 := this
  omega
def nOk (s : ByteArray) (m : Int) : Bool := decide (1 ≤ (s.size : Int) ∧ (s.size : Int) ≤ m) && dgs (byteAt s) s.size
def nV (s : ByteArray) (m : Int) : Int := if nOk s m = true then dv (byteAt s) s.size else 0
theorem ret_nv {a b : Int} {x y : Bool} (h : a = b) (k : x = y) : Ending.returned (.tuple #[.int .u64 a, .bool x]) = .returned (.tuple #[.int .u64 b, .bool y]) := by rw [h, k]
set_option maxHeartbeats 2000000 in
theorem number_any (s : ByteArray) (m : Int) (hm : m ≤ 19) (hs : s.size ≤ maxLen) (w : World) :
    Calls Try.prog 67 #[.string s, .int .i64 m] w fun e w' => e = .returned (.tuple #[.int .u64 (nV s m), .bool (nOk s m)]) ∧ Below w.heap.size w w' := by
  by_cases hL : 1 ≤ (s.size : Int) ∧ (s.size : Int) ≤ m
  · have HO := Lib.hid (show nOk s m = dgs (byteAt s) s.size by unfold nOk; rw [decide_eq_true hL]; rfl)
    have HV := Lib.hid (show nV s m = if nOk s m = true then dv (byteAt s) s.size else 0 from rfl)
    obtain ⟨hL1, hL2⟩ := hL
    go_enter Try.func67, Try.ntmps67
    go_wp2_with fail
    go_loopw [6, 7] (fun v i wr => ∃ k : Nat, i = .int .i64 k ∧ k ≤ s.size ∧ v = .int .u64 (dv (byteAt s) k) ∧ Hid (dgs (byteAt s) k = true) ∧ wr = w) (fun _ i _ => s.size - (intOf i).toNat)
    case atStart => exact ⟨0, rfl, Nat.zero_le _, rfl, Lib.hid rfl, rfl⟩
    case round =>
      obtain ⟨k, rfl, hk, rfl, HD, rfl⟩ := hrel
      have hv := dv_bd k HD.out
      by_cases hkn : k < s.size
      · have hkn' : (k : Int) < (s.size : Int) := by omega
        have hx := byteAt_at s k hkn
        have hxb := byteAt_bd s k
        have ht := ten_le (show k + 1 ≤ 19 by omega)
        rw [Int.pow_succ] at ht
        have hv2 : 10 * dv (byteAt s) k + 10 ≤ 10000000000000000000 := by
          generalize (10 : Int) ^ k = T at *
          omega
        have hv0 := hv.1
        have HS := Lib.hid (show dv (byteAt s) (k + 1) = 10 * dv (byteAt s) k + (byteAt s k - 48) from rfl)
        have HDS := Lib.hid (show dgs (byteAt s) (k + 1) = (dgs (byteAt s) k && decide (48 ≤ byteAt s k ∧ byteAt s k ≤ 57)) from rfl)
        have HNO := Lib.hid (fun h => dgs_no (c := byteAt s) hkn h)
        clear ht hv
        generalize byteAt s k = x at hx hxb HS HDS HNO
        generalize dv (byteAt s) k = n at HS hv2 hv0
        by_cases h1 : x < 48
        · have HF := Lib.hid (show nOk s m = false by rw [HO.out]; exact HNO.out (by omega))
          have HV0 := Lib.hid (show nV s m = 0 by rw [HV.out, HF.out]; rfl)
          go_wp2_with fail
          exact bodyPost_ret (v := .tuple #[.int .u64 0, .bool false]) (by simp [results, Try.results67, go_sem]) rfl ⟨ret_nv HV0.out.symm HF.out.symm, Below.refl _ _⟩
        · by_cases h2 : 57 < x
          · have HF := Lib.hid (show nOk s m = false by rw [HO.out]; exact HNO.out (by omega))
            have HV0 := Lib.hid (show nV s m = 0 by rw [HV.out, HF.out]; rfl)
            go_wp2_with fail
            exact bodyPost_ret (v := .tuple #[.int .u64 0, .bool false]) (by simp [results, Try.results67, go_sem]) rfl ⟨ret_nv HV0.out.symm HF.out.symm, Below.refl _ _⟩
          · have HD2 := Lib.hid (show dgs (byteAt s) (k + 1) = true by rw [HDS.out, HD.out, decide_eq_true (show 48 ≤ x ∧ x ≤ 57 by omega)]; rfl)
            have w1 : IntKind.u64.wrap (10 * n) = 10 * n := by rw [IntKind.wrap_u64]; omega
            have w2 : IntKind.u64.wrap (10 * n + (x - 48)) = 10 * n + (x - 48) := by rw [IntKind.wrap_u64]; omega
            go_wp2_with fail
            go_roundw
            case rel => exact ⟨k + 1, by go_num, by omega, by rw [HS.out], HD2, trivial⟩
            case measure => simp [intOf]; omega
      · obtain rfl : k = s.size := by omega
        have HT := Lib.hid (show nOk s m = true by rw [HO.out]; exact HD.out)
        have HV0 := Lib.hid (show nV s m = dv (byteAt s) s.size by rw [HV.out, HT.out]; rfl)
        go_wp2_with fail
        exact bodyPost_ret (v := .tuple #[.int .u64 (dv (byteAt s) s.size), .bool true]) (by simp [results, Try.results67, go_sem]) rfl ⟨ret_nv HV0.out.symm HT.out.symm, Below.refl _ _⟩
  · have HO := Lib.hid (show nOk s m = false by unfold nOk; rw [decide_eq_false hL]; rfl)
    have HV := Lib.hid (show nV s m = 0 by unfold nV; rw [HO.out]; rfl)
    go_enter Try.func67, Try.ntmps67
    by_cases h1 : (s.size : Int) < 1
    · go_wp2_with fail
      exact bodyPost_ret (v := .tuple #[.int .u64 0, .bool false]) (by simp [results, Try.results67, go_sem]) rfl ⟨ret_nv HV.out.symm HO.out.symm, Below.refl _ _⟩
    · have h2 : m < (s.size : Int) := by omega
      go_wp2_with fail
      exact bodyPost_ret (v := .tuple #[.int .u64 0, .bool false]) (by simp [results, Try.results67, go_sem]) rfl ⟨ret_nv HV.out.symm HO.out.symm, Below.refl _ _⟩
set_option maxHeartbeats 2000000 in
theorem parsed_any (s : ByteArray) (m : Int) (hm : m ≤ 19) (hs : s.size ≤ maxLen) (w : World) :
    Calls Try.prog 91 #[.string s, .int .i64 m] w fun e w' => e = .returned (.tuple #[.int .u64 (nV s m), .bool (nOk s m)]) ∧ Below w.heap.size w w' := by
  by_cases hL : 1 ≤ (s.size : Int) ∧ (s.size : Int) ≤ m
  · have HO := Lib.hid (show nOk s m = dgs (byteAt s) s.size by unfold nOk; rw [decide_eq_true hL]; rfl)
    have HV := Lib.hid (show nV s m = if nOk s m = true then dv (byteAt s) s.size else 0 from rfl)
    obtain ⟨hL1, hL2⟩ := hL
    go_enter Try.func91, Try.ntmps91
    go_wp2_with fail
    go_loopw [6, 19] (fun v i wr => ∃ k : Nat, i = .int .i64 k ∧ k ≤ s.size ∧ v = .int .u64 (dv (byteAt s) k) ∧ Hid (dgs (byteAt s) k = true) ∧ wr = w) (fun _ i _ => s.size - (intOf i).toNat)
    case atStart => exact ⟨0, rfl, Nat.zero_le _, rfl, Lib.hid rfl, rfl⟩
    case round =>
      obtain ⟨k, rfl, hk, rfl, HD, rfl⟩ := hrel
      have hv := dv_bd k HD.out
      by_cases hkn : k < s.size
      · have hkn' : (k : Int) < (s.size : Int) := by omega
        have hx := byteAt_at s k hkn
        have hxb := byteAt_bd s k
        have ht := ten_le (show k + 1 ≤ 19 by omega)
        rw [Int.pow_succ] at ht
        have hv2 : 10 * dv (byteAt s) k + 10 ≤ 10000000000000000000 := by
          generalize (10 : Int) ^ k = T at *
          omega
        have hv0 := hv.1
        have HS := Lib.hid (show dv (byteAt s) (k + 1) = 10 * dv (byteAt s) k + (byteAt s k - 48) from rfl)
        have HDS := Lib.hid (show dgs (byteAt s) (k + 1) = (dgs (byteAt s) k && decide (48 ≤ byteAt s k ∧ byteAt s k ≤ 57)) from rfl)
        have HNO := Lib.hid (fun h => dgs_no (c := byteAt s) hkn h)
        clear ht hv
        generalize byteAt s k = x at hx hxb HS HDS HNO
        generalize dv (byteAt s) k = n at HS hv2 hv0
        by_cases h1 : x < 48
        · have HF := Lib.hid (show nOk s m = false by rw [HO.out]; exact HNO.out (by omega))
          have HV0 := Lib.hid (show nV s m = 0 by rw [HV.out, HF.out]; rfl)
          go_wp2_with fail
          exact bodyPost_ret (v := .tuple #[.int .u64 0, .bool false]) (by simp [results, Try.results91, go_sem]) rfl ⟨ret_nv HV0.out.symm HF.out.symm, Below.refl _ _⟩
        · by_cases h2 : 57 < x
          · have HF := Lib.hid (show nOk s m = false by rw [HO.out]; exact HNO.out (by omega))
            have HV0 := Lib.hid (show nV s m = 0 by rw [HV.out, HF.out]; rfl)
            go_wp2_with fail
            exact bodyPost_ret (v := .tuple #[.int .u64 0, .bool false]) (by simp [results, Try.results91, go_sem]) rfl ⟨ret_nv HV0.out.symm HF.out.symm, Below.refl _ _⟩
          · have HD2 := Lib.hid (show dgs (byteAt s) (k + 1) = true by rw [HDS.out, HD.out, decide_eq_true (show 48 ≤ x ∧ x ≤ 57 by omega)]; rfl)
            have w1 : IntKind.u64.wrap (10 * n) = 10 * n := by rw [IntKind.wrap_u64]; omega
            have w2 : IntKind.u64.wrap (10 * n + (x - 48)) = 10 * n + (x - 48) := by rw [IntKind.wrap_u64]; omega
            go_wp2_with fail
            go_roundw
            case rel => exact ⟨k + 1, by go_num, by omega, by rw [HS.out], HD2, trivial⟩
            case measure => simp [intOf]; omega
      · obtain rfl : k = s.size := by omega
        have HT := Lib.hid (show nOk s m = true by rw [HO.out]; exact HD.out)
        have HV0 := Lib.hid (show nV s m = dv (byteAt s) s.size by rw [HV.out, HT.out]; rfl)
        go_wp2_with fail
        exact bodyPost_ret (v := .tuple #[.int .u64 (dv (byteAt s) s.size), .bool true]) (by simp [results, Try.results91, go_sem]) rfl ⟨ret_nv HV0.out.symm HT.out.symm, Below.refl _ _⟩
  · have HO := Lib.hid (show nOk s m = false by unfold nOk; rw [decide_eq_false hL]; rfl)
    have HV := Lib.hid (show nV s m = 0 by unfold nV; rw [HO.out]; rfl)
    go_enter Try.func91, Try.ntmps91
    by_cases h1 : (s.size : Int) < 1
    · go_wp2_with fail
      exact bodyPost_ret (v := .tuple #[.int .u64 0, .bool false]) (by simp [results, Try.results91, go_sem]) rfl ⟨ret_nv HV.out.symm HO.out.symm, Below.refl _ _⟩
    · have h2 : m < (s.size : Int) := by omega
      go_wp2_with fail
      exact bodyPost_ret (v := .tuple #[.int .u64 0, .bool false]) (by simp [results, Try.results91, go_sem]) rfl ⟨ret_nv HV.out.symm HO.out.symm, Below.refl _ _⟩
/-- the first place of a byte among the first k -/
def fst (c : Nat → Int) (b : Int) : Nat → Int
  | 0 => -1
  | k + 1 => if 0 ≤ fst c b k then fst c b k else if c k = b then k else -1
theorem fst_bd (c : Nat → Int) (b : Int) (k : Nat) : -1 ≤ fst c b k ∧ fst c b k < k := by
  induction k with
  | zero => exact ⟨Int.le_refl _, by show (-1 : Int) < 0; decide⟩
  | succ k ih =>
    show -1 ≤ (if 0 ≤ fst c b k then fst c b k else if c k = b then (k : Int) else -1) ∧ (if 0 ≤ fst c b k then fst c b k else if c k = b then (k : Int) else -1) < ((k + 1 : Nat) : Int)
    repeat' split
    all_goals omega
theorem fst_stay {c : Nat → Int} {b : Int} {k n : Nat} (hk : k ≤ n) (h : 0 ≤ fst c b k) : fst c b n = fst c b k := by
  induction n with
  | zero => obtain rfl : k = 0 := by omega
            rfl
  | succ n ih =>
    rcases Nat.lt_or_ge n k with g | g
    · obtain rfl : k = n + 1 := by omega
      rfl
    · have := ih g
      show (if 0 ≤ fst c b n then fst c b n else if c n = b then (n : Int) else -1) = fst c b k
      rw [this, if_pos h]
set_option maxHeartbeats 2000000 in
theorem index_any (s : ByteArray) (b : Int) (hb : 0 ≤ b ∧ b < 256) (hs : s.size ≤ maxLen) (w : World) :
    Calls Try.prog 66 #[.string s, .int .u8 b] w fun e w' => e = .returned (.int .i64 (fst (byteAt s) b s.size)) ∧ Below w.heap.size w w' := by
  have hs2 := hs
  unfold maxLen at hs2
  have HS := Lib.hid (fun k (hk : k ≤ s.size) (h : 0 ≤ fst (byteAt s) b k) => fst_stay hk h)
  go_enter Try.func66, Try.ntmps66
  go_wp2_with fail
  go_loopw [5] (fun i wr => ∃ k : Nat, i = .int .i64 k ∧ k ≤ s.size ∧ Hid (fst (byteAt s) b k = -1) ∧ wr = w) (fun i _ => s.size - (intOf i).toNat)
  case atStart => exact ⟨0, rfl, Nat.zero_le _, Lib.hid rfl, rfl⟩
  case round =>
    obtain ⟨k, rfl, hk, HK, rfl⟩ := hrel
    by_cases hkn : k < s.size
    · have hkn' : (k : Int) < (s.size : Int) := by omega
      have hx := byteAt_at s k hkn
      have HN := Lib.hid (show fst (byteAt s) b (k + 1) = if byteAt s k = b then (k : Int) else -1 by
        show (if 0 ≤ fst (byteAt s) b k then fst (byteAt s) b k else if byteAt s k = b then (k : Int) else -1) = _
        rw [HK.out, if_neg (by omega)])
      have HT := Lib.hid (HS.out (k + 1) (by omega))
      generalize byteAt s k = x at hx HN
      by_cases h1 : x = b
      · have HE := Lib.hid (show fst (byteAt s) b s.size = k by rw [HT.out (by rw [HN.out, if_pos h1]; omega), HN.out, if_pos h1])
        have hbe : (x == b) = true := by rw [h1]; exact beq_self_eq_true b
        go_wp2_with fail
        exact bodyPost_ret (v := .int .i64 k) (by simp [results, Try.results66, go_sem]) rfl ⟨ret_int HE.out.symm, Below.refl _ _⟩
      · have hbe : (x == b) = false := beq_eq_false_iff_ne.2 h1
        have HK2 := Lib.hid (show fst (byteAt s) b (k + 1) = -1 by rw [HN.out, if_neg h1])
        go_wp2_with fail
        go_roundw
        case rel => exact ⟨k + 1, by go_num, by omega, HK2, trivial⟩
        case measure => simp [intOf]; omega
    · obtain rfl : k = s.size := by omega
      go_wp2_with fail
      exact bodyPost_ret (v := .int .i64 (-1)) (by simp [results, Try.results66, go_sem]) rfl ⟨ret_int HK.out.symm, Below.refl _ _⟩
set_option maxHeartbeats 2000000 in
theorem power_any (n : Nat) (hn : n ≤ 18) (w : World) :
    Calls Try.prog 92 #[.int .i64 n] w fun e w' => e = .returned (.int .u64 ((10 : Int) ^ n)) ∧ Below w.heap.size w w' := by
  go_enter Try.func92, Try.ntmps92
  go_wp2_with fail
  go_loopw [3, 5] (fun v i wr => ∃ k : Nat, i = .int .i64 k ∧ k ≤ n ∧ v = .int .u64 ((10 : Int) ^ k) ∧ wr = w) (fun _ i _ => n - (intOf i).toNat)
  case atStart => exact ⟨0, rfl, Nat.zero_le _, rfl, rfl⟩
  case round =>
    obtain ⟨k, rfl, hk, rfl, rfl⟩ := hrel
    by_cases hkn : k < n
    · have hkn' : (k : Int) < (n : Int) := by omega
      have ht := ten_le (show k + 1 ≤ 19 by omega)
      have hp : (0 : Int) < 10 ^ k := Int.pow_pos (by decide)
      rw [Int.pow_succ] at ht
      have HE := Lib.hid (show (10 : Int) ^ (k + 1) = 10 ^ k * 10 from Int.pow_succ 10 k)
      generalize (10 : Int) ^ k = T at ht hp HE ⊢
      have w1 : IntKind.u64.wrap (T * 10) = T * 10 := by rw [IntKind.wrap_u64]; omega
      go_wp2_with fail
      go_roundw
      case rel => exact ⟨k + 1, by go_num, by omega, by rw [HE.out], trivial⟩
      case measure => simp [intOf]; omega
    · obtain rfl : k = n := by omega
      go_wp2_with fail
      exact bodyPost_ret (v := .int .u64 ((10 : Int) ^ k)) (by simp [results, Try.results92, go_sem]) rfl ⟨rfl, Below.refl _ _⟩
end Go.Proofs.Ytlocgjhblcgpbaa
