/-
  Enemy, of the program and of the reference.
-/
import Derived.Test.YtjciniffkdadaaaICheck
import Derived.Test.YtjciniffkdadaaaIRCheck
namespace Go.Proofs.Ytjciniffkdadaaa
open Go.RowKit
set_option linter.unusedSimpArgs false
set_option linter.unusedVariables false

def hasE (E : Nat → Int) (x : Int) : Nat → Bool
  | 0 => false
  | k + 1 => hasE E x k || decide (E k = x)
theorem hasE_yes {E : Nat → Int} {x : Int} {k : Nat} (h : E k = x) : ∀ {n : Nat}, k < n → hasE E x n = true
  | 0, hk => absurd hk (Nat.not_lt_zero _)
  | n + 1, hk => by
    show (hasE E x n || _) = true
    rcases Nat.lt_succ_iff_lt_or_eq.1 hk with h1 | h1
    · rw [hasE_yes h h1]; rfl
    · subst h1; rw [decide_eq_true h, Bool.or_true]
theorem hasE_no {E : Nat → Int} {x : Int} : ∀ {n : Nat}, (∀ k, k < n → E k ≠ x) → hasE E x n = false
  | 0, _ => rfl
  | n + 1, h => by
    show (hasE E x n || decide (E n = x)) = false
    rw [hasE_no fun k hk => h k (by omega), decide_eq_false (h n (by omega))]
    rfl
theorem hasE_own {x : Itm} (h : x.chk = 0) : hasE x.E x.id x.nE = false := hasE_no fun k hk he => by
  have := canE_at (Itm.ok h).2.2.2.2.2 k hk
  exact this (.inr (.inr he))
def eneB (x y : Itm) : Bool := decide (x.chk = 0) && decide (y.chk = 0) && !decide (x.id = y.id) && (hasE x.E y.id x.nE || hasE y.E x.id y.nE)
theorem ene_x {x y : Itm} (h : x.chk ≠ 0) : eneB x y = false := by unfold eneB; rw [decide_eq_false h]; rfl
theorem ene_y {x y : Itm} (hx : x.chk = 0) (h : y.chk ≠ 0) : eneB x y = false := by unfold eneB; rw [decide_eq_false h, decide_eq_true hx]; rfl
theorem ene_id {x y : Itm} (hx : x.chk = 0) (hy : y.chk = 0) (h : x.id = y.id) : eneB x y = false := by unfold eneB; rw [decide_eq_true h, decide_eq_true hx, decide_eq_true hy]; rfl
theorem ene_or {x y : Itm} (hx : x.chk = 0) (hy : y.chk = 0) (h : x.id ≠ y.id) : eneB x y = (hasE x.E y.id x.nE || hasE y.E x.id y.nE) := by unfold eneB; rw [decide_eq_false h, decide_eq_true hx, decide_eq_true hy]; rfl
theorem ene_all {x y : Itm} (hx : x.chk = 0) (hy : y.chk = 0) : eneB x y = (hasE x.E y.id x.nE || hasE y.E x.id y.nE) := by
  by_cases h : x.id = y.id
  · rw [ene_id hx hy h, ← h, hasE_own hx, h, hasE_own hy]; rfl
  · exact ene_or hx hy h
theorem ene_comm (x y : Itm) : eneB x y = eneB y x := by
  unfold eneB
  rw [Bool.and_comm (decide (x.chk = 0)), Bool.or_comm, decide_eq_decide.2 (show x.id = y.id ↔ y.id = x.id from ⟨Eq.symm, Eq.symm⟩)]
theorem ene_self (x : Itm) : eneB x x = false := by unfold eneB; rw [decide_eq_true rfl]; simp
def IdxR (b : Bool) (w : World) (e : Ending) (w' : World) : Prop := ∃ r : Int, e = .returned (.int .i64 r) ∧ decide (0 ≤ r) = b ∧ w' = w
set_option maxHeartbeats 1000000 in
theorem index_int (o : Option Addr) (n c B : Nat) (E : Nat → Int) (x : Int) (w : World) (hs : RowI w B o n E) (hn : n ≤ 1000000) :
    Calls Try.prog 51 #[.slice o n c, .int .i64 x] w (IdxR (hasE E x n) w) := by
  have HS := Lib.hid hs
  clear hs
  go_enter Try.func51, Try.ntmps51
  go_wp2_with fail
  go_loopw [8] (fun i wr => ∃ k : Nat, i = .int .i64 k ∧ k ≤ n ∧ Hid (hasE E x k = false) ∧ wr = w) (fun i _ => n - (intOf i).toNat)
  case atStart => exact ⟨0, rfl, Nat.zero_le _, Lib.hid rfl, rfl⟩
  case round =>
    obtain ⟨k, rfl, hk, HD, rfl⟩ := hrel
    by_cases hkn : k < n
    · have hkn' : (k : Int) < (n : Int) := by omega
      obtain ⟨b, off, rfl, hbB, hc⟩ := HS.out k hkn
      by_cases he : E k = x
      · have HF := Lib.hid (hasE_yes he hkn)
        rw [he] at hc
        clear he
        have hxx : (x == x) = true := by simp
        go_wp2_with fail
        exact bodyPost_ret (v := .int .i64 (k : Int)) (by simp [results, Try.results51, go_sem]) rfl ⟨(k : Int), rfl, by rw [HF.out]; exact decide_eq_true (by omega), rfl⟩
      · have HD2 := Lib.hid (show hasE E x (k + 1) = false by show (hasE E x k || decide (E k = x)) = false; rw [HD.out, decide_eq_false he]; rfl)
        generalize E k = y at hc he
        have he' : (x == y) = false := by rw [beq_eq_false_iff_ne]; exact fun h => he h.symm
        clear he
        go_wp2_with fail
        go_roundw
        case rel => exact ⟨k + 1, by go_num, by omega, HD2, trivial⟩
        case measure => simp [intOf]; omega
    · obtain rfl : k = n := by omega
      go_wp2_with fail
      exact bodyPost_ret (v := .int .i64 (-1)) (by simp [results, Try.results51, go_sem]) rfl ⟨-1, rfl, by rw [HD.out]; rfl, rfl⟩
set_option maxHeartbeats 1000000 in
theorem contains_int (o : Option Addr) (n c B : Nat) (E : Nat → Int) (x : Int) (w : World) (hs : RowI w B o n E) (hn : n ≤ 1000000) :
    Calls Try.prog 48 #[.slice o n c, .int .i64 x] w fun e w' => e = .returned (.bool (hasE E x n)) ∧ w' = w := by
  go_enter Try.func48, Try.ntmps48
  go_wp2_with fail
  refine (index_int o n c B E x w hs hn).mono ?_
  rintro e w' ⟨r, rfl, hr, rfl⟩
  have HR := Lib.hid hr
  clear hr
  go_wp2_with fail
  go_ret
  exact ⟨ret_bool HR.out, rfl⟩
set_option maxHeartbeats 1000000 in
theorem rhas_any (o : Option Addr) (n c B : Nat) (E : Nat → Int) (x : Int) (w : World) (hs : RowI w B o n E) (hn : n ≤ 1000000) :
    Calls Try.prog 49 #[.slice o n c, .int .i64 x] w fun e w' => e = .returned (.bool (hasE E x n)) ∧ w' = w := by
  have HS := Lib.hid hs
  clear hs
  go_enter Try.func49, Try.ntmps49
  go_wp2_with fail
  go_loopw [5] (fun i wr => ∃ k : Nat, i = .int .i64 k ∧ k ≤ n ∧ Hid (hasE E x k = false) ∧ wr = w) (fun i _ => n - (intOf i).toNat)
  case atStart => exact ⟨0, rfl, Nat.zero_le _, Lib.hid rfl, rfl⟩
  case round =>
    obtain ⟨k, rfl, hk, HD, rfl⟩ := hrel
    by_cases hkn : k < n
    · have hkn' : (k : Int) < (n : Int) := by omega
      obtain ⟨b, off, rfl, hbB, hc⟩ := HS.out k hkn
      by_cases he : E k = x
      · have HF := Lib.hid (hasE_yes he hkn)
        rw [he] at hc
        clear he
        have hxx : (x == x) = true := by simp
        go_wp2_with fail
        exact bodyPost_ret (v := .bool true) (by simp [results, Try.results49, go_sem]) rfl ⟨ret_bool HF.out.symm, rfl⟩
      · have HD2 := Lib.hid (show hasE E x (k + 1) = false by show (hasE E x k || decide (E k = x)) = false; rw [HD.out, decide_eq_false he]; rfl)
        generalize E k = y at hc he
        have he' : (y == x) = false := by rw [beq_eq_false_iff_ne]; exact he
        clear he
        go_wp2_with fail
        go_roundw
        case rel => exact ⟨k + 1, by go_num, by omega, HD2, trivial⟩
        case measure => simp [intOf]; omega
    · obtain rfl : k = n := by omega
      go_wp2_with fail
      exact bodyPost_ret (v := .bool false) (by simp [results, Try.results49, go_sem]) rfl ⟨ret_bool HD.out.symm, rfl⟩
end Go.Proofs.Ytjciniffkdadaaa
