/-
  Rows of indices: what a call owns, a number among them, two of them compared.
-/
import Derived.Test.YtglikjdgjmijfaaSCheck
import Derived.Test.YtglikjdgjmijfaaTape
namespace Go.Proofs.Ytglikjdgjmijfaa
open Go.RowKit
set_option linter.unusedSimpArgs false
set_option linter.unusedVariables false

def natAt (l : List Nat) (i : Nat) : Int := ((l.getD i 0 : Nat) : Int)
theorem natAt_mem {l : List Nat} {i : Nat} (h : i < l.length) : l[i]? = some (l.getD i 0) := by
  rw [List.getD_eq_getElem?_getD, List.getElem?_eq_getElem h]; rfl
/-- a slice of indices of the call's own -/
theorem natRow_own {w : World} {B n : Nat} {v : Value} {e : TypeId} {l : List Nat} (h : w.ownsRow B e 1 v n (l.map iv)) : ∃ o c, v = .slice o l.length c ∧ n = l.length ∧ l.length ≤ c ∧ c ≤ maxLen ∧ RowI w w.heap.size o l.length (natAt l) := by
  have hl : l.length = n := by have := h.1; simpa using this
  rcases h.2 with ⟨rfl, h0⟩ | ⟨g, cap, cur, rfl, hb, hc, hmc, hm, _⟩
  · exact ⟨none, 0, by rw [hl, h0], hl.symm, by omega, by unfold maxLen; omega, fun i hi => by omega⟩
  · refine ⟨_, cap, by rw [hl], hl.symm, by omega, hm, fun i hi => ⟨g, 0, rfl, (Array.getElem?_eq_some_iff.1 hc).1, ?_⟩⟩
    have := h.cellAt i (by rw [Nat.mul_one, ← hl]; exact hi)
    rw [Nat.zero_add, this, List.getElem?_map, natAt_mem hi]
    rfl
/-- what a call hands back: a row of indices of its own -/
def NatV (l : List Nat) (w w' : World) (v : Value) : Prop := ∃ B, w'.ownsRow B 3 1 v l.length (l.map iv) ∧ w.heap.size ≤ B
def NatR (l : List Nat) (w : World) (e : Ending) (w' : World) : Prop := ∃ v, e = .returned v ∧ NatV l w w' v ∧ Below w.heap.size w w'
theorem NatV.later {l : List Nat} {w w1 w2 : World} {v : Value} (h : NatV l w w1 v) (hb : Below w1.heap.size w1 w2) : NatV l w w2 v := by
  obtain ⟨B, ho, hB⟩ := h
  exact ⟨B, own_later ho hb, hB⟩
theorem NatV.row {l : List Nat} {w w1 : World} {v : Value} (h : NatV l w w1 v) : ∃ o c, v = .slice o l.length c ∧ l.length ≤ c ∧ c ≤ maxLen ∧ RowI w1 w1.heap.size o l.length (natAt l) := by
  obtain ⟨B, ho, _⟩ := h
  obtain ⟨o, c, h1, _, h2, h3, h4⟩ := natRow_own ho
  exact ⟨o, c, h1, h2, h3, h4⟩
theorem NatV.nil (w w' : World) : NatV [] w w' (.slice none 0 0) := ⟨w.heap.size, World.ownsRow_nil _ _ _ _, Nat.le_refl _⟩
theorem NatV.from {l : List Nat} {w w0 w1 : World} {v : Value} (h : NatV l w0 w1 v) (hs : w.heap.size ≤ w0.heap.size) : NatV l w w1 v := by
  obtain ⟨B, ho, hB⟩ := h
  exact ⟨B, ho, Nat.le_trans hs hB⟩

theorem mem_take_succ {l : List Nat} {k x : Nat} (hk : k < l.length) : x ∈ l.take (k + 1) ↔ x ∈ l.take k ∨ l.getD k 0 = x := by
  rw [List.take_add_one, natAt_mem hk]
  simp [eq_comm]
set_option maxHeartbeats 1000000 in
theorem index_nat (o : Option Addr) (c B : Nat) (l : List Nat) (x : Nat) (w : World) (hs : RowI w B o l.length (natAt l)) (hn : l.length ≤ 1000000) :
    Calls Try.prog 63 #[.slice o l.length c, .int .i64 x] w (IdxR (decide (x ∈ l)) w) := by
  have HS := Lib.hid hs
  clear hs
  have HL := Lib.hid (show l.take l.length = l from List.take_length)
  obtain ⟨n, hln⟩ : ∃ n, l.length = n := ⟨_, rfl⟩
  rw [hln] at HS hn HL ⊢
  have HN := Lib.hid hln
  clear hln
  go_enter Try.func63, Try.ntmps63
  go_wp2_with fail
  go_loopw [8] (fun i wr => ∃ k : Nat, i = .int .i64 k ∧ k ≤ n ∧ Hid (¬ x ∈ l.take k) ∧ wr = w) (fun i _ => n - (intOf i).toNat)
  case atStart => exact ⟨0, rfl, Nat.zero_le _, Lib.hid (by simp), rfl⟩
  case round =>
    obtain ⟨k, rfl, hk, HD, rfl⟩ := hrel
    by_cases hkn : k < n
    · have hkn' : (k : Int) < (n : Int) := by omega
      obtain ⟨b, off, rfl, hbB, hc⟩ := HS.out k hkn
      have HM := Lib.hid (mem_take_succ (x := x) (show k < l.length by have := HN.out; omega))
      have hc' : wr.cell? ⟨b, off + k, none⟩ = some (.int .i64 ((l.getD k 0 : Nat) : Int)) := hc
      clear hc
      by_cases he : l.getD k 0 = x
      · have HF := Lib.hid (show decide (x ∈ l) = true from decide_eq_true (List.mem_of_mem_take (HM.out.2 (.inr he))))
        rw [he] at hc'
        clear he HM
        have hxx : ((x : Int) == (x : Int)) = true := by simp
        go_wp2_with fail
        exact bodyPost_ret (v := .int .i64 (k : Int)) (by simp [results, Try.results63, go_sem]) rfl ⟨(k : Int), rfl, by rw [HF.out]; exact decide_eq_true (by omega), rfl⟩
      · have HD2 := Lib.hid (show ¬ x ∈ l.take (k + 1) from fun h => (HM.out.1 h).elim HD.out he)
        generalize l.getD k 0 = y at hc' he
        have he' : ((x : Int) == (y : Int)) = false := by rw [beq_eq_false_iff_ne]; omega
        clear he HM
        go_wp2_with fail
        go_roundw
        case rel => exact ⟨k + 1, by go_num, by omega, HD2, trivial⟩
        case measure => simp [intOf]; omega
    · obtain rfl : k = n := by omega
      have HF := Lib.hid (show decide (x ∈ l) = false from decide_eq_false (by rw [← HL.out]; exact HD.out))
      go_wp2_with fail
      exact bodyPost_ret (v := .int .i64 (-1)) (by simp [results, Try.results63, go_sem]) rfl ⟨-1, rfl, by rw [HF.out]; rfl, rfl⟩
set_option maxHeartbeats 1000000 in
theorem contains_nat (o : Option Addr) (c B : Nat) (l : List Nat) (x : Nat) (w : World) (hs : RowI w B o l.length (natAt l)) (hn : l.length ≤ 1000000) :
    Calls Try.prog 44 #[.slice o l.length c, .int .i64 x] w fun e w' => e = .returned (.bool (decide (x ∈ l))) ∧ w' = w := by
  have HI := Lib.hid (index_nat o c B l x w hs hn)
  clear hs
  generalize l.length = n at HI ⊢
  generalize decide (x ∈ l) = d at HI ⊢
  go_enter Try.func44, Try.ntmps44
  go_wp2_with fail
  refine HI.out.mono ?_
  rintro e w' ⟨r, rfl, hr, rfl⟩
  have HR := Lib.hid hr
  clear hr
  go_wp2_with fail
  go_ret
  exact ⟨ret_bool HR.out, rfl⟩
set_option maxHeartbeats 1000000 in
/-- the law's own search -/
theorem has_nat (o : Option Addr) (c B : Nat) (l : List Nat) (x : Nat) (w : World) (hs : RowI w B o l.length (natAt l)) (hn : l.length ≤ 1000000) :
    Calls Try.prog 33 #[.slice o l.length c, .int .i64 x] w fun e w' => e = .returned (.bool (decide (x ∈ l))) ∧ w' = w := by
  have HS := Lib.hid hs
  clear hs
  have HL := Lib.hid (show l.take l.length = l from List.take_length)
  obtain ⟨n, hln⟩ : ∃ n, l.length = n := ⟨_, rfl⟩
  rw [hln] at HS hn HL ⊢
  have HN := Lib.hid hln
  clear hln
  obtain ⟨d, hd⟩ : ∃ d, decide (x ∈ l) = d := ⟨_, rfl⟩
  rw [hd]
  have HDD := Lib.hid hd
  clear hd
  go_enter Try.func33, Try.ntmps33
  go_wp2_with fail
  go_loopw [5] (fun i wr => ∃ k : Nat, i = .int .i64 k ∧ k ≤ n ∧ Hid (¬ x ∈ l.take k) ∧ wr = w) (fun i _ => n - (intOf i).toNat)
  case atStart => exact ⟨0, rfl, Nat.zero_le _, Lib.hid (by simp), rfl⟩
  case round =>
    obtain ⟨k, rfl, hk, HD, rfl⟩ := hrel
    by_cases hkn : k < n
    · have hkn' : (k : Int) < (n : Int) := by omega
      obtain ⟨b, off, rfl, hbB, hc⟩ := HS.out k hkn
      have HM := Lib.hid (mem_take_succ (x := x) (show k < l.length by have := HN.out; omega))
      have hc' : wr.cell? ⟨b, off + k, none⟩ = some (.int .i64 ((l.getD k 0 : Nat) : Int)) := hc
      clear hc
      by_cases he : l.getD k 0 = x
      · have HF := Lib.hid (show true = d from (decide_eq_true (List.mem_of_mem_take (HM.out.2 (.inr he)))).symm.trans HDD.out)
        rw [he] at hc'
        clear he HM
        have hxx : ((x : Int) == (x : Int)) = true := by simp
        go_wp2_with fail
        exact bodyPost_ret (v := .bool true) (by simp [results, Try.results33, go_sem]) rfl ⟨ret_bool HF.out, rfl⟩
      · have HD2 := Lib.hid (show ¬ x ∈ l.take (k + 1) from fun h => (HM.out.1 h).elim HD.out he)
        generalize l.getD k 0 = y at hc' he
        have he' : ((y : Int) == (x : Int)) = false := by rw [beq_eq_false_iff_ne]; omega
        clear he HM
        go_wp2_with fail
        go_roundw
        case rel => exact ⟨k + 1, by go_num, by omega, HD2, trivial⟩
        case measure => simp [intOf]; omega
    · obtain rfl : k = n := by omega
      have HF := Lib.hid (show false = d from (decide_eq_false (by rw [← HL.out]; exact HD.out)).symm.trans HDD.out)
      go_wp2_with fail
      exact bodyPost_ret (v := .bool false) (by simp [results, Try.results33, go_sem]) rfl ⟨ret_bool HF.out, rfl⟩
set_option maxHeartbeats 1000000 in
/-- the law's own comparison, at two rows that read alike -/
theorem same_row (o o' : Option Addr) (n c c' B B' : Nat) (C : Nat → Int) (w : World) (hs : RowI w B o n C) (hs' : RowI w B' o' n C) (hB : B ≤ w.heap.size) (hB' : B' ≤ w.heap.size) (hn : n ≤ 1000000) :
    Calls Try.prog 17 #[.slice o n c, .slice o' n c'] w fun e w' => e = .returned (.bool true) ∧ Below w.heap.size w w' := by
  have HS := Lib.hid (hs.more hB)
  have HT := Lib.hid (hs'.more hB')
  clear hs hs'
  have hnn : (((n : Nat) : Int) != (n : Int)) = false := by simp
  go_enter Try.func17, Try.ntmps17
  go_wp2_with fail
  go_loopw [5] (fun i wr => ∃ k : Nat, i = .int .i64 k ∧ k ≤ n ∧ Hid (Below w.heap.size w wr)) (fun i _ => n - (intOf i).toNat)
  case atStart => exact ⟨0, rfl, Nat.zero_le _, Lib.hid (Below.refl _ _)⟩
  case round =>
    obtain ⟨k, rfl, hk, HB⟩ := hrel
    by_cases hkn : k < n
    · have hkn' : (k : Int) < (n : Int) := by omega
      have hk0 : (0 : Int) ≤ (k : Int) := by omega
      obtain ⟨b, off, rfl, hbB, hc⟩ := HS.out.below HB.out (Nat.le_refl _) k hkn
      obtain ⟨b', off', rfl, hbB', hc'⟩ := HT.out.below HB.out (Nat.le_refl _) k hkn
      generalize C k = y at hc hc'
      have hy : (y != y) = false := by simp
      go_wp2_with fail
      go_quiet (fail)
      go_wp2_with fail
      go_roundw
      case rel => exact ⟨k + 1, by go_num, by omega, Lib.hid (bDr HB.out _)⟩
      case measure => simp [intOf]; omega
    · obtain rfl : k = n := by omega
      go_wp2_with fail
      exact bodyPost_ret (v := .bool true) (by simp [results, Try.results17, go_sem]) rfl ⟨rfl, HB.out⟩
end Go.Proofs.Ytglikjdgjmijfaa
