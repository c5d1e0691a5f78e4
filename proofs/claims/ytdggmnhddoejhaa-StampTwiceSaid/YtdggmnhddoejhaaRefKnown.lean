/-
  Known of the reference; what Canonical answers, twice.
-/
import Derived.Test.YtdggmnhddoejhaaRefCanon
import Derived.Test.YtdggmnhddoejhaaSame
namespace Go.Proofs.Ytdggmnhddoejhaa
open Go.RowKit Go.Sort Go.Lib
set_option linter.unusedSimpArgs false
set_option linter.unusedVariables false

set_option maxHeartbeats 400000 in
theorem rknown_range (o o' : Option Addr) (n c c' : Nat) (m : Int) (w : World) (hm : m < 0 ∨ (n : Int) < m) :
    Calls Try.prog 29 #[.slice o n c, .slice o' n c', .int .i64 m] w fun e w' => e = .returned (.tuple #[.slice none 0 0, .int .i64 2]) ∧ w = w' := by
  have h1 : (((n : Nat) : Int) != (n : Int)) = false := by simp
  by_cases h0 : m < 0
  · go_enter Try.func29, Try.ntmps29
    go_wp2
    go_ret2
    exact ⟨rfl, rfl⟩
  · have h2 : decide (m < 0) = false := decide_eq_false h0
    have h3 : (n : Int) < m := by omega
    clear hm
    go_enter Try.func29, Try.ntmps29
    go_wp2
    go_ret2
    exact ⟨rfl, rfl⟩
set_option maxHeartbeats 1000000 in
theorem rknown_any (o o' : Option Addr) (n c c' : Nat) (L : Nat → St) (C : Nat → Int) (m : Nat) (w : World) (hs : RowS w w.heap.size o n L) (hC : RowI w w.heap.size o' n C) (hn : n ≤ 1000000) (hm : m ≤ n) (hc : n ≤ c) (hc' : n ≤ c') :
    Calls Try.prog 29 #[.slice o n c, .slice o' n c', .int .i64 (m : Int)] w (CanonR L C m w) := by
  have h1 : (((n : Nat) : Int) != (n : Int)) = false := by simp
  have h2 : decide ((m : Int) < 0) = false := decide_eq_false (by omega)
  have h3 : decide ((n : Int) < (m : Int)) = false := decide_eq_false (by omega)
  have h4 : decide (n < m) = false := decide_eq_false (by omega)
  have HS := Lib.hid (hs.less hm)
  have HC := Lib.hid (hC.less hm)
  have hm0 : (0 : Int) ≤ (m : Int) := by omega
  have hm1 : (m : Int) ≤ (c : Int) := by omega
  have hm2 : (m : Int) ≤ (c' : Int) := by omega
  have HN := Lib.hid (show m ≤ 1000000 by omega)
  clear hs hC
  go_enter Try.func29, Try.ntmps29
  go_wp2_with fail
  go_region_held3 (fun w' => 0 ≤ w'.heap.size) (exact Nat.zero_le _) ((go_at_call 21; refine (rcanon_any _ _ _ _ _ L C _ (by first | exact HS.out) (by first | exact HC.out) HN.out).mono ?_; rintro e w' ⟨v, code, rfl, hv⟩; have HV := Lib.hid hv; clear hv))
  go_wp2
  go_ret2
  exact ⟨v, code, rfl, by first | exact HV.out.ofDrew | exact HV.out⟩
theorem CanonV.pair {L : Nat → St} {C : Nat → Int} {n : Nat} {w1 w2 w3 w4 : World} {v v' : Value} {code code' : Int} (h : CanonV L C n w1 w2 v code) (h' : CanonV L C n w3 w4 v' code') :
    code = code' ∧ ∃ p c p' c' m D, v = .slice p m c ∧ v' = .slice p' m c' ∧ RowI w2 w2.heap.size p m D ∧ RowI w4 w4.heap.size p' m D ∧ m ≤ 300 := by
  obtain ⟨out, ho, hb, h⟩ := h
  obtain ⟨out', ho', hb', h'⟩ := h'
  obtain rfl := ho'.unique ho
  rcases h with ⟨hl, rfl, B, hown, _⟩ | ⟨hl, rfl, rfl⟩
  · rcases h' with ⟨_, rfl, B', hown', _⟩ | ⟨hl', _⟩
    · obtain ⟨p, cap, rfl, _⟩ := own_form hown
      obtain ⟨p', cap', rfl, _⟩ := own_form hown'
      exact ⟨rfl, p, cap, p', cap', _, _, rfl, rfl, row_own hown, row_own hown', hl⟩
    · omega
  · rcases h' with ⟨hl', _⟩ | ⟨_, rfl, rfl⟩
    · omega
    · exact ⟨rfl, none, 0, none, 0, 0, fun _ => 0, rfl, rfl, fun i hi => absurd hi (Nat.not_lt_zero _), fun i hi => absurd hi (Nat.not_lt_zero _), by omega⟩
theorem nodup_bound : ∀ (n : Nat) (l : List Nat), l.Nodup → (∀ x ∈ l, x < n) → l.length ≤ n
  | 0, l, _, h => by
    cases l with
    | nil => simp
    | cons a t => exact absurd (h a (by simp)) (by omega)
  | n + 1, l, hd, h => by
    have h1 := nodup_bound n (l.erase n) (hd.erase n) fun x hx => by
      have h1 := h x (List.mem_of_mem_erase hx)
      have h2 : x ≠ n := (hd.mem_erase_iff.1 hx).1
      omega
    rw [List.length_erase] at h1
    split at h1 <;> omega
theorem IsCanon.nodup {L : Nat → St} {C : Nat → Int} {n : Nat} {out : List Nat} (h : IsCanon L C n out) : out.Nodup := h.asc.imp fun {a b} hab e => by rw [e] at hab; exact stLt_irr _ hab
theorem IsCanon.len {L : Nat → St} {C : Nat → Int} {n : Nat} {out : List Nat} (h : IsCanon L C n out) : out.length ≤ n := nodup_bound n out h.nodup fun x hx => ((h.mem x).1 hx).1
end Go.Proofs.Ytdggmnhddoejhaa
