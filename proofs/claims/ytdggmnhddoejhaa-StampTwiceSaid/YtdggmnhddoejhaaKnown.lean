/-
  Until and Known of package stamp.
-/
import Derived.Test.YtdggmnhddoejhaaCanon
namespace Go.Proofs.Ytdggmnhddoejhaa
open Go.RowKit Go.Sort Go.Lib
set_option linter.unusedSimpArgs false
set_option linter.unusedVariables false

set_option maxHeartbeats 400000 in
theorem known_bad (o o' : Option Addr) (n n' c c' : Nat) (m : Int) (w : World) (hne : n' ≠ n) :
    Calls Try.prog 28 #[.slice o n c, .slice o' n' c', .int .i64 m] w fun e w' => e = .returned (.tuple #[.slice none 0 0, .int .i64 1]) ∧ w = w' := by
  have h1 : (((n' : Nat) : Int) != (n : Int)) = true := by rw [bne_iff_ne]; omega
  go_enter Try.func28, Try.ntmps28
  go_wp2
  go_ret2
  exact ⟨rfl, rfl⟩
set_option maxHeartbeats 400000 in
theorem known_range (o o' : Option Addr) (n c c' : Nat) (m : Int) (w : World) (hm : m < 0 ∨ (n : Int) < m) :
    Calls Try.prog 28 #[.slice o n c, .slice o' n c', .int .i64 m] w fun e w' => e = .returned (.tuple #[.slice none 0 0, .int .i64 2]) ∧ w = w' := by
  have h1 : (((n : Nat) : Int) != (n : Int)) = false := by simp
  have h2 : upB m (n : Int) = false := decide_eq_false (by omega)
  go_enter Try.func28, Try.ntmps28
  go_wp2_with (go_at_call 32; refine (upTo_any _ _ _).mono ?_; rintro e w' ⟨rfl, rfl⟩)
  go_ret2
  exact ⟨rfl, rfl⟩
theorem CanonV.ofDrew {L : Nat → St} {C : Nat → Int} {n : Nat} {w w' : World} {v : Value} {code : Int} (h : CanonV L C n w.drew w' v code) : CanonV L C n w w' v code := by
  obtain ⟨out, hi, hb, hr⟩ := h
  exact ⟨out, hi, ⟨hb.os, hb.tape, hb.output, hb.size, hb.block⟩, hr⟩
set_option maxHeartbeats 1000000 in
theorem known_any (o o' : Option Addr) (n c c' : Nat) (L : Nat → St) (C : Nat → Int) (m : Nat) (w : World) (hs : RowS w w.heap.size o n L) (hC : RowI w w.heap.size o' n C) (hn : n ≤ 1000000) (hm : m ≤ n) (hc : n ≤ c) (hc' : n ≤ c') :
    Calls Try.prog 28 #[.slice o n c, .slice o' n c', .int .i64 (m : Int)] w (CanonR L C m w) := by
  have h1 : (((n : Nat) : Int) != (n : Int)) = false := by simp
  have h2 : upB (m : Int) (n : Int) = true := decide_eq_true (by omega)
  have HS := Lib.hid (hs.less hm)
  have HC := Lib.hid (hC.less hm)
  have hm0 : (0 : Int) ≤ (m : Int) := by omega
  have hm1 : (m : Int) ≤ (c : Int) := by omega
  have hm2 : (m : Int) ≤ (c' : Int) := by omega
  have HN := Lib.hid (show m ≤ 1000000 by omega)
  clear hs hC
  go_enter Try.func28, Try.ntmps28
  go_wp2_with (go_at_call 32; refine (upTo_any _ _ _).mono ?_; rintro e w' ⟨rfl, rfl⟩)
  go_region_held3 (fun w' => 0 ≤ w'.heap.size) (exact Nat.zero_le _) ((go_at_call 20; refine (canon_any _ _ _ _ _ L C _ (by first | exact HS.out) (by first | exact HC.out) HN.out).mono ?_; rintro e w' ⟨v, code, rfl, hv⟩; have HV := Lib.hid hv; clear hv))
  go_wp2
  go_ret2
  exact ⟨v, code, rfl, by first | exact HV.out.ofDrew | exact HV.out⟩

def UntilIs (L : Nat → St) (n : Nat) (t : Int) (r : Nat) : Prop := r ≤ n ∧ (∀ j, j < r → (L j).1 ≤ t) ∧ (r < n → t < (L r).1)
theorem UntilIs.unique {L : Nat → St} {n : Nat} {t : Int} {r s : Nat} (h : UntilIs L n t r) (k : UntilIs L n t s) : r = s := by
  obtain ⟨h1, h2, h3⟩ := h
  obtain ⟨k1, k2, k3⟩ := k
  rcases Nat.lt_trichotomy r s with g | g | g
  · have := k2 r g; have := h3 (by omega); omega
  · exact g
  · have := h2 s g; have := k3 (by omega); omega
def UntilR (L : Nat → St) (n : Nat) (t : Int) (w : World) (e : Ending) (w' : World) : Prop := ∃ r : Nat, UntilIs L n t r ∧ e = .returned (.int .i64 (r : Int)) ∧ RowKit.Below w.heap.size w w'
set_option maxHeartbeats 1000000 in
theorem until_any (o : Option Addr) (n c : Nat) (L : Nat → St) (t : Int) (w : World) (hs : RowS w w.heap.size o n L) (hn : n ≤ 1000000) :
    Calls Try.prog 26 #[.slice o n c, .int .i64 t] w (UntilR L n t w) := by
  have HS := Lib.hid hs
  clear hs
  go_enter Try.func26, Try.ntmps26
  go_wp2_with fail
  go_loopw [9] (fun i wr => ∃ k : Nat, i = .int .i64 k ∧ k ≤ n ∧ Hid (∀ j, j < k → (L j).1 ≤ t) ∧ RowKit.Below w.heap.size w wr) (fun i _ => n - (intOf i).toNat)
  case atStart => exact ⟨0, rfl, Nat.zero_le _, (fun j hj => absurd hj (Nat.not_lt_zero _)), RowKit.Below.refl _ _⟩
  case round =>
    obtain ⟨k, rfl, hk, hall, hb⟩ := hrel
    have HB := Lib.hid hb
    by_cases hkn : k < n
    · have hkn' : (k : Int) < n := by omega
      obtain ⟨b, off, rfl, hbB, a0, a1, a2⟩ := HS.out.below hb (Nat.le_refl _) k hkn
      clear hb
      by_cases hgt : t < (L k).1
      · have HX := Lib.hid (show ∀ w', RowKit.Below wr.heap.size wr w' → UntilR L n t w (.returned (.int .i64 (k : Int))) w' from fun w' h => ⟨k, ⟨hk, hall, fun _ => hgt⟩, rfl, HB.out.trans (h.mono HB.out.size)⟩)
        go_wp2
        go_ret
        exact HX.out _ (bAl (RowKit.Below.refl _ _) _)
      · have HX := Lib.hid (show ∀ j, j < k + 1 → (L j).1 ≤ t from fun j hj => by
          rcases Nat.lt_succ_iff_lt_or_eq.1 hj with h | h
          · exact hall j h
          · rw [h]; omega)
        go_wp2
        go_roundw
        case rel => exact ⟨k + 1, by go_num, by omega, HX.out, bTr HB.out (bAl (RowKit.Below.refl _ _) _)⟩
        case measure => simp [intOf]; omega
    · have HX := Lib.hid (show UntilR L n t w (.returned (.int .i64 (n : Int))) wr from ⟨n, ⟨Nat.le_refl _, fun j hj => hall j (by omega), fun h => absurd h (Nat.lt_irrefl _)⟩, rfl, HB.out⟩)
      clear hb hall
      go_wp2
      go_ret
      exact HX.out
set_option maxHeartbeats 1000000 in
theorem ref_until (o : Option Addr) (n c : Nat) (L : Nat → St) (t : Int) (w : World) (hs : RowS w w.heap.size o n L) (hn : n ≤ 1000000) :
    Calls Try.prog 27 #[.slice o n c, .int .i64 t] w (UntilR L n t w) := by
  have HS := Lib.hid hs
  clear hs
  go_enter Try.func27, Try.ntmps27
  go_wp2_with fail
  go_loop [5] (fun i => ∃ k : Nat, i = .int .i64 k ∧ k ≤ n ∧ Hid (∀ j, j < k → (L j).1 ≤ t)) (fun i => n - (intOf i).toNat)
  case atStart => exact ⟨0, rfl, Nat.zero_le _, (fun j hj => absurd hj (Nat.not_lt_zero _))⟩
  case round =>
    obtain ⟨k, rfl, hk, hall⟩ := hrel
    by_cases hkn : k < n
    · have hkn' : (k : Int) < n := by omega
      obtain ⟨b, off, rfl, hbB, a0, a1, a2⟩ := HS.out k hkn
      by_cases hgt : t < (L k).1
      · have HX := Lib.hid (show UntilR L n t w (.returned (.int .i64 (k : Int))) w from ⟨k, ⟨hk, hall, fun _ => hgt⟩, rfl, RowKit.Below.refl _ _⟩)
        go_wp2
        go_ret
        exact HX.out
      · have HX := Lib.hid (show ∀ j, j < k + 1 → (L j).1 ≤ t from fun j hj => by
          rcases Nat.lt_succ_iff_lt_or_eq.1 hj with h | h
          · exact hall j h
          · rw [h]; omega)
        go_wp2
        go_round
        case rel => exact ⟨k + 1, by go_num, by omega, HX.out⟩
        case measure => simp [intOf]; omega
    · have HX := Lib.hid (show UntilR L n t w (.returned (.int .i64 (n : Int))) w from ⟨n, ⟨Nat.le_refl _, fun j hj => hall j (by omega), fun h => absurd h (Nat.lt_irrefl _)⟩, rfl, RowKit.Below.refl _ _⟩)
      clear hall
      go_wp2
      go_ret
      exact HX.out
end Go.Proofs.Ytdggmnhddoejhaa
