/-
  The comparison of two lists that the statements make; the examples of the chapter.
-/
import Derived.Test.YtdggmnhddoejhaaKnown
namespace Go.Proofs.Ytdggmnhddoejhaa
open Go.RowKit Go.Sort Go.Lib
set_option linter.unusedSimpArgs false
set_option linter.unusedVariables false

set_option maxHeartbeats 1000000 in
theorem same_yes (p p' : Option Addr) (n c c' B B' : Nat) (C : Nat → Int) (w : World) (hx : RowI w B p n C) (hy : RowI w B' p' n C) (hn : n ≤ 1000000) :
    Calls Try.prog 22 #[.slice p n c, .slice p' n c'] w fun e w' => e = .returned (.bool true) ∧ ∃ m, w' = w.drewN m := by
  have HX := Lib.hid hx
  have HY := Lib.hid hy
  have h1 : (((n : Nat) : Int) != (n : Int)) = false := by simp
  clear hx hy
  go_enter Try.func22, Try.ntmps22
  go_wp2_with fail
  go_loopw [5] (fun i wr => ∃ k m : Nat, i = .int .i64 k ∧ k ≤ n ∧ wr = w.drewN m) (fun i _ => n - (intOf i).toNat)
  case atStart => exact ⟨0, 0, rfl, Nat.zero_le _, by simp [World.drewN]⟩
  case round =>
    obtain ⟨k, m, rfl, hk, rfl⟩ := hrel
    by_cases hkn : k < n
    · have hkn' : (k : Int) < n := by omega
      obtain ⟨b, off, rfl, _, a0⟩ := HX.out k hkn
      obtain ⟨b', off', rfl, _, d0⟩ := HY.out k hkn
      go_wp2
      go_quiet (fail)
      go_wp2
      go_roundw
      case rel => exact ⟨k + 1, m + nq, by go_num, by omega, by first | rfl | rw [World.drewN_drewN]⟩
      case measure => simp [intOf]; omega
    · go_wp2
      go_ret
      exact ⟨rfl, m, rfl⟩
theorem row_own {w : World} {B : Nat} {p : Option Addr} {n cap : Nat} {zs : List Nat} (h : w.ownsRow B 3 1 (.slice p n cap) n (zs.map iv)) : RowI w w.heap.size p n (fun i => ((zs.getD i 0 : Nat) : Int)) := by
  intro i hi
  have hl : zs.length = n := by have := h.1; simpa using this
  rcases own_form2 h with ⟨_, h0, _⟩ | ⟨q, rfl, _, _, _, hq⟩
  · omega
  · refine ⟨q, 0, rfl, hq, ?_⟩
    rw [Nat.zero_add, h.cellAt i (by omega), List.getElem?_map, List.getElem?_eq_getElem (by omega)]
    simp [iv, List.getD_eq_getElem?_getD, List.getElem?_eq_getElem (show i < zs.length by omega)]
theorem CanonV.eq {L : Nat → St} {C : Nat → Int} {n : Nat} {w w' : World} {v : Value} {code : Int} (h : CanonV L C n w w' v code) (out : List Nat) (ho : IsCanon L C n out) (hl : out.length ≤ 300) :
    code = 0 ∧ ∃ p cap, v = .slice p out.length cap ∧ RowI w' w'.heap.size p out.length (fun i => ((out.getD i 0 : Nat) : Int)) := by
  obtain ⟨out', ho', hb, h⟩ := h
  obtain rfl := ho'.unique ho
  rcases h with ⟨_, rfl, B, hown, _⟩ | ⟨h, _⟩
  · obtain ⟨p, cap, rfl, _⟩ := own_form hown
    exact ⟨rfl, p, cap, rfl, row_own hown⟩
  · omega
theorem CanonV.below {L : Nat → St} {C : Nat → Int} {n : Nat} {w w' : World} {v : Value} {code : Int} (h : CanonV L C n w w' v code) : RowKit.Below w.heap.size w w' := by
  obtain ⟨_, _, hb, _⟩ := h; exact hb
/-- the example's events -/
def exL (i : Nat) : St := [(5, 1, 0), (3, 2, 7), (5, 1, 0), (4, 2, 7)].getD i (0, 0, 0)
theorem ex4 : IsCanon exL (fun _ => 0) 4 [0] := by
  have h0 : cnts exL (fun _ => 0) 4 0 = true := by decide +kernel
  have h1 : cnts exL (fun _ => 0) 4 1 = false := by decide +kernel
  have h2 : cnts exL (fun _ => 0) 4 2 = false := by decide +kernel
  have h3 : cnts exL (fun _ => 0) 4 3 = false := by decide +kernel
  refine ⟨fun i => ?_, by simp⟩
  rw [List.mem_singleton]
  constructor
  · rintro rfl; exact ⟨by omega, h0⟩
  · rintro ⟨hi, hc⟩
    have : i = 0 ∨ i = 1 ∨ i = 2 ∨ i = 3 := by omega
    rcases this with rfl | rfl | rfl | rfl
    · rfl
    · rw [h1] at hc; cases hc
    · rw [h2] at hc; cases hc
    · rw [h3] at hc; cases hc
theorem ex3 : IsCanon exL (fun _ => 0) 3 [1, 0] := by
  have h0 : cnts exL (fun _ => 0) 3 0 = true := by decide +kernel
  have h1 : cnts exL (fun _ => 0) 3 1 = true := by decide +kernel
  have h2 : cnts exL (fun _ => 0) 3 2 = false := by decide +kernel
  refine ⟨fun i => ?_, ?_⟩
  · simp only [List.mem_cons, List.not_mem_nil, or_false]
    constructor
    · rintro (rfl | rfl)
      · exact ⟨by omega, h1⟩
      · exact ⟨by omega, h0⟩
    · rintro ⟨hi, hc⟩
      have : i = 0 ∨ i = 1 ∨ i = 2 := by omega
      rcases this with rfl | rfl | rfl
      · exact .inr rfl
      · exact .inl rfl
      · rw [h2] at hc; cases hc
  · rw [List.pairwise_cons]
    refine ⟨fun x hx => ?_, by simp⟩
    simp only [List.mem_singleton] at hx; subst hx
    unfold stLt idLt exL; simp
end Go.Proofs.Ytdggmnhddoejhaa
