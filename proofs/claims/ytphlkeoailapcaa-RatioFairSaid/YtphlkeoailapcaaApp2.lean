/-
  Apportion at up to eight weights of 0 to 60.
-/
import Derived.Test.YtphlkeoailapcaaApp
namespace Go.Proofs.Ytphlkeoailapcaa
open Go.RowKit
set_option linter.unusedSimpArgs false
set_option linter.unusedVariables false

/-- a row of n numbers that begins at p -/
def RowZ (w : World) (p : Option Addr) (n : Nat) (W : Nat → Int) : Prop := ∀ i, i < n → ∃ b, p = some ⟨b, 0, none⟩ ∧ b < w.heap.size ∧ w.cell? ⟨b, i, none⟩ = some (.int .i64 (W i))
theorem RowZ.below {w w' : World} {p : Option Addr} {n : Nat} {W : Nat → Int} (h : RowZ w p n W) (hb : Below w.heap.size w w') : RowZ w' p n W := fun i hi => by
  obtain ⟨b, rfl, h1, h2⟩ := h i hi
  exact ⟨b, rfl, Nat.lt_of_lt_of_le h1 hb.size, (hb.cell (p := ⟨b, i, none⟩) h1).trans h2⟩
theorem RowZ.at_ {w : World} {p : Option Addr} {n : Nat} {W : Nat → Int} (h : RowZ w p n W) (hn : 0 < n) : ∃ b, p = some ⟨b, 0, none⟩ ∧ b < w.heap.size ∧ ∀ i, i < n → w.cell? ⟨b, i, none⟩ = some (.int .i64 (W i)) := by
  obtain ⟨b, rfl, h1, h2⟩ := h 0 hn
  refine ⟨b, rfl, h1, fun i hi => ?_⟩
  obtain ⟨b', h3, h4, h5⟩ := h i hi
  obtain rfl : b = b' := by simpa using congrArg (fun x => x.map Addr.block) h3
  exact h5

theorem index_empty (p : Option Addr) (cap : Nat) (w : World) :
    Calls Try.prog 84 #[.slice p 0 cap, .func (.func 61) #[] #[]] w fun e w' => e = .returned (.int .i64 (-1)) ∧ w = w' := by
  go_enter Try.func84, Try.ntmps84
  go_wp2_with fail
  refine wp_loop_rounds 1 ?_
  rw [rounds_succ]
  go_wp2
  go_ret
  exact ⟨rfl, rfl⟩
theorem contains_empty (p : Option Addr) (cap : Nat) (w : World) :
    Calls Try.prog 60 #[.slice p 0 cap, .func (.func 61) #[] #[]] w fun e w' => e = .returned (.bool false) ∧ w = w' := by
  go_enter Try.func60, Try.ntmps60
  go_wp2_with fail
  refine (index_empty p cap w).mono ?_
  rintro e w' ⟨rfl, rfl⟩
  go_wp2
  go_ret
  exact ⟨rfl, rfl⟩
theorem contains_row {p : Option Addr} {n : Nat} (cap : Nat) {W : Nat → Int} {w : World} (h : RowZ w p n W) (hn8 : n ≤ 8) (hW : ∀ i, i < n → 0 ≤ W i ∧ W i ≤ 60) :
    Calls Try.prog 60 #[.slice p n cap, .func (.func 61) #[] #[]] w fun e w' => e = .returned (.bool false) ∧ w = w' := by
  rcases Nat.eq_zero_or_pos n with rfl | hn
  · exact contains_empty p cap w
  · obtain ⟨b, rfl, h1, h2⟩ := h.at_ hn
    exact containsFunc_none b n cap W w (by omega) h2 fun i hi => by have := hW i hi; omega

/-- what Apportion answers -/
def ApS (w : World) (n : Nat) (T : Int) (W : Nat → Int) (e : Ending) (w' : World) : Prop :=
  ∃ S, lsum W (List.range n) = S ∧ ((S = 0 ∧ e = .returned (.tuple #[.slice none 0 0, .int .i64 10]) ∧ w = w') ∨
    (0 < S ∧ e = .returned (.tuple #[.slice (some ⟨w.heap.size, 0, none⟩) n n, .int .i64 0]) ∧ Below w.heap.size w w' ∧ ∃ L ord, Fair n T S W (QT T S W) (RT T S W) L ord ∧ Blk w' w.heap.size 3 (rowN n (part (QT T S W) L ord))))

set_option maxRecDepth 100000 in
set_option maxHeartbeats 4000000 in
theorem apportion_any {p : Option Addr} {n cap : Nat} {T : Int} {W : Nat → Int} {w : World} (h : RowZ w p n W) (hn8 : n ≤ 8) (hW : ∀ i, i < n → 0 ≤ W i ∧ W i ≤ 60) (hT : 0 ≤ T ∧ T ≤ 499) :
    Calls Try.prog 29 #[.int .i64 T, .slice p n cap] w (ApS w n T W) := by
  have HI := Lib.hid (contains_row cap h hn8 hW)
  have HR := Lib.hid h
  have HW := Lib.hid hW
  clear h hW
  obtain ⟨T0, T1⟩ := hT
  have t1 : ¬ (100 : Int) < (n : Int) := by omega
  have t2 : ¬ T < 0 := by omega
  have t3 : ¬ (1073741824 : Int) < T := by omega
  go_enter Try.func29, Try.ntmps29
  go_wp2_with fail
  refine HI.out.mono ?_
  rintro e w' ⟨rfl, rfl⟩
  go_wp2_with fail
  clear t1 t2 t3
  go_loop [6, 24] (fun s i => ∃ k : Nat, k ≤ n ∧ i = .int .i64 k ∧ s = .int .i64 (lsum W (List.range k))) (fun _ i => n - (intOf i).toNat)
  case atStart => exact ⟨0, by omega, rfl, by simp [lsum]⟩
  case round =>
    obtain ⟨k, hk, rfl, rfl⟩ := hrel
    have hlb := lsum_nk HW.out k hk
    have hsn := Lib.hid (lsum_snoc W k)
    by_cases hlt : k < n
    · obtain ⟨b, rfl, hb, hc⟩ := HR.out.at_ (by omega : 0 < n)
      have c0 := hc k hlt
      have hx := HW.out k hlt
      clear hc
      generalize lsum W (List.range k) = lf at *
      generalize W k = x at *
      have hlt' : (k : Int) < (n : Int) := by omega
      have hk0 : (0 : Int) ≤ (k : Int) := by omega
      have hlw : IntKind.i64.wrap (lf + x) = lf + x := by rw [IntKind.wrap_i64]; omega
      go_wp2
      go_round
      case rel => exact ⟨k + 1, by omega, by go_num, by rw [hsn.out]⟩
      case measure => simp [intOf]; omega
    · obtain rfl : k = n := by omega
      have hlt' : ¬ (k : Int) < (k : Int) := by omega
      obtain ⟨S, hS⟩ : ∃ S, lsum W (List.range k) = S := ⟨_, rfl⟩
      rw [hS] at hlb ⊢
      have HS := Lib.hid hS
      clear hS
      by_cases h0 : S = 0
      · subst h0
        go_wp2
        go_ret2
        exact ⟨0, HS.out, .inl ⟨rfl, rfl, rfl⟩⟩
      · have hk : 0 < k := by
          rcases Nat.eq_zero_or_pos k with rfl | h1
          · exact absurd HS.out.symm (by simpa [lsum] using h0)
          · exact h1
        obtain ⟨b, rfl, hb, hc⟩ := HR.out.at_ hk
        have HA := Lib.hid (apportioned_any b k cap T S W w hb hk hn8 hc HW.out ⟨T0, T1⟩ (by omega) HS.out)
        have h0' : (S == 0) = false := by rw [beq_eq_false_iff_ne]; exact h0
        clear hc hsn
        go_wp2_with fail
        refine HA.out.mono ?_
        rintro e w2 ⟨rfl, hb2, L, ord, hf, hB⟩
        have HX := Lib.hid (show ApS w k T W (.returned (.tuple #[.slice (some ⟨w.heap.size, 0, none⟩) k k, .int .i64 0])) w2 from ⟨S, HS.out, .inr ⟨by omega, rfl, hb2, L, ord, hf, hB⟩⟩)
        clear hf hB hb2 HA
        go_wp2
        go_ret2
        exact HX.out
end Go.Proofs.Ytphlkeoailapcaa
