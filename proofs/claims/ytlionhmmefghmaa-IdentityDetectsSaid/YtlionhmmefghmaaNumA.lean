/-
  The number (nine bytes) of package identity: its digits.
-/
import Derived.Test.YtlionhmmefghmaaMem
import Derived.Test.YtlionhmmefghmaaProg
import Derived.Deep.RegionWith
namespace Go.Proofs.Ytlionhmmefghmaa
open Go.RowKit
set_option linter.unusedSimpArgs false
set_option linter.unusedVariables false

/-- nine bytes as a value -/
def nine (c : Nat → Int) : Array Value := #[.int .u8 (c 0), .int .u8 (c 1), .int .u8 (c 2), .int .u8 (c 3), .int .u8 (c 4), .int .u8 (c 5), .int .u8 (c 6), .int .u8 (c 7), .int .u8 (c 8)]
/-- the check letters -/
abbrev letA : Array UInt8 := #[65, 66, 67, 68, 69, 70, 71, 72, 74, 75, 76, 77, 78, 80, 81, 82, 83, 84, 85, 86, 87, 88, 89]
def lett (k : Nat) : Int := ((letA.getD k 0).toNat : Int)
theorem lett_at (k : Nat) (h : k < letA.size) : ((letA[k]).toNat : Int) = lett k := by
  unfold lett
  rw [← Array.getElem_eq_getD]
abbrev dg (x : Int) : Int := (x - 48) % 256

theorem nine_at (c : Nat → Int) {k : Nat} (hk : k < 9) : (nine c)[k]? = some (.int .u8 (c k)) := by
  obtain rfl | rfl | rfl | rfl | rfl | rfl | rfl | rfl | rfl : k = 0 ∨ k = 1 ∨ k = 2 ∨ k = 3 ∨ k = 4 ∨ k = 5 ∨ k = 6 ∨ k = 7 ∨ k = 8 := by omega
  all_goals rfl
theorem digit_any (c : Nat → Int) (k : Nat) (hk : k < 9) (hc : ∀ i, 0 ≤ c i ∧ c i < 256) (w : World) :
    Calls Try.prog 44 #[.agg (nine c), .int .i64 k] w fun e w' => e = .returned (.int .i64 (dg (c k))) ∧ Below w.heap.size w w' := by
  have h9 := nine_at c hk
  go_enter Try.func44, Try.ntmps44
  go_wp2
  refine bodyPost_ret (v := .int .i64 (dg (c k))) (by simp [results, Try.results44, go_sem]) rfl ⟨rfl, bAl (Below.refl _ _) _⟩

/-- the weighted sum of the first k digits -/
def wsum (c : Nat → Int) : Nat → Int
  | 0 => 0
  | k + 1 => wsum c k + ((k : Int) + 1) * dg (c k)
theorem nine_cells (c : Nat → Int) : (nine c)[0]? = some (.int .u8 (c 0)) ∧ (nine c)[1]? = some (.int .u8 (c 1)) ∧ (nine c)[2]? = some (.int .u8 (c 2)) ∧ (nine c)[3]? = some (.int .u8 (c 3)) ∧ (nine c)[4]? = some (.int .u8 (c 4)) ∧ (nine c)[5]? = some (.int .u8 (c 5)) ∧ (nine c)[6]? = some (.int .u8 (c 6)) ∧ (nine c)[7]? = some (.int .u8 (c 7)) ∧ (nine c)[8]? = some (.int .u8 (c 8)) :=
  ⟨rfl, rfl, rfl, rfl, rfl, rfl, rfl, rfl, rfl⟩
theorem Blk.nine {w : World} {g : Nat} {t : TypeId} {c : Nat → Int} (h : Blk w g t (nine c)) :
    w.cell? ⟨g, 0, none⟩ = some (.int .u8 (c 0)) ∧ w.cell? ⟨g, 1, none⟩ = some (.int .u8 (c 1)) ∧ w.cell? ⟨g, 2, none⟩ = some (.int .u8 (c 2)) ∧ w.cell? ⟨g, 3, none⟩ = some (.int .u8 (c 3)) ∧ w.cell? ⟨g, 4, none⟩ = some (.int .u8 (c 4)) ∧ w.cell? ⟨g, 5, none⟩ = some (.int .u8 (c 5)) ∧ w.cell? ⟨g, 6, none⟩ = some (.int .u8 (c 6)) ∧ w.cell? ⟨g, 7, none⟩ = some (.int .u8 (c 7)) ∧ w.cell? ⟨g, 8, none⟩ = some (.int .u8 (c 8)) :=
  ⟨h.cell 0, h.cell 1, h.cell 2, h.cell 3, h.cell 4, h.cell 5, h.cell 6, h.cell 7, h.cell 8⟩
theorem set_nine (c : Nat → Int) {k : Nat} (hk : k < 9) (x : Int) : (nine c).setIfInBounds k (.int .u8 x) = nine (fun i => if i = k then x else c i) := by
  obtain rfl | rfl | rfl | rfl | rfl | rfl | rfl | rfl | rfl : k = 0 ∨ k = 1 ∨ k = 2 ∨ k = 3 ∨ k = 4 ∨ k = 5 ∨ k = 6 ∨ k = 7 ∨ k = 8 := by omega
  all_goals rfl
theorem nine_ext {c d : Nat → Int} (h : ∀ i, i < 9 → c i = d i) : nine c = nine d := by
  unfold nine
  rw [h 0 (by omega), h 1 (by omega), h 2 (by omega), h 3 (by omega), h 4 (by omega), h 5 (by omega), h 6 (by omega), h 7 (by omega), h 8 (by omega)]
/-- the world behind the block of an argument, as a letter -/
theorem argWorld (w : World) (c : Nat → Int) : ∃ w1, w.alloc (.cells (nine c) 43) = w1 ∧ Hid (Blk w1 w.heap.size 43 (nine c)) ∧ Hid (Below w.heap.size w w1) :=
  ⟨_, rfl, Lib.hid (Blk.newAt rfl), Lib.hid (bAl (Below.refl _ _) _)⟩
/-- the first k bytes are digits -/
def digs (c : Nat → Int) : Nat → Bool
  | 0 => true
  | k + 1 => digs c k && (decide (48 ≤ c k) && decide (c k ≤ 57))
theorem digs_iff (c : Nat → Int) (n : Nat) : digs c n = true ↔ ∀ i, i < n → 48 ≤ c i ∧ c i ≤ 57 := by
  induction n with
  | zero => simp [digs]
  | succ n ih =>
    simp only [digs, Bool.and_eq_true, decide_eq_true_eq, ih]
    constructor
    · rintro ⟨h, h1, h2⟩ i hi
      rcases Nat.lt_or_ge i n with g | g
      · exact h i g
      · obtain rfl : i = n := by omega
        exact ⟨h1, h2⟩
    · exact fun h => ⟨fun i hi => h i (by omega), h n (by omega)⟩
theorem digs_no {c : Nat → Int} {n k : Nat} (hk : k < n) (h : ¬ (48 ≤ c k ∧ c k ≤ 57)) : digs c n = false := by
  cases e : digs c n
  · rfl
  · exact absurd ((digs_iff c n).1 e k hk) h
theorem dg_bd (x : Int) : 0 ≤ dg x ∧ dg x < 256 := by unfold dg; omega
theorem wsum_bd (c : Nat → Int) (k : Nat) : 0 ≤ wsum c k ∧ wsum c k ≤ 256 * ((k : Int) * k) := by
  induction k with
  | zero => simp [wsum]
  | succ k ih =>
    obtain ⟨h1, h2⟩ := dg_bd (c k)
    have e : ((k + 1 : Nat) : Int) * ((k + 1 : Nat) : Int) = (k : Int) * k + 2 * k + 1 := by grind
    have b0 : 0 ≤ ((k : Int) + 1) * dg (c k) := Int.mul_nonneg (by omega) h1
    have b1 : ((k : Int) + 1) * dg (c k) ≤ ((k : Int) + 1) * 256 := Int.mul_le_mul_of_nonneg_left (by omega) (by omega)
    simp only [wsum]
    omega
set_option maxRecDepth 100000 in
theorem hasDigits_any (c : Nat → Int) (hc : ∀ i, 0 ≤ c i ∧ c i < 256) (w : World) :
    Calls Try.prog 31 #[.agg (nine c)] w fun e w' => e = .returned (.bool (digs c 8)) ∧ Below w.heap.size w w' := by
  go_enter Try.func31, Try.ntmps31
  go_wp2
  go_loopw [4] (fun i wr => ∃ (k : Nat), i = .int .i64 k ∧ k ≤ 8 ∧ digs c k = true ∧ wr = w.alloc (.cells (nine c) 43)) (fun i _ => 8 - (intOf i).toNat)
  case atStart => exact ⟨0, rfl, by omega, rfl, rfl⟩
  case round =>
    obtain ⟨k, rfl, hk, HD, rfl⟩ := hrel
    by_cases hk8 : k < 8
    · have h9 := nine_at c (show k < 9 by omega)
      have hc0 := hc k
      generalize hx : c k = x at h9 hc0
      by_cases h1 : 48 ≤ x ∧ x ≤ 57
      · obtain ⟨h1, h2⟩ := h1
        go_wp2
        case roundEnd => exact ⟨⟨k + 1, by simp, by omega, by simp [digs, HD, hx, h1, h2], trivial⟩, by simp [intOf]; omega⟩
      · have HN := Lib.hid (digs_no (c := c) (n := 8) hk8 (by rw [hx]; exact h1))
        go_wp2
        all_goals exact bodyPost_ret (v := .bool false) (by simp [results, Try.results31, go_sem]) rfl ⟨ret_bool (by simp [HN.out]), bAl (Below.refl _ _) _⟩
    · obtain rfl : k = 8 := by omega
      go_wp2
      exact bodyPost_ret (v := .bool true) (by simp [results, Try.results31, go_sem]) rfl ⟨ret_bool (by simp [HD]), bAl (Below.refl _ _) _⟩
set_option maxRecDepth 100000 in
theorem letter_any (c : Nat → Int) (hc : ∀ i, 0 ≤ c i ∧ c i < 256) (w : World) :
    Calls Try.prog 32 #[.agg (nine c)] w fun e w' => e = .returned (.int .u8 (lett ((wsum c 8) % 23).toNat)) ∧ Below w.heap.size w w' := by
  go_enter Try.func32, Try.ntmps32
  go_wp2
  go_loopw [3, 5] (fun s i wr => ∃ (k : Nat), i = .int .i64 k ∧ k ≤ 8 ∧ s = .int .i64 (wsum c k) ∧ Hid (Blk wr w.heap.size 43 (nine c)) ∧ Hid (Below w.heap.size w wr)) (fun _ i _ => 8 - (intOf i).toNat)
  case atStart => exact ⟨0, rfl, by omega, rfl, Lib.hid (Blk.newAt rfl), Lib.hid (bAl (Below.refl _ _) _)⟩
  case round =>
    obtain ⟨k, rfl, hk, rfl, PB, HB⟩ := hrel
    by_cases hk8 : k < 8
    · obtain ⟨z0, z1, z2, z3, z4, z5, z6, z7, z8⟩ := PB.out.nine
      have hb := wsum_bd c k
      have hk2 : (k : Int) * k ≤ 49 := by have := Nat.mul_le_mul (show k ≤ 7 by omega) (show k ≤ 7 by omega); have e := Int.natCast_mul k k; omega
      have hd := dg_bd (c k)
      have b0 : 0 ≤ ((k : Int) + 1) * dg (c k) := Int.mul_nonneg (by omega) hd.1
      have b1 : ((k : Int) + 1) * dg (c k) ≤ 8 * 256 := Int.mul_le_mul (by omega) (by omega) hd.1 (by omega)
      have HS : Hid (wsum c (k + 1) = wsum c k + ((k : Int) + 1) * dg (c k)) := Lib.hid rfl
      go_wp2_with fail
      refine (digit_any c k (by omega) hc _).mono ?_
      rintro e w' ⟨rfl, hb9⟩
      have HB' := Lib.hid (bTr HB.out hb9)
      have PB' := Lib.hid (PB.out.later hb9)
      clear z0 z1 z2 z3 z4 z5 z6 z7 z8 hb9
      go_wp2
      case roundEnd => exact ⟨⟨k + 1, by simp, by omega, by simp [HS.out], PB', HB'⟩, by simp [intOf]; omega⟩
    · obtain rfl : k = 8 := by omega
      have hb := wsum_bd c 8
      go_wp2
      exact bodyPost_ret (v := .int .u8 (lett ((wsum c 8) % 23).toNat)) (by simp [results, Try.results32, go_sem]; exact lett_at _ _) rfl ⟨rfl, HB.out⟩
end Go.Proofs.Ytlionhmmefghmaa
