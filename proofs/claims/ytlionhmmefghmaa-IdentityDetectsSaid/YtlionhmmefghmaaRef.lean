/-
  The reference of layer 4: Valid, Letter, place, Shape.
-/
import Derived.Test.YtlionhmmefghmaaFmt
namespace Go.Proofs.Ytlionhmmefghmaa
open Go.RowKit
set_option linter.unusedSimpArgs false
set_option linter.unusedVariables false
set_option maxRecDepth 100000

theorem rvalid_any (a b d : Int) (w : World) :
    Calls Try.prog 16 #[.agg #[.int .i64 a, .int .i64 b, .int .i64 d]] w fun e w' => e = .returned (.bool (okID a b d)) ∧ Below w.heap.size w w' := by
  have HV : Hid (okID a b d = (decide (0 ≤ a ∧ a ≤ 99) && (decide (0 ≤ b ∧ b ≤ 99) && decide (0 ≤ d ∧ d ≤ 9999)))) := Lib.hid rfl
  go_enter Try.func16, Try.ntmps16
  go_wp2
  all_goals exact bodyPost_ret (v := .bool (okID a b d)) (by simp [results, Try.results16, go_sem, HV.out, *]; try (intros; omega)) rfl ⟨rfl, bAl (Below.refl _ _) _⟩
theorem byteAt_at (s : ByteArray) (k : Nat) (h : k < s.size) : ((s[k]).toNat : Int) = byteAt s k := by
  unfold byteAt
  rw [List.getD_eq_getElem?_getD, List.getElem?_eq_getElem (by rw [size_data]; exact h)]
  rfl
theorem letter_cut (k : Nat) (h : k < 23) : (⟨letA⟩ : ByteArray).extract k (k + 1) = ⟨[UInt8.ofNat (lett k).toNat].toArray⟩ := by
  have : ∀ k : Fin 23, ((⟨letA⟩ : ByteArray).extract k.val (k.val + 1)).data = #[UInt8.ofNat (lett k.val).toNat] := by decide +kernel
  exact ByteArray.ext (this ⟨k, h⟩)
set_option maxHeartbeats 2000000 in
theorem rletter_any (s : ByteArray) (w : World) :
    Calls Try.prog 19 #[.string s] w fun e w' => e = .returned (.tuple #[.string (letS s), .int .i64 (letE s)]) ∧ Below w.heap.size w w' := by
  by_cases h8 : s.size = 8
  · go_enter Try.func19, Try.ntmps19
    go_wp2
    go_loopw [4, 5] (fun v i wr => ∃ (k : Nat), i = .int .i64 k ∧ k ≤ 8 ∧ v = .int .i64 (wsum (byteAt s) k) ∧ digs (byteAt s) k = true ∧ wr = w) (fun _ i _ => 8 - (intOf i).toNat)
    case atStart => exact ⟨0, rfl, by omega, rfl, rfl, rfl⟩
    case round =>
      obtain ⟨k, rfl, hk, rfl, HD, rfl⟩ := hrel
      have hb := wsum_bd (byteAt s) k
      by_cases hk8 : k < 8
      · have hx := byteAt_at s k (by omega)
        have hxb := byteAt_bd s k
        have hk2 : (k : Int) * k ≤ 49 := by have := Nat.mul_le_mul (show k ≤ 7 by omega) (show k ≤ 7 by omega); have e := Int.natCast_mul k k; omega
        have HS : Hid (wsum (byteAt s) (k + 1) = wsum (byteAt s) k + ((k : Int) + 1) * dg (byteAt s k)) := Lib.hid rfl
        have hks : k < s.size := by omega
        by_cases h1 : 48 ≤ byteAt s k ∧ byteAt s k ≤ 57
        · have HD' : Hid (digs (byteAt s) (k + 1) = true) := Lib.hid (by simp [digs, HD, h1])
          obtain ⟨h1, h2⟩ := h1
          generalize byteAt s k = x at hx hxb HS h1 h2
          have hdg : dg x = x - 48 := by unfold dg; omega
          rw [hdg] at HS
          have b0 : 0 ≤ ((k : Int) + 1) * (x - 48) := Int.mul_nonneg (by omega) (by omega)
          have b1 : ((k : Int) + 1) * (x - 48) ≤ 8 * 256 := Int.mul_le_mul (by omega) (by omega) (by omega) (by omega)
          go_wp2
          case roundEnd => exact ⟨⟨k + 1, by simp, by omega, by rw [HS.out], HD'.out, trivial⟩, by simp [intOf]; omega⟩
        · have HN : Hid (ByteArray.empty = letS s ∧ (7 : Int) = letE s) := by
            have := digs_no (c := byteAt s) (n := 8) hk8 h1
            exact Lib.hid ⟨by unfold letS; rw [if_neg (by simp [this])], by unfold letE; rw [if_neg (by simp [this])]⟩
          generalize byteAt s k = x at hx hxb HS h1
          go_wp2
          all_goals exact bodyPost_ret (v := .tuple #[.string .empty, .int .i64 7]) (by simp [results, Try.results19, go_sem]; rfl) rfl ⟨ret_text HN.out.1 HN.out.2, Below.refl _ _⟩
      · obtain rfl : k = 8 := by omega
        have hm : 0 ≤ wsum (byteAt s) 8 % 23 ∧ wsum (byteAt s) 8 % 23 < 23 := by omega
        obtain ⟨m, hm'⟩ := Int.eq_ofNat_of_zero_le hm.1
        rw [hm'] at hm
        have HN : Hid ((⟨letA⟩ : ByteArray).extract m (m + 1) = letS s ∧ (0 : Int) = letE s) := Lib.hid ⟨by unfold letS; rw [if_pos ⟨h8, HD⟩, hm', letter_cut m (by omega)]; rfl, by unfold letE; rw [if_pos ⟨h8, HD⟩]⟩
        have hcut := run_slice_string (P := Try.prog) wr 9 ⟨letA⟩ .i64 .i64 (m : Int) ((m : Int) + 1) Try.underlying9 (by omega) (by omega) (by show (m : Int) + 1 ≤ 23; omega)
        rw [show ((m : Int).toNat) = m by omega, show (((m : Int) + 1).toNat) = m + 1 by omega] at hcut
        go_wp2
        exact bodyPost_ret (v := .tuple #[.string ((⟨letA⟩ : ByteArray).extract m (m + 1)), .int .i64 0]) (by simp [results, Try.results19, go_sem]) rfl ⟨ret_text HN.out.1 HN.out.2, Below.refl _ _⟩
  · have HN : Hid (ByteArray.empty = letS s ∧ (7 : Int) = letE s) := Lib.hid ⟨by unfold letS; rw [if_neg (by omega)], by unfold letE; rw [if_neg (by omega)]⟩
    go_enter Try.func19, Try.ntmps19
    go_wp2
    exact bodyPost_ret (v := .tuple #[.string .empty, .int .i64 7]) (by simp [results, Try.results19, go_sem]; rfl) rfl ⟨ret_text HN.out.1 HN.out.2, Below.refl _ _⟩
/-- a byte that may stand at place i -/
def plc (i : Nat) (b : Int) : Bool := if i < 8 then decide (48 ≤ b ∧ b ≤ 57) else isLet b
theorem isLet_iff (b : Int) (h0 : 0 ≤ b) (h1 : b < 256) : isLet b = true ↔ ∃ k, k < 23 ∧ lett k = b := by
  have : ∀ x : Fin 256, isLet (x.val : Int) = true ↔ ∃ k : Fin 23, lett k.val = (x.val : Int) := by decide +kernel
  obtain ⟨n, rfl⟩ := Int.eq_ofNat_of_zero_le h0
  have := this ⟨n, by omega⟩
  rw [this]
  exact ⟨fun ⟨k, e⟩ => ⟨k.val, k.isLt, e⟩, fun ⟨k, hk, e⟩ => ⟨⟨k, hk⟩, e⟩⟩
theorem place_any (i : Nat) (b : Int) (h0 : 0 ≤ b) (h1 : b < 256) (w : World) :
    Calls Try.prog 40 #[.int .i64 i, .int .u8 b] w fun e w' => e = .returned (.bool (plc i b)) ∧ Below w.heap.size w w' := by
  go_enter Try.func40, Try.ntmps40
  by_cases hi : i < 8
  · have HP : Hid (plc i b = decide (48 ≤ b ∧ b ≤ 57)) := Lib.hid (by unfold plc; rw [if_pos hi])
    go_wp2
    all_goals exact bodyPost_ret (v := .bool (plc i b)) (by simp [results, Try.results40, go_sem, HP.out]; try omega) rfl ⟨rfl, Below.refl _ _⟩
  · have HP : Hid (plc i b = isLet b) := Lib.hid (by unfold plc; rw [if_neg hi])
    have HI := Lib.hid (isLet_iff b h0 h1)
    go_wp2
    go_loopw [5] (fun v wr => ∃ (k : Nat), v = .int .i64 k ∧ k ≤ 23 ∧ Hid (∀ j, j < k → lett j ≠ b) ∧ wr = w) (fun v _ => 23 - (intOf v).toNat)
    case atStart => exact ⟨0, rfl, by omega, Lib.hid (fun j hj => by omega), rfl⟩
    case round =>
      obtain ⟨k, rfl, hk, HJ, rfl⟩ := hrel
      by_cases hk8 : k < 23
      · have hx : (((⟨letA⟩ : ByteArray)[k]).toNat : Int) = lett k := lett_at k hk8
        by_cases he : lett k = b
        · have HT : Hid (plc i b = true) := Lib.hid (by rw [HP.out, HI.out]; exact ⟨k, hk8, he⟩)
          go_wp2
          exact bodyPost_ret (v := .bool true) (by simp [results, Try.results40, go_sem]) rfl ⟨ret_bool HT.out.symm, Below.refl _ _⟩
        · go_wp2
          case roundEnd =>
            refine ⟨⟨k + 1, by simp, by omega, Lib.hid (fun j hj => ?_), trivial⟩, by simp [intOf]; omega⟩
            rcases Nat.lt_or_ge j k with g | g
            · exact HJ.out j g
            · obtain rfl : j = k := by omega
              exact he
      · obtain rfl : k = 23 := by omega
        have HT : Hid (plc i b = false) := Lib.hid (by
          rw [HP.out]
          cases e : isLet b
          · rfl
          · obtain ⟨j, hj, e⟩ := HI.out.1 e
            exact absurd e (HJ.out j hj))
        go_wp2
        exact bodyPost_ret (v := .bool false) (by simp [results, Try.results40, go_sem]) rfl ⟨ret_bool HT.out.symm, Below.refl _ _⟩
end Go.Proofs.Ytlionhmmefghmaa
