/-
  Check of the reference.
-/
import Derived.Test.YtglikjdgjmijfaaSCheck
namespace Go.Proofs.Ytglikjdgjmijfaa
open Go.RowKit
set_option linter.unusedSimpArgs false
set_option linter.unusedVariables false

set_option maxHeartbeats 1000000 in
theorem fresh_any (o : Option Addr) (n c : Nat) (nm : Nat → ByteArray) (i : Nat) (w : World) (hs : RowStr w w.heap.size o n nm) (hi : i < n) (hn : n ≤ 1000000) :
    Calls Try.prog 42 #[.slice o n c, .int .i64 i] w fun e w' => e = .returned (.int .i64 (nmE nm i)) ∧ Below w.heap.size w w' := by
  have HS := Lib.hid hs
  clear hs
  have hi' : (i : Int) < (n : Int) := by omega
  have hi0 : (0 : Int) ≤ (i : Int) := by omega
  obtain ⟨b, off, rfl, hbB, hc⟩ := HS.out i hi
  have HN := Lib.hid (rname_any (nm i) w)
  have HE := Lib.hid (show nmE nm i = if nameB (nm i) = true then (if hasS nm (nm i) i = true then 5 else 0) else 7 from rfl)
  rw [HE.out]
  clear HE
  generalize nameB (nm i) = q at HN ⊢
  cases q
  · rw [if_neg (by decide)]
    generalize nm i = x at hc HN
    go_enter Try.func42, Try.ntmps42
    go_wp2_with (go_at_call 62; refine HN.out.mono ?_; rintro e w' ⟨rfl, rfl⟩)
    go_ret
    exact ⟨rfl, Below.refl _ _⟩
  · rw [if_pos rfl]
    obtain ⟨d, hd⟩ : ∃ d, (if hasS nm (nm i) i = true then (5 : Int) else 0) = d := ⟨_, rfl⟩
    rw [hd]
    have HD := Lib.hid hd
    clear hd
    have HX := Lib.hid (show nm i = nm i from rfl)
    generalize hx : nm i = x at hc HN HD
    have HXX := Lib.hid hx
    clear hx HX
    go_enter Try.func42, Try.ntmps42
    go_wp2_with (go_at_call 62; refine HN.out.mono ?_; rintro e w' ⟨rfl, rfl⟩)
    go_loopw [5] (fun j wr => ∃ k : Nat, j = .int .i64 k ∧ k ≤ i ∧ Hid (hasS nm x k = false) ∧ Hid (Below w'.heap.size w' wr)) (fun j _ => i - (intOf j).toNat)
    case atStart => exact ⟨0, rfl, Nat.zero_le _, Lib.hid rfl, Lib.hid (Below.refl _ _)⟩
    case round =>
      obtain ⟨k, rfl, hk, HK, HB⟩ := hrel
      by_cases hki : k < i
      · have hki' : (k : Int) < (i : Int) := by omega
        have hkn : (k : Int) < (n : Int) := by omega
        have hk0 : (0 : Int) ≤ (k : Int) := by omega
        obtain ⟨b', off', hbb, _, hck⟩ := HS.out.below HB.out (Nat.le_refl _) k (by omega)
        injection hbb with hbb
        injection hbb with h1 h2
        subst h1; subst h2
        have hci : wr.cell? ⟨b, off + i, none⟩ = some (.string x) := (HB.out.cell (p := ⟨b, off + i, none⟩) hbB).trans hc
        by_cases he : eqS (nm k) x = true
        · have HF := Lib.hid (show (5 : Int) = d by rw [← HD.out, if_pos (hasS_yes he hki)])
          have he' : ((nm k).toList == x.toList) = true := he
          generalize nm k = y at hck he'
          clear he
          go_wp2_with fail
          go_quiet (fail)
          go_wp2_with fail
          exact bodyPost_ret (v := .int .i64 5) (by simp [results, Try.results42, go_sem]) rfl ⟨ret_int HF.out, bDr HB.out _⟩
        · have he1 : eqS (nm k) x = false := by simpa using he
          have HK2 := Lib.hid (show hasS nm x (k + 1) = false by show (hasS nm x k || eqS (nm k) x) = false; rw [HK.out, he1]; rfl)
          have he' : ((nm k).toList == x.toList) = false := he1
          clear he he1
          generalize nm k = y at hck he'
          go_wp2_with fail
          go_quiet (fail)
          go_wp2_with fail
          go_roundw
          case rel => exact ⟨k + 1, by go_num, by omega, HK2, Lib.hid (bDr HB.out _)⟩
          case measure => simp [intOf]; omega
      · obtain rfl : k = i := by omega
        have HF := Lib.hid (show (0 : Int) = d by rw [← HD.out, HK.out]; rfl)
        go_wp2_with fail
        exact bodyPost_ret (v := .int .i64 0) (by simp [results, Try.results42, go_sem]) rfl ⟨ret_int HF.out, HB.out⟩
end Go.Proofs.Ytglikjdgjmijfaa
