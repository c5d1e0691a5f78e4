/-
  The reference's Sum: a list too long, a list with an invalid fraction, a list of valid ones.
-/
import Derived.Test.YtdohidlfcnpojaaSumAny
import Derived.Test.YtdohidlfcnpojaaRAdd
set_option linter.unusedVariables false
set_option linter.unusedSimpArgs false
namespace Go.Proofs.Ytdohidlfcnpojaa
open Go.RowKit
set_option linter.unusedSimpArgs false
set_option linter.unusedVariables false

theorem rsum_limit (o : Option Addr) (n c : Nat) (w : World) (hn : 100 < n) (hn1 : n ≤ 1000000) :
    Calls Try.prog 24 #[.slice o n c] w fun e w' => e = .returned (.tuple #[.agg #[.int .i64 0, .int .i64 0], .int .i64 3]) ∧ Below w.heap.size w w' := by
  have hn' : (100 : Int) < (n : Int) := by omega
  go_enter Try.func24, Try.ntmps24
  go_wp2
  refine bodyPost_ret (v := .tuple #[.agg #[.int .i64 0, .int .i64 0], .int .i64 3]) (by simp [results, Try.results24, go_sem]) rfl ⟨rfl, ?_⟩
  exact bAl (Below.refl _ _) _
set_option maxRecDepth 100000 in
set_option maxHeartbeats 8000000 in
theorem rsum_no (o : Option Addr) (n c : Nat) (L : Nat → Fr) (w : World) (hr : RowR w w.heap.size o n L) (hn : n ≤ 100) (hi : ∀ i, i < n → -9223372036854775808 ≤ (L i).1 ∧ (L i).1 < 9223372036854775808 ∧ -9223372036854775808 ≤ (L i).2 ∧ (L i).2 < 9223372036854775808) (hv : allV L n = false) :
    Calls Try.prog 24 #[.slice o n c] w fun e w' => e = .returned (.tuple #[.agg #[.int .i64 0, .int .i64 0], .int .i64 1]) ∧ Below w.heap.size w w' := by
  obtain ⟨m, hmn, hbad, hgood⟩ := allV_no hv
  have HR := Lib.hid hr
  have HI := Lib.hid hi
  have HBAD := Lib.hid hbad
  have HGOOD := Lib.hid hgood
  have hn' : ¬ (100 : Int) < (n : Int) := by omega
  clear hr hi hv hbad hgood
  go_enter Try.func24, Try.ntmps24
  go_wp2
  have B0 : Blk (w.alloc (.cells #[.int .i64 0, .int .i64 0] 26)) w.heap.size 26 #[.int .i64 0, .int .i64 0] := Blk.newAt rfl
  have hb0 := bAl (Below.refl w.heap.size w) (.cells #[.int .i64 0, .int .i64 0] 26)
  go_loopw [4] (fun i wr => ∃ k : Nat, i = .int .i64 k ∧ k ≤ m ∧ Hid (Blk wr w.heap.size 26 #[.int .i64 0, .int .i64 0] ∧ Below w.heap.size w wr)) (fun i _ => n - (intOf i).toNat)
  case atStart => exact ⟨0, rfl, Nat.zero_le _, B0, hb0⟩
  case round =>
    clear B0 hb0
    obtain ⟨k, rfl, hk, HB⟩ := hrel
    have hkn : k < n := by omega
    have hkn' : (k : Int) < (n : Int) := by omega
    obtain ⟨b, off, rfl, hbB, g0, g1⟩ := HR.out k hkn
    have c0 := (HB.out.2.cell (p := ⟨b, off + k * 2, none⟩) hbB).trans g0
    have c1 := (HB.out.2.cell (p := ⟨b, off + k * 2 + 1, none⟩) hbB).trans g1
    obtain ⟨e0, e1, e2, e3⟩ := HI.out k hkn
    by_cases hkm : k < m
    · have HVK := Lib.hid (HGOOD.out k hkm)
      clear g0 g1
      generalize (L k).1 = p at c0 e0 e1 HVK
      generalize (L k).2 = d at c1 e2 e3 HVK
      go_wp2_with fail
      refine (r_valid _ _ e0 e1 e2 e3 _).mono ?_
      rintro e w1 ⟨rfl, hb1⟩
      rw [HVK.out]
      have HB1 := Lib.hid (And.intro (HB.out.1.later hb1) (bTr HB.out.2 hb1))
      clear hb1 HB c0 c1 e0 e1 e2 e3
      go_wp2
      go_roundw
      case rel => exact ⟨k + 1, by go_num, by omega, HB1.out⟩
      case measure => simp [intOf]; omega
    · obtain rfl : m = k := by omega
      have HVK := HBAD
      clear g0 g1 HBAD
      generalize (L m).1 = p at c0 e0 e1 HVK
      generalize (L m).2 = d at c1 e2 e3 HVK
      go_wp2_with fail
      refine (r_valid _ _ e0 e1 e2 e3 _).mono ?_
      rintro e w1 ⟨rfl, hb1⟩
      rw [HVK.out]
      have HB1 := Lib.hid (And.intro (HB.out.1.later hb1) (bTr HB.out.2 hb1))
      clear hb1 HB c0 c1 e0 e1 e2 e3
      obtain ⟨⟨r0, r1⟩, ⟨q0, q1⟩, hzr⟩ := HB1.out.1.two
      go_wp2
      refine bodyPost_ret (v := .tuple #[.agg #[.int .i64 0, .int .i64 0], .int .i64 1]) (by simp [results, Try.results24, go_sem, r0, r1, hzr]) rfl ⟨rfl, ?_⟩
      exact bSt (bSt HB1.out.2 (by simp) _) (by simp) _
end Go.Proofs.Ytdohidlfcnpojaa
