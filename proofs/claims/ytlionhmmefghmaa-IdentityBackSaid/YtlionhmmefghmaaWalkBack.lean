/-
  The walk of the statement that Parse and Format are inverse.
-/
import Derived.Test.YtlionhmmefghmaaIdMath
namespace Go.Proofs.Ytlionhmmefghmaa
open Go.RowKit
set_option linter.unusedSimpArgs false
set_option linter.unusedVariables false
set_option maxRecDepth 100000

attribute [local irreducible] prV prE fmtS fmtE in
set_option maxHeartbeats 4000000 in
theorem walkIdentityBack (a0 : Int) (s : ByteArray) (l0 : -9223372036854775808 ≤ a0) (u0 : a0 < 9223372036854775808) (hs : s.size ≤ maxLen) (w : World) :
    Calls Try.prog 6 #[.int .i64 a0, .string s] w fun e w' => e = .returned (.bool true) ∧ Below w.heap.size w w' := by
  go_enter Try.func6, Try.ntmps6
  go_wp2_with fail
  refine (cut_any a0 100000000 (by omega) (by omega) _).mono ?_
  rintro e w' ⟨rfl, rfl⟩
  have hb0 : 0 ≤ a0 % 100000000 ∧ a0 % 100000000 < 100000000 := by omega
  generalize a0 % 100000000 = n at hb0 ⊢
  obtain ⟨N, rfl⟩ := Int.eq_ofNat_of_zero_le hb0.1
  obtain ⟨hf1, hf2⟩ := fmt_of N (by omega)
  obtain ⟨hp1, hp2⟩ := parse_num N (by omega)
  have hn1 : (N : Int) % 1000000 / 10000 = (N : Int) / 10000 % 100 := by omega
  have hcs := text_back s
  have HB := Lib.hid (Below.refl w'.heap.size w')
  go_wp2_with fail
  have Px11 : Hid (Blk (w'.alloc (.cells #[.int .i64 ((N : Int) / 1000000), .int .i64 ((N : Int) / 10000 % 100), .int .i64 ((N : Int) % 10000)] 23)) w'.heap.size 23 #[.int .i64 ((N : Int) / 1000000), .int .i64 ((N : Int) / 10000 % 100), .int .i64 ((N : Int) % 10000)]) := Lib.hid (Blk.newAt rfl)
  have HB11 := Lib.hid (bAl HB.out (.cells #[.int .i64 ((N : Int) / 1000000), .int .i64 ((N : Int) / 10000 % 100), .int .i64 ((N : Int) % 10000)] 23))
  generalize (w'.alloc (.cells #[.int .i64 ((N : Int) / 1000000), .int .i64 ((N : Int) / 10000 % 100), .int .i64 ((N : Int) % 10000)] 23)) = w1 at Px11 HB11 ⊢
  generalize w'.heap.size = gx at Px11 ⊢
  clear HB
  refine (format_any _ _ _ _).mono ?_
  rintro e w2 ⟨rfl, hb⟩
  have HB12 := Lib.hid (bTr HB11.out hb)
  have Px12 := Lib.hid (Px11.out.later hb)
  clear Px11
  clear hb HB11
  rw [hf1, hf2]
  go_wp2_with fail
  refine (parse_any _ _).mono ?_
  rintro e w3 ⟨rfl, hb⟩
  have HB13 := Lib.hid (bTr HB12.out hb)
  have Px13 := Lib.hid (Px12.out.later hb)
  clear Px12
  clear hb HB12
  rw [hp1, hp2, hn1]
  go_wp2_with fail
  have Py14 : Hid (Blk (w3.alloc (.cells #[.int .i64 ((N : Int) / 1000000), .int .i64 ((N : Int) / 10000 % 100), .int .i64 ((N : Int) % 10000)] 23)) w3.heap.size 23 #[.int .i64 ((N : Int) / 1000000), .int .i64 ((N : Int) / 10000 % 100), .int .i64 ((N : Int) % 10000)]) := Lib.hid (Blk.newAt rfl)
  have Px14 := Lib.hid (Px13.out.alloc (.cells #[.int .i64 ((N : Int) / 1000000), .int .i64 ((N : Int) / 10000 % 100), .int .i64 ((N : Int) % 10000)] 23))
  clear Px13
  have HB14 := Lib.hid (bAl HB13.out (.cells #[.int .i64 ((N : Int) / 1000000), .int .i64 ((N : Int) / 10000 % 100), .int .i64 ((N : Int) % 10000)] 23))
  generalize (w3.alloc (.cells #[.int .i64 ((N : Int) / 1000000), .int .i64 ((N : Int) / 10000 % 100), .int .i64 ((N : Int) % 10000)] 23)) = w4 at Px14 Py14 HB14 ⊢
  generalize w3.heap.size = gy at Px14 Py14 ⊢
  clear HB13
  refine (parse_any s _).mono ?_
  rintro e w5 ⟨rfl, hb⟩
  have HB15 := Lib.hid (bTr HB14.out hb)
  have Px15 := Lib.hid (Px14.out.later hb)
  clear Px14
  have Py15 := Lib.hid (Py14.out.later hb)
  clear Py14
  clear hb HB14
  by_cases h0 : prE s = 0
  · obtain ⟨M, hM, hM1, hM2⟩ := hcs h0
    obtain ⟨hg1, hg2⟩ := fmt_of M hM
    have hn2 : (M : Int) % 1000000 / 10000 = (M : Int) / 10000 % 100 := by omega
    rw [h0, hM1, hn2]
    go_wp2_with fail
    have Pz16 : Hid (Blk (w5.alloc (.cells #[.int .i64 ((M : Int) / 1000000), .int .i64 ((M : Int) / 10000 % 100), .int .i64 ((M : Int) % 10000)] 23)) w5.heap.size 23 #[.int .i64 ((M : Int) / 1000000), .int .i64 ((M : Int) / 10000 % 100), .int .i64 ((M : Int) % 10000)]) := Lib.hid (Blk.newAt rfl)
    have Px16 := Lib.hid (Px15.out.alloc (.cells #[.int .i64 ((M : Int) / 1000000), .int .i64 ((M : Int) / 10000 % 100), .int .i64 ((M : Int) % 10000)] 23))
    clear Px15
    have Py16 := Lib.hid (Py15.out.alloc (.cells #[.int .i64 ((M : Int) / 1000000), .int .i64 ((M : Int) / 10000 % 100), .int .i64 ((M : Int) % 10000)] 23))
    clear Py15
    have HB16 := Lib.hid (bAl HB15.out (.cells #[.int .i64 ((M : Int) / 1000000), .int .i64 ((M : Int) / 10000 % 100), .int .i64 ((M : Int) % 10000)] 23))
    generalize (w5.alloc (.cells #[.int .i64 ((M : Int) / 1000000), .int .i64 ((M : Int) / 10000 % 100), .int .i64 ((M : Int) % 10000)] 23)) = w6 at Px16 Py16 Pz16 HB16 ⊢
    generalize w5.heap.size = gz at Px16 Py16 Pz16 ⊢
    clear HB15
    refine (format_any _ _ _ _).mono ?_
    rintro e w7 ⟨rfl, hb⟩
    have HB17 := Lib.hid (bTr HB16.out hb)
    have Px17 := Lib.hid (Px16.out.later hb)
    clear Px16
    have Py17 := Lib.hid (Py16.out.later hb)
    clear Py16
    have Pz17 := Lib.hid (Pz16.out.later hb)
    clear Pz16
    clear hb HB16
    rw [hg1, hg2, hM2]
    have kx : gx < w7.heap.size := Px17.out.lt
    have xx0 : w7.cell? ⟨gx, 0, none⟩ = some (.int .i64 ((N : Int) / 1000000)) := Px17.out.cell 0
    have xx1 : w7.cell? ⟨gx, 1, none⟩ = some (.int .i64 ((N : Int) / 10000 % 100)) := Px17.out.cell 1
    have xx2 : w7.cell? ⟨gx, 2, none⟩ = some (.int .i64 ((N : Int) % 10000)) := Px17.out.cell 2
    have ky : gy < w7.heap.size := Py17.out.lt
    have xy0 : w7.cell? ⟨gy, 0, none⟩ = some (.int .i64 ((N : Int) / 1000000)) := Py17.out.cell 0
    have xy1 : w7.cell? ⟨gy, 1, none⟩ = some (.int .i64 ((N : Int) / 10000 % 100)) := Py17.out.cell 1
    have xy2 : w7.cell? ⟨gy, 2, none⟩ = some (.int .i64 ((N : Int) % 10000)) := Py17.out.cell 2
    have heq := eqlID
    go_wp2_with fail
    refine (awake_any _).mono ?_
    rintro e w11 ⟨rfl, hb⟩
    go_wp2_with fail
    go_ret
    exact ⟨rfl, bTr HB17.out hb⟩
  · go_wp2_with fail
    have Pz16 : Hid (Blk (w5.alloc (.cells #[.int .i64 (prV s / 1000000), .int .i64 (prV s % 1000000 / 10000), .int .i64 (prV s % 10000)] 23)) w5.heap.size 23 #[.int .i64 (prV s / 1000000), .int .i64 (prV s % 1000000 / 10000), .int .i64 (prV s % 10000)]) := Lib.hid (Blk.newAt rfl)
    have Px16 := Lib.hid (Px15.out.alloc (.cells #[.int .i64 (prV s / 1000000), .int .i64 (prV s % 1000000 / 10000), .int .i64 (prV s % 10000)] 23))
    clear Px15
    have Py16 := Lib.hid (Py15.out.alloc (.cells #[.int .i64 (prV s / 1000000), .int .i64 (prV s % 1000000 / 10000), .int .i64 (prV s % 10000)] 23))
    clear Py15
    have HB16 := Lib.hid (bAl HB15.out (.cells #[.int .i64 (prV s / 1000000), .int .i64 (prV s % 1000000 / 10000), .int .i64 (prV s % 10000)] 23))
    generalize (w5.alloc (.cells #[.int .i64 (prV s / 1000000), .int .i64 (prV s % 1000000 / 10000), .int .i64 (prV s % 10000)] 23)) = w6 at Px16 Py16 Pz16 HB16 ⊢
    generalize w5.heap.size = gz at Px16 Py16 Pz16 ⊢
    clear HB15
    refine (format_any _ _ _ _).mono ?_
    rintro e w7 ⟨rfl, hb⟩
    have HB17 := Lib.hid (bTr HB16.out hb)
    have Px17 := Lib.hid (Px16.out.later hb)
    clear Px16
    have Py17 := Lib.hid (Py16.out.later hb)
    clear Py16
    have Pz17 := Lib.hid (Pz16.out.later hb)
    clear Pz16
    clear hb HB16
    have kx : gx < w7.heap.size := Px17.out.lt
    have xx0 : w7.cell? ⟨gx, 0, none⟩ = some (.int .i64 ((N : Int) / 1000000)) := Px17.out.cell 0
    have xx1 : w7.cell? ⟨gx, 1, none⟩ = some (.int .i64 ((N : Int) / 10000 % 100)) := Px17.out.cell 1
    have xx2 : w7.cell? ⟨gx, 2, none⟩ = some (.int .i64 ((N : Int) % 10000)) := Px17.out.cell 2
    have ky : gy < w7.heap.size := Py17.out.lt
    have xy0 : w7.cell? ⟨gy, 0, none⟩ = some (.int .i64 ((N : Int) / 1000000)) := Py17.out.cell 0
    have xy1 : w7.cell? ⟨gy, 1, none⟩ = some (.int .i64 ((N : Int) / 10000 % 100)) := Py17.out.cell 1
    have xy2 : w7.cell? ⟨gy, 2, none⟩ = some (.int .i64 ((N : Int) % 10000)) := Py17.out.cell 2
    have heq := eqlID
    go_wp2_with fail
    refine (awake_any _).mono ?_
    rintro e w11 ⟨rfl, hb⟩
    go_wp2_with fail
    go_ret
    exact ⟨rfl, bTr HB17.out hb⟩
end Go.Proofs.Ytlionhmmefghmaa
