/-
  The walk of the statement on Parse.
-/
import Derived.Test.YtlionhmmefghmaaAwake
import Derived.Test.YtlionhmmefghmaaQuietB
namespace Go.Proofs.Ytlionhmmefghmaa
open Go.RowKit
set_option linter.unusedSimpArgs false
set_option linter.unusedVariables false
set_option maxRecDepth 100000

attribute [local irreducible] prV prE numS in
set_option maxHeartbeats 4000000 in
theorem walkIdentityParses (s : ByteArray) (a1 a2 a3 : Int) (hs : s.size ≤ maxLen) (l1 : -9223372036854775808 ≤ a1) (u1 : a1 < 9223372036854775808) (l2 : -9223372036854775808 ≤ a2) (u2 : a2 < 9223372036854775808) (l3 : 0 ≤ a3) (u3 : a3 < 256) (w : World) :
    Calls Try.prog 5 #[.string s, .int .i64 a1, .int .i64 a2, .int .u8 a3] w fun e w' => e = .returned (.bool true) ∧ Below w.heap.size w w' := by
  go_enter Try.func5, Try.ntmps5
  go_wp2_with fail
  refine (parse_any s _).mono ?_
  rintro e w1 ⟨rfl, hb⟩
  have HB := Lib.hid hb
  clear hb
  go_wp2_with fail
  have Pa11 : Hid (Blk (w1.alloc (.cells #[.int .i64 (prV s / 1000000), .int .i64 (prV s % 1000000 / 10000), .int .i64 (prV s % 10000)] 23)) w1.heap.size 23 #[.int .i64 (prV s / 1000000), .int .i64 (prV s % 1000000 / 10000), .int .i64 (prV s % 10000)]) := Lib.hid (Blk.newAt rfl)
  have HB11 := Lib.hid (bAl HB.out (.cells #[.int .i64 (prV s / 1000000), .int .i64 (prV s % 1000000 / 10000), .int .i64 (prV s % 10000)] 23))
  generalize (w1.alloc (.cells #[.int .i64 (prV s / 1000000), .int .i64 (prV s % 1000000 / 10000), .int .i64 (prV s % 10000)] 23)) = w2 at Pa11 HB11 ⊢
  generalize w1.heap.size = ga at Pa11 ⊢
  clear HB
  refine (rparse_any s _).mono ?_
  rintro e w3 ⟨rfl, hb⟩
  have HB12 := Lib.hid (bTr HB11.out hb)
  have Pa12 := Lib.hid (Pa11.out.later hb)
  clear Pa11
  clear hb HB11
  go_wp2_with fail
  have Pb13 : Hid (Blk (w3.alloc (.cells #[.int .i64 (prV s / 1000000), .int .i64 (prV s % 1000000 / 10000), .int .i64 (prV s % 10000)] 23)) w3.heap.size 23 #[.int .i64 (prV s / 1000000), .int .i64 (prV s % 1000000 / 10000), .int .i64 (prV s % 10000)]) := Lib.hid (Blk.newAt rfl)
  have Pa13 := Lib.hid (Pa12.out.alloc (.cells #[.int .i64 (prV s / 1000000), .int .i64 (prV s % 1000000 / 10000), .int .i64 (prV s % 10000)] 23))
  clear Pa12
  have HB13 := Lib.hid (bAl HB12.out (.cells #[.int .i64 (prV s / 1000000), .int .i64 (prV s % 1000000 / 10000), .int .i64 (prV s % 10000)] 23))
  generalize (w3.alloc (.cells #[.int .i64 (prV s / 1000000), .int .i64 (prV s % 1000000 / 10000), .int .i64 (prV s % 10000)] 23)) = w4 at Pa13 Pb13 HB13 ⊢
  generalize w3.heap.size = gb at Pa13 Pb13 ⊢
  clear HB12
  refine (number_any a1 (by omega) _).mono ?_
  rintro e w5 ⟨rfl, hb⟩
  have HB14 := Lib.hid (bTr HB13.out hb)
  have Pa14 := Lib.hid (Pa13.out.later hb)
  clear Pa13
  have Pb14 := Lib.hid (Pb13.out.later hb)
  clear Pb13
  clear hb HB13
  have hz : (numS a1).size = 9 := numS_size a1
  generalize numS a1 = N at hz ⊢
  go_wp2_with fail
  refine (cut_any a2 9 (by omega) (by omega) _).mono ?_
  rintro e w' ⟨rfl, rfl⟩
  have hb0 : 0 ≤ a2 % 9 ∧ a2 % 9 < 9 := by omega
  generalize a2 % 9 = at0 at hb0 ⊢
  obtain ⟨m, rfl⟩ := Int.eq_ofNat_of_zero_le hb0.1
  go_wp2_with fail
  have hcv1 := text_one w' a3 (by omega)
  have hcv2 := text_blk (w'.alloc (.cells #[.int .u8 a3] 5)).drew w'.heap.size a3 (by omega) (Blk.newAt rfl)
  have hz1 : (N.extract 0 m).size = m := by rw [ByteArray.size_extract]; omega
  have hz2 : (N.extract (m + 1) 9).size = 8 - m := by rw [ByteArray.size_extract]; omega
  have hm1 : (m : Int) ≤ 9 := by omega
  have hm2 : (m : Int) + 1 ≤ 9 := by omega
  go_region
  clear hcv1 hcv2
  generalize (N.extract 0 m ++ { data := #[UInt8.ofNat a3.toNat] } ++ N.extract (m + 1) 9) = X
  have Pa15 := Lib.hid ((Pa14.out.alloc (.cells #[.int .u8 a3] 5)).drew)
  clear Pa14
  have Pb15 := Lib.hid ((Pb14.out.alloc (.cells #[.int .u8 a3] 5)).drew)
  clear Pb14
  have HB15 := Lib.hid (bD1 (bAl HB14.out (.cells #[.int .u8 a3] 5)))
  clear HB14
  generalize ((w'.alloc (.cells #[.int .u8 a3] 5)).drew) = w6 at Pa15 Pb15 HB15  ⊢
  go_wp2_with fail
  refine (parse_any X _).mono ?_
  rintro e w7 ⟨rfl, hb⟩
  have HB16 := Lib.hid (bTr HB15.out hb)
  have Pa16 := Lib.hid (Pa15.out.later hb)
  clear Pa15
  have Pb16 := Lib.hid (Pb15.out.later hb)
  clear Pb15
  clear hb HB15
  go_wp2_with fail
  have Pc17 : Hid (Blk (w7.alloc (.cells #[.int .i64 (prV X / 1000000), .int .i64 (prV X % 1000000 / 10000), .int .i64 (prV X % 10000)] 23)) w7.heap.size 23 #[.int .i64 (prV X / 1000000), .int .i64 (prV X % 1000000 / 10000), .int .i64 (prV X % 10000)]) := Lib.hid (Blk.newAt rfl)
  have Pa17 := Lib.hid (Pa16.out.alloc (.cells #[.int .i64 (prV X / 1000000), .int .i64 (prV X % 1000000 / 10000), .int .i64 (prV X % 10000)] 23))
  clear Pa16
  have Pb17 := Lib.hid (Pb16.out.alloc (.cells #[.int .i64 (prV X / 1000000), .int .i64 (prV X % 1000000 / 10000), .int .i64 (prV X % 10000)] 23))
  clear Pb16
  have HB17 := Lib.hid (bAl HB16.out (.cells #[.int .i64 (prV X / 1000000), .int .i64 (prV X % 1000000 / 10000), .int .i64 (prV X % 10000)] 23))
  generalize (w7.alloc (.cells #[.int .i64 (prV X / 1000000), .int .i64 (prV X % 1000000 / 10000), .int .i64 (prV X % 10000)] 23)) = w8 at Pa17 Pb17 Pc17 HB17 ⊢
  generalize w7.heap.size = gc at Pa17 Pb17 Pc17 ⊢
  clear HB16
  refine (rparse_any X _).mono ?_
  rintro e w9 ⟨rfl, hb⟩
  have HB18 := Lib.hid (bTr HB17.out hb)
  have Pa18 := Lib.hid (Pa17.out.later hb)
  clear Pa17
  have Pb18 := Lib.hid (Pb17.out.later hb)
  clear Pb17
  have Pc18 := Lib.hid (Pc17.out.later hb)
  clear Pc17
  clear hb HB17
  have ka : ga < w9.heap.size := Pa18.out.lt
  have xa0 : w9.cell? ⟨ga, 0, none⟩ = some (.int .i64 (prV s / 1000000)) := Pa18.out.cell 0
  have xa1 : w9.cell? ⟨ga, 1, none⟩ = some (.int .i64 (prV s % 1000000 / 10000)) := Pa18.out.cell 1
  have xa2 : w9.cell? ⟨ga, 2, none⟩ = some (.int .i64 (prV s % 10000)) := Pa18.out.cell 2
  have kb : gb < w9.heap.size := Pb18.out.lt
  have xb0 : w9.cell? ⟨gb, 0, none⟩ = some (.int .i64 (prV s / 1000000)) := Pb18.out.cell 0
  have xb1 : w9.cell? ⟨gb, 1, none⟩ = some (.int .i64 (prV s % 1000000 / 10000)) := Pb18.out.cell 1
  have xb2 : w9.cell? ⟨gb, 2, none⟩ = some (.int .i64 (prV s % 10000)) := Pb18.out.cell 2
  have kc : gc < w9.heap.size := Pc18.out.lt
  have xc0 : w9.cell? ⟨gc, 0, none⟩ = some (.int .i64 (prV X / 1000000)) := Pc18.out.cell 0
  have xc1 : w9.cell? ⟨gc, 1, none⟩ = some (.int .i64 (prV X % 1000000 / 10000)) := Pc18.out.cell 1
  have xc2 : w9.cell? ⟨gc, 2, none⟩ = some (.int .i64 (prV X % 10000)) := Pc18.out.cell 2
  have heq := eqlID
  go_wp2_with fail
  refine (awake_any _).mono ?_
  rintro e w11 ⟨rfl, hb⟩
  go_wp2_with fail
  go_ret
  exact ⟨rfl, bTr (bAl HB18.out _) hb⟩
end Go.Proofs.Ytlionhmmefghmaa
