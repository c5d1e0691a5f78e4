/-
  The letters of package identity: is a byte one of them; numbers that are well formed and correct; the ID of a number; the number of an ID.
-/
import Derived.Test.YtlionhmmefghmaaNumA
import Derived.Lib.IndexLaws
import Derived.Lib.Bytealg
import Derived.Laws.Externs
import Derived.BigCall
import Derived.Deep.RegionHeld3
namespace Go.Proofs.Ytlionhmmefghmaa
open Go.RowKit
set_option linter.unusedSimpArgs false
set_option linter.unusedVariables false
set_option maxRecDepth 100000

theorem liteIndex_any (s : ByteArray) (c : Int) (w : World) :
    Calls Try.prog 45 #[.string s, .int .u8 c] w fun e w' => e = .returned (.int .i64 (Lib.indexByte s.data.toList c.toNat.toUInt8)) ∧ w' = w := by
  go_enter Try.func45, Try.ntmps45
  go_wp2
  rw [run_callFunc_extern Try.func48 (by kernel_rfl) (by kernel_rfl) (by kernel_rfl) (e := Extern.BytealgIndexByte.indexByte) (by kernel_rfl), Lib.run_indexByteString]
  simp only [Result.andThen]
  rw [Oper.upon_value]
  go_wp2
  go_ret
  exact ⟨rfl, rfl⟩
theorem indexIn_any (s : ByteArray) (c : Int) (w : World) :
    Calls Try.prog 38 #[.string s, .int .u8 c] w fun e w' => e = .returned (.int .i64 (Lib.indexByte s.data.toList c.toNat.toUInt8)) ∧ w' = w := by
  go_enter Try.func38, Try.ntmps38
  go_wp2_with fail
  refine (liteIndex_any s c _).mono ?_
  rintro e w' ⟨rfl, rfl⟩
  go_wp2
  go_ret
  exact ⟨rfl, rfl⟩
/-- a byte is one of the check letters -/
def isLet (x : Int) : Bool := decide (0 ≤ Lib.indexByte letA.toList x.toNat.toUInt8)
theorem wellFormed_any (c : Nat → Int) (hc : ∀ i, 0 ≤ c i ∧ c i < 256) (w : World) :
    Calls Try.prog 34 #[.agg (nine c)] w fun e w' => e = .returned (.bool (digs c 8 && isLet (c 8))) ∧ Below w.heap.size w w' := by
  have h8 := hc 8
  go_enter Try.func34, Try.ntmps34
  obtain ⟨w1, hw1, PB, HB⟩ := argWorld w c
  obtain ⟨z0, z1, z2, z3, z4, z5, z6, z7, z8⟩ := PB.out.nine
  go_wp2_with fail
  clear hw1
  refine (hasDigits_any c hc _).mono ?_
  rintro e w2 ⟨rfl, hb9⟩
  have HB2 := Lib.hid (bTr HB.out hb9)
  have PB2 := Lib.hid (PB.out.later hb9)
  clear z0 z1 z2 z3 z4 z5 z6 z7 z8 hb9
  obtain ⟨z0, z1, z2, z3, z4, z5, z6, z7, z8⟩ := PB2.out.nine
  have HI : Hid (isLet (c 8) = decide (0 ≤ Lib.indexByte letA.toList (c 8).toNat.toUInt8)) := Lib.hid rfl
  cases hd : digs c 8
  · go_wp2_with fail
    exact bodyPost_ret (v := .bool false) (by simp [results, Try.results34, go_sem]) rfl ⟨ret_bool (by simp [hd]), HB2.out⟩
  · go_wp2_with fail
    refine (indexIn_any _ _ _).mono ?_
    rintro e w3 ⟨rfl, rfl⟩
    go_wp2
    exact bodyPost_ret (v := .bool (isLet (c 8))) (by simp [results, Try.results34, go_sem, HI.out]) rfl ⟨ret_bool (by simp [hd]), HB2.out⟩
theorem correct_any (c : Nat → Int) (hc : ∀ i, 0 ≤ c i ∧ c i < 256) (w : World) :
    Calls Try.prog 35 #[.agg (nine c)] w fun e w' => e = .returned (.bool (c 8 == lett ((wsum c 8) % 23).toNat)) ∧ Below w.heap.size w w' := by
  go_enter Try.func35, Try.ntmps35
  obtain ⟨w1, hw1, PB, HB⟩ := argWorld w c
  obtain ⟨z0, z1, z2, z3, z4, z5, z6, z7, z8⟩ := PB.out.nine
  go_wp2_with fail
  clear hw1
  go_region_with (go_at_call 32; refine (letter_any c hc _).mono ?_; rintro e w' ⟨rfl, hb9⟩; have HB2 := Lib.hid (bTr (show Below w.heap.size w _ by first | exact bD1 HB.out | exact HB.out) hb9); obtain ⟨z0, z1, z2, z3, z4, z5, z6, z7, z8⟩ := (Blk.later (g := w.heap.size) (t := 43) (cs := nine c) (by first | exact PB.out | exact PB.out.drew) hb9).nine)
  all_goals go_wp2
  all_goals exact bodyPost_ret (v := .bool (c 8 == lett ((wsum c 8) % 23).toNat)) (by simp [results, Try.results35, go_sem]) rfl ⟨rfl, HB2.out⟩
/-- the number that the first k digits make -/
def valD (c : Nat → Int) : Nat → Int
  | 0 => 0
  | k + 1 => 10 * valD c k + dg (c k)
theorem valD_bd (c : Nat → Int) (hd : digs c 8 = true) {k : Nat} (hk : k ≤ 8) : 0 ≤ valD c k ∧ valD c k < 100000000 := by
  have h := (digs_iff c 8).1 hd
  have step : ∀ j, j < 8 → 0 ≤ dg (c j) ∧ dg (c j) ≤ 9 := fun j hj => by have := h j hj; unfold dg; omega
  have h0 := step 0 (by omega)
  have h1 := step 1 (by omega)
  have h2 := step 2 (by omega)
  have h3 := step 3 (by omega)
  have h4 := step 4 (by omega)
  have h5 := step 5 (by omega)
  have h6 := step 6 (by omega)
  have h7 := step 7 (by omega)
  generalize hx0 : dg (c 0) = x0 at *
  generalize hx1 : dg (c 1) = x1 at *
  generalize hx2 : dg (c 2) = x2 at *
  generalize hx3 : dg (c 3) = x3 at *
  generalize hx4 : dg (c 4) = x4 at *
  generalize hx5 : dg (c 5) = x5 at *
  generalize hx6 : dg (c 6) = x6 at *
  generalize hx7 : dg (c 7) = x7 at *
  obtain rfl | rfl | rfl | rfl | rfl | rfl | rfl | rfl | rfl : k = 0 ∨ k = 1 ∨ k = 2 ∨ k = 3 ∨ k = 4 ∨ k = 5 ∨ k = 6 ∨ k = 7 ∨ k = 8 := by omega
  all_goals (simp only [valD, hx0, hx1, hx2, hx3, hx4, hx5, hx6, hx7]; omega)
theorem id_any (c : Nat → Int) (hc : ∀ i, 0 ≤ c i ∧ c i < 256) (hd : digs c 8 = true) (w : World) :
    Calls Try.prog 36 #[.agg (nine c)] w fun e w' => e = .returned (.agg #[.int .i64 (valD c 8 / 1000000), .int .i64 (valD c 8 % 1000000 / 10000), .int .i64 (valD c 8 % 10000)]) ∧ Below w.heap.size w w' := by
  go_enter Try.func36, Try.ntmps36
  go_wp2
  go_loopw [3, 5] (fun s i wr => ∃ (k : Nat), i = .int .i64 k ∧ k ≤ 8 ∧ s = .int .i64 (valD c k) ∧ Hid (Blk wr w.heap.size 43 (nine c)) ∧ Hid (Blk wr (w.heap.size + 1) 23 #[.int .i64 0, .int .i64 0, .int .i64 0]) ∧ Hid (Below w.heap.size w wr)) (fun _ i _ => 8 - (intOf i).toNat)
  case atStart => exact ⟨0, rfl, by omega, rfl, Lib.hid ((Blk.newAt rfl).alloc _), Lib.hid (Blk.newAt (by simp)), Lib.hid (bAl (bAl (Below.refl _ _) _) _)⟩
  case round =>
    obtain ⟨k, rfl, hk, rfl, PB, PR, HB⟩ := hrel
    have hb := valD_bd c hd hk
    by_cases hk8 : k < 8
    · obtain ⟨z0, z1, z2, z3, z4, z5, z6, z7, z8⟩ := PB.out.nine
      have hd := dg_bd (c k)
      have HS : Hid (valD c (k + 1) = 10 * valD c k + dg (c k)) := Lib.hid rfl
      go_wp2_with fail
      refine (digit_any c k (by omega) hc _).mono ?_
      rintro e w' ⟨rfl, hb9⟩
      have HB' := Lib.hid (bTr HB.out hb9)
      have PB' := Lib.hid (PB.out.later hb9)
      have PR' := Lib.hid (PR.out.later hb9)
      clear z0 z1 z2 z3 z4 z5 z6 z7 z8 hb9
      go_wp2
      case roundEnd => exact ⟨⟨k + 1, by simp, by omega, by simp [HS.out], PB', PR', HB'⟩, by simp [intOf]; omega⟩
    · obtain rfl : k = 8 := by omega
      have y0 := PR.out.cell 0
      have y1 := PR.out.cell 1
      have y2 := PR.out.cell 2
      have f0 := PR.out.frozen 0
      have f1 := PR.out.frozen 1
      have f2 := PR.out.frozen 2
      simp at y0 y1 y2
      go_wp2
      refine bodyPost_ret (v := .agg #[.int .i64 (valD c 8 / 1000000), .int .i64 (valD c 8 % 1000000 / 10000), .int .i64 (valD c 8 % 10000)]) (by simp [results, Try.results36, go_sem, y0, y1, y2]) rfl ⟨rfl, ?_⟩
      exact bSt (bSt (bSt HB.out (by simp) _) (by simp) _) (by simp) _
end Go.Proofs.Ytlionhmmefghmaa
