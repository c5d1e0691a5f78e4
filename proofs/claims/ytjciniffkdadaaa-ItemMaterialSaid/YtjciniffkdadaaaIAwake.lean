/-
  awake: the example of the chapter comes out as it should.
-/
import Derived.Test.YtjciniffkdadaaaIMatB
namespace Go.Proofs.Ytjciniffkdadaaa
open Go.RowKit
set_option linter.unusedSimpArgs false
set_option linter.unusedVariables false

def exA : Itm := ⟨1, 1, ⟨#[113]⟩, 2, ptAt [⟨1, 3, 0, 0, 0, 0⟩, ⟨2, 1, 0, 0, 4, 2⟩], 0, fun _ => 0⟩
def exB : Itm := ⟨1, 2, ⟨#[113]⟩, 3, ptAt [⟨1, 3, 0, 0, 0, 0⟩, ⟨2, 1, 0, 0, 4, 3⟩, ⟨1, 1, 0, 0, 0, 0⟩], 0, fun _ => 0⟩
def exAc : Array Value := #[.int .i64 1, .int .i64 3, .int .i64 0, .int .i64 0, .int .i64 0, .int .i64 0, .int .i64 2, .int .i64 1, .int .i64 0, .int .i64 0, .int .i64 4, .int .i64 2]
def exBc : Array Value := #[.int .i64 1, .int .i64 3, .int .i64 0, .int .i64 0, .int .i64 0, .int .i64 0, .int .i64 2, .int .i64 1, .int .i64 0, .int .i64 0, .int .i64 4, .int .i64 3, .int .i64 1, .int .i64 1, .int .i64 0, .int .i64 0, .int .i64 0, .int .i64 0]
def exAp (g : Nat) : IPtr := ⟨some ⟨g, 0, none⟩, 2, none, 0⟩
def exBp (g : Nat) : IPtr := ⟨some ⟨g, 0, none⟩, 3, none, 0⟩
theorem exA_chk : exA.chk = 0 := by decide +kernel
theorem exB_tot : exB.tot = 5 := by decide +kernel
theorem ex_mat : matL exA exB = [1, 2] := by decide +kernel
theorem exA_in {w : World} {g B : Nat} (h : Blk w g 23 exAc) (hB : g < B) : ItmIn w B (exAp g) exA :=
  ⟨fun i hi => by
    refine ⟨g, 0, rfl, hB, ?_⟩
    have hi' : i < 2 := hi
    have : i = 0 ∨ i = 1 := by omega
    rcases this with rfl | rfl <;> exact ⟨h.cell _, h.cell _, h.cell _, h.cell _, h.cell _, h.cell _⟩, fun i hi => absurd hi (Nat.not_lt_zero _), Nat.le_refl _, Nat.le_refl _⟩
theorem exB_in {w : World} {g B : Nat} (h : Blk w g 23 exBc) (hB : g < B) : ItmIn w B (exBp g) exB :=
  ⟨fun i hi => by
    refine ⟨g, 0, rfl, hB, ?_⟩
    have hi' : i < 3 := hi
    have : i = 0 ∨ i = 1 ∨ i = 2 := by omega
    rcases this with rfl | rfl | rfl <;> exact ⟨h.cell _, h.cell _, h.cell _, h.cell _, h.cell _, h.cell _⟩, fun i hi => absurd hi (Nat.not_lt_zero _), Nat.le_refl _, Nat.le_refl _⟩
theorem litRow2 {w : World} {g B : Nat} {a b : Int} {C : Nat → Int} (h : Blk w g 3 #[.int .i64 a, .int .i64 b]) (hB : g < B) (h0 : C 0 = a) (h1 : C 1 = b) : RowI w B (some ⟨g, 0, none⟩) 2 C := by
  intro i hi
  refine ⟨g, 0, rfl, hB, ?_⟩
  have : i = 0 ∨ i = 1 := by omega
  rcases this with rfl | rfl
  · rw [h0]; exact h.cell _
  · rw [h1]; exact h.cell _
set_option maxRecDepth 100000 in
set_option maxHeartbeats 4000000 in
theorem awake_any (w : World) : Calls Try.prog 14 #[] w fun e w' => e = .returned (.bool true) ∧ Below w.heap.size w w' := by
  obtain ⟨w4, h4⟩ : ∃ w4, (((w.alloc (.cells exAc 23)).alloc (.cells (itmC (exAp w.heap.size) exA) 33)).alloc (.cells exBc 23)).alloc (.cells (itmC (exBp (w.heap.size + 1 + 1)) exB) 33) = w4 := ⟨_, rfl⟩
  have B0 : Hid (Blk w4 w.heap.size 23 exAc) := Lib.hid (by rw [← h4]; exact (((Blk.new _ _ _).alloc _).alloc _).alloc _)
  have B1 : Hid (Blk w4 (w.heap.size + 1) 33 (itmC (exAp w.heap.size) exA)) := Lib.hid (by rw [← h4]; exact ((Blk.newAt (by simp)).alloc _).alloc _)
  have B2 : Hid (Blk w4 (w.heap.size + 1 + 1) 23 exBc) := Lib.hid (by rw [← h4]; exact (Blk.newAt (by simp)).alloc _)
  have B3 : Hid (Blk w4 (w.heap.size + 1 + 1 + 1) 33 (itmC (exBp (w.heap.size + 1 + 1)) exB)) := Lib.hid (by rw [← h4]; exact Blk.newAt (by simp))
  have HB : Hid (Below w.heap.size w w4) := Lib.hid (by rw [← h4]; exact bAl (bAl (bAl (bAl (Below.refl _ w) _) _) _) _)
  have HA := Lib.hid (fun W (h : Blk W w.heap.size 23 exAc) => exA_in h h.lt)
  have HBB := Lib.hid (fun W (h : Blk W (w.heap.size + 1 + 1) 23 exBc) => exB_in h h.lt)
  have HC := Lib.hid (icheck_any (exAp w.heap.size) exA w4 (HA.out _ B0.out))
  rw [exA_chk] at HC
  unfold exAc exBc itmC exAp exBp exA exB at h4
  have e1 : Hid (itmC (exAp w.heap.size) exA = #[.int .i64 1, .int .i64 1, .string ⟨#[113]⟩, .slice (some ⟨w.heap.size, 0, none⟩) 2 2, .slice none 0 0]) := Lib.hid rfl
  have e2 : Hid (itmC (exBp (w.heap.size + 1 + 1)) exB = #[.int .i64 1, .int .i64 2, .string ⟨#[113]⟩, .slice (some ⟨w.heap.size + 1 + 1, 0, none⟩) 3 3, .slice none 0 0]) := Lib.hid rfl
  rw [e1.out] at B1 HC
  rw [e2.out] at B3
  dsimp only at h4
  have HT := Lib.hid (fun W (h : Blk W (w.heap.size + 1 + 1) 23 exBc) => itotal_any (exBp (w.heap.size + 1 + 1)) exB W (HBB.out _ h))
  rw [e2.out, exB_tot] at HT
  have HM := Lib.hid (fun W (h : Blk W w.heap.size 23 exAc) (h2 : Blk W (w.heap.size + 1 + 1) 23 exBc) => mat_any (exAp w.heap.size) (exBp (w.heap.size + 1 + 1)) exA exB W (HA.out _ h) (HBB.out _ h2) (by decide) (by decide))
  rw [e1.out, e2.out, ex_mat] at HM
  have H4 := Lib.hid h4
  clear h4
  go_enter Try.func14, Try.ntmps14
  go_wp2_with fail
  rw [H4.out]
  refine HC.out.mono ?_
  rintro e w5 ⟨rfl, hb⟩
  have HB5 := Lib.hid (bTr HB.out hb)
  have B05 := Lib.hid (B0.out.later hb)
  have B15 := Lib.hid (B1.out.later hb)
  have B25 := Lib.hid (B2.out.later hb)
  have B35 := Lib.hid (B3.out.later hb)
  clear hb B0 B1 B2 B3 H4 HC HB
  have a0 := B15.out.cell 0
  have a1 := B15.out.cell 1
  have a2 := B15.out.cell 2
  have a3 := B15.out.cell 3
  have a4 := B15.out.cell 4
  have b0 := B35.out.cell 0
  have b1 := B35.out.cell 1
  have b2 := B35.out.cell 2
  have b3 := B35.out.cell 3
  have b4 := B35.out.cell 4
  go_wp2_with fail
  refine (HT.out _ B25.out).mono ?_
  rintro e w6 ⟨rfl, hb⟩
  have HB6 := Lib.hid (bTr HB5.out hb)
  have B06 := Lib.hid (B05.out.later hb)
  have B16 := Lib.hid (B15.out.later hb)
  have B26 := Lib.hid (B25.out.later hb)
  have B36 := Lib.hid (B35.out.later hb)
  clear hb HT HB5 B05 B15 B25 B35 a0 a1 a2 a3 a4 b0 b1 b2 b3 b4
  have a0 := B16.out.cell 0
  have a1 := B16.out.cell 1
  have a2 := B16.out.cell 2
  have a3 := B16.out.cell 3
  have a4 := B16.out.cell 4
  have b0 := B36.out.cell 0
  have b1 := B36.out.cell 1
  have b2 := B36.out.cell 2
  have b3 := B36.out.cell 3
  have b4 := B36.out.cell 4
  go_wp2_with fail
  refine (HM.out _ B06.out B26.out).mono ?_
  rintro e w7 ⟨v7, rfl, hv7, hb7⟩
  obtain ⟨o7, c7, rfl, _, _, hrow7⟩ := hv7.row
  have HR7 := Lib.hid hrow7
  have HB7 := Lib.hid (bTr HB6.out hb7)
  clear HM hv7 hb7 hrow7 HB6 B06 B16 B26 B36 a0 a1 a2 a3 a4 b0 b1 b2 b3 b4
  go_wp2_with fail
  have hb8 := bAl (Below.refl _ w7) (.cells #[.int .i64 1, .int .i64 2] 3)
  refine (ints_true o7 (some ⟨w7.heap.size, 0, none⟩) 2 c7 2 _ (natAt [1, 2]) _ (HR7.out.later hb8) (litRow2 (Blk.new w7 3 _) (Blk.new w7 3 _).lt rfl rfl) (by decide) (fun i hi => rfl)).mono ?_
  rintro e w9 ⟨rfl, hb9⟩
  have HB9 := Lib.hid (bTr HB7.out (bTr hb8 hb9))
  clear hb8 hb9 HR7 HB7
  go_wp2_with fail
  go_ret
  exact ⟨rfl, HB9.out⟩
end Go.Proofs.Ytjciniffkdadaaa
