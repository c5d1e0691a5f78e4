/-
  awake: the example of the chapter comes out as it should.
-/
import Derived.Test.YtdggmnhddoejhaaSame
namespace Go.Proofs.Ytdggmnhddoejhaa
open Go.RowKit Go.Sort Go.Lib
set_option linter.unusedSimpArgs false
set_option linter.unusedVariables false

def exCells : Array Value := #[.int .i64 5, .int .i64 1, .int .i64 0, .int .i64 3, .int .i64 2, .int .i64 7, .int .i64 5, .int .i64 1, .int .i64 0, .int .i64 4, .int .i64 2, .int .i64 7]
def zCells : Array Value := #[.int .i64 0, .int .i64 0, .int .i64 0, .int .i64 0]
theorem exRow {w : World} {g : Nat} {B : Nat} (h : Blk w g 23 exCells) (hB : g < B) : RowS w B (some ⟨g, 0, none⟩) 4 exL := by
  intro i hi
  refine ⟨g, 0, rfl, hB, ?_⟩
  have : i = 0 ∨ i = 1 ∨ i = 2 ∨ i = 3 := by omega
  rcases this with rfl | rfl | rfl | rfl <;> exact ⟨h.cell _, h.cell _, h.cell _⟩
theorem zRow {w : World} {g : Nat} {B : Nat} (h : Blk w g 3 zCells) (hB : g < B) : RowI w B (some ⟨g, 0, none⟩) 4 (fun _ => 0) := by
  intro i hi
  refine ⟨g, 0, rfl, hB, ?_⟩
  have : i = 0 ∨ i = 1 ∨ i = 2 ∨ i = 3 := by omega
  rcases this with rfl | rfl | rfl | rfl <;> exact h.cell _
theorem RowI.congr {w : World} {B n : Nat} {o : Option Addr} {C D : Nat → Int} (h : RowI w B o n C) (e : ∀ i, i < n → C i = D i) : RowI w B o n D := fun i hi => by
  obtain ⟨b, off, ho, hb, hc⟩ := h i hi
  exact ⟨b, off, ho, hb, by rw [hc, e i hi]⟩

theorem litRow1 {w : World} {g : Nat} (h : Blk w g 3 #[.int .i64 0]) : RowI w (g + 1) (some ⟨g, 0, none⟩) 1 (fun i => (([0].getD i 0 : Nat) : Int)) := by
  intro i hi
  refine ⟨g, 0, rfl, by omega, ?_⟩
  have : i = 0 := by omega
  subst this
  exact h.cell _
theorem litRow2 {w : World} {g : Nat} (h : Blk w g 3 #[.int .i64 1, .int .i64 0]) : RowI w (g + 1) (some ⟨g, 0, none⟩) 2 (fun i => (([1, 0].getD i 0 : Nat) : Int)) := by
  intro i hi
  refine ⟨g, 0, rfl, by omega, ?_⟩
  have : i = 0 ∨ i = 1 := by omega
  rcases this with rfl | rfl <;> exact h.cell _
set_option maxHeartbeats 4000000 in
theorem awake_any (w : World) : Calls Try.prog 16 #[] w fun e w' => e = .returned (.bool true) ∧ RowKit.Below w.heap.size w w' := by
  go_enter Try.func16, Try.ntmps16
  have B0 : Blk ((w.alloc (.cells exCells 23)).alloc (.cells zCells 3)) w.heap.size 23 exCells := (Blk.new _ _ _).alloc _
  have B1 : Blk ((w.alloc (.cells exCells 23)).alloc (.cells zCells 3)) (w.heap.size + 1) 3 zCells := Blk.newAt (by simp)
  have HB0 := Lib.hid (bAl (bAl (RowKit.Below.refl _ w) (.cells exCells 23)) (.cells zCells 3))
  have HR := Lib.hid (And.intro (exRow (B := ((w.alloc (.cells exCells 23)).alloc (.cells zCells 3)).heap.size) B0 (by simp; omega)) (zRow (B := ((w.alloc (.cells exCells 23)).alloc (.cells zCells 3)).heap.size) B1 (by simp)))
  have HBL := Lib.hid B0
  clear B0 B1
  unfold exCells zCells at HB0 HR HBL
  go_wp2_with fail
  refine (canon_any (some ⟨w.heap.size, 0, none⟩) (some ⟨w.heap.size + 1, 0, none⟩) 4 4 4 exL (fun _ => 0) _ HR.out.1 HR.out.2 (by omega)).mono ?_
  rintro e w1 ⟨v, code, rfl, hv⟩
  obtain ⟨rfl, p1, cap1, rfl, hr1⟩ := hv.eq [0] ex4 (by decide)
  have HB1 := Lib.hid (HB0.out.trans (hv.below.mono HB0.out.size))
  have HBL1 := Lib.hid (HBL.out.later hv.below)
  have HR1 := Lib.hid hr1
  clear hv hr1 HR HB0 HBL
  have h10 : w.heap.size < w1.heap.size := HBL1.out.lt
  have hb2 := bAl (RowKit.Below.refl _ w1) (.cells zCells 3)
  have HR2 := Lib.hid (And.intro (exRow (B := (w1.alloc (.cells zCells 3)).heap.size) (HBL1.out.later hb2) (by simp; omega)) (zRow (B := (w1.alloc (.cells zCells 3)).heap.size) (Blk.new w1 3 zCells) (by simp)))
  have HB2 := Lib.hid (HB1.out.trans (hb2.mono HB1.out.size))
  have HBL2 := Lib.hid (HBL1.out.later hb2)
  have HR3 := Lib.hid (HR1.out.below hb2 (Nat.le_refl _))
  clear hb2 HB1 HBL1 HR1
  unfold zCells at HR2 HB2 HBL2 HR3
  go_wp2_with fail
  refine (known_any (some ⟨w.heap.size, 0, none⟩) (some ⟨w1.heap.size, 0, none⟩) 4 4 4 exL (fun _ => 0) 3 _ HR2.out.1 HR2.out.2 (by omega) (by omega) (by omega) (by omega)).mono ?_
  rintro e w2 ⟨v, code, rfl, hv⟩
  obtain ⟨rfl, p2, cap2, rfl, hr2⟩ := hv.eq [1, 0] ex3 (by decide)
  have HB3 := Lib.hid (HB2.out.trans (hv.below.mono HB2.out.size))
  have HBL3 := Lib.hid (HBL2.out.later hv.below)
  have HR4 := Lib.hid (HR3.out.below hv.below (by simp))
  have HZ2 := Lib.hid (show w1.heap.size ≤ w2.heap.size by have := hv.below.size; simp at this; omega)
  have HR5 := Lib.hid hr2
  clear hv hr2 HR2 HB2 HBL2 HR3
  go_wp2_with fail
  have hb4 := bAl (RowKit.Below.refl _ w2) (.cells #[.int .i64 0] 3)
  refine (same_yes p1 (some ⟨w2.heap.size, 0, none⟩) 1 cap1 1 w1.heap.size (w2.heap.size + 1) (fun i => (([0].getD i 0 : Nat) : Int)) _ (HR4.out.below hb4 (Nat.le_trans (by simp) (HZ2.out))) (litRow1 (Blk.new w2 _ _)) (by omega)).mono ?_
  rintro e w3 ⟨rfl, m, hm⟩
  have hb5 : RowKit.Below w2.heap.size w2 w3 := by rw [hm]; exact bDr hb4 m
  clear hm hb4
  have HB5 := Lib.hid (HB3.out.trans (hb5.mono HB3.out.size))
  have HBL5 := Lib.hid (HBL3.out.later hb5)
  have HR6 := Lib.hid (HR5.out.below hb5 (Nat.le_refl _))
  have HZ5 := Lib.hid hb5.size
  clear hb5 HR4 HR5 HB3 HBL3
  go_wp2_with fail
  have hb4 := bAl (RowKit.Below.refl _ w3) (.cells #[.int .i64 1, .int .i64 0] 3)
  refine (same_yes p2 (some ⟨w3.heap.size, 0, none⟩) 2 cap2 2 w2.heap.size (w3.heap.size + 1) (fun i => (([1, 0].getD i 0 : Nat) : Int)) _ (HR6.out.below hb4 HZ5.out) (litRow2 (Blk.new w3 _ _)) (by omega)).mono ?_
  rintro e w4 ⟨rfl, m, hm⟩
  have hb5 : RowKit.Below w3.heap.size w3 w4 := by rw [hm]; exact bDr hb4 m
  clear hm hb4
  have HB6 := Lib.hid (HB5.out.trans (hb5.mono HB5.out.size))
  have HBL6 := Lib.hid (HBL5.out.later hb5)
  clear hb5 HB5 HBL5 HR6
  have c0 := HBL6.out.cell 0
  have c1 := HBL6.out.cell 1
  have c2 := HBL6.out.cell 2
  have hv0 : vld (5, 1, 0) = true := by decide
  go_wp2_with (go_at_call 12; refine (stamp_valid 5 1 0 _).mono ?_; rintro e w5 ⟨rfl, hg⟩)
  go_ret
  exact ⟨ret_bool (by first | rfl | exact hv0 | decide), HB6.out.trans (hg.below.mono HB6.out.size)⟩
end Go.Proofs.Ytdggmnhddoejhaa
