/-
  awake: the example of the chapter comes out as it should.
-/
import Derived.Test.YtglikjdgjmijfaaRRoll
namespace Go.Proofs.Ytglikjdgjmijfaa
open Go.RowKit
set_option linter.unusedSimpArgs false
set_option linter.unusedVariables false

def exN (i : Nat) : ByteArray := [⟨#[110, 117, 109, 98, 101, 114]⟩, ⟨#[97, 108, 103, 101, 98, 114, 97]⟩, ⟨#[101, 113, 117, 97, 116, 105, 111, 110, 115]⟩, ⟨#[103, 114, 97, 112, 104, 115]⟩].getD i ⟨#[]⟩
def exP (i : Nat) : Int := [-1, -1, 1, 1].getD i 0
def exS : Syl := ⟨4, exN, exP, 0, fun _ => ⟨#[]⟩, 0, fun _ => ⟨#[]⟩, fun _ => 0, fun _ => 0⟩
theorem ex_chk : exS.chk = 0 := by decide +kernel
theorem ex_p0 : path exP 0 = [0] := by rw [path]; rfl
theorem ex_p1 : path exP 1 = [1] := by rw [path]; rfl
theorem ex_p2 : path exP 2 = [1, 2] := by rw [path, dif_pos (by decide)]; show path exP 1 ++ [2] = _; rw [ex_p1]; rfl
theorem ex_p3 : path exP 3 = [1, 3] := by rw [path, dif_pos (by decide)]; show path exP 1 ++ [3] = _; rw [ex_p1]; rfl
def exM (i : Nat) : Int := [5, 1, 2, 3].getD i 0
def exR (i : Nat) : Int := [5, 6, 2, 3].getD i 0
theorem ex_roll : ∀ i, i < 4 → rollN exP exM 4 i = exR i := by
  intro i hi
  show 0 + markUp exP exM i 0 + markUp exP exM i 1 + markUp exP exM i 2 + markUp exP exM i 3 = exR i
  unfold markUp
  rw [ex_p0, ex_p1, ex_p2, ex_p3]
  have : i = 0 ∨ i = 1 ∨ i = 2 ∨ i = 3 := by omega
  rcases this with rfl | rfl | rfl | rfl <;> rfl
theorem ex_com : commonI exP 2 3 = 1 := by unfold commonI; rw [ex_p2, ex_p3]; rfl
theorem ex_lvs : (List.range 4).filter (leafB exP 4) = [0, 2, 3] := by decide +kernel

theorem ex_rlE : exS.rlE exM 4 = 0 := by unfold Syl.rlE; rw [if_pos ex_chk]; exact if_pos rfl
theorem ex_rlN : exS.rlN exM 4 = 4 := by unfold Syl.rlN; rw [if_pos ex_rlE]
theorem ex_lvs' : exS.lvs = [0, 2, 3] := by unfold Syl.lvs; rw [if_pos ex_chk]; exact ex_lvs
theorem ex_has {k : Nat} (h : k < 4) : exS.has ((k : Nat) : Int) = true := by
  unfold Syl.has
  have : (exS.nT : Int) = 4 := rfl
  exact decide_eq_true ⟨ex_chk, by omega, by omega⟩
theorem ex_com' : exS.com ((2 : Nat) : Int) ((3 : Nat) : Int) = 1 := by unfold Syl.com; rw [if_pos ⟨ex_has (by decide), ex_has (by decide)⟩]; exact ex_com
def exT : Array Value := #[.string ⟨#[110, 117, 109, 98, 101, 114]⟩, .int .i64 (-1), .string ⟨#[97, 108, 103, 101, 98, 114, 97]⟩, .int .i64 (-1), .string ⟨#[101, 113, 117, 97, 116, 105, 111, 110, 115]⟩, .int .i64 1, .string ⟨#[103, 114, 97, 112, 104, 115]⟩, .int .i64 1]
def exPt (g : Nat) : Ptr := ⟨some ⟨g, 0, none⟩, 4, none, 0, none, 0⟩
theorem exIn {w : World} {g B : Nat} (h : Blk w g 36 exT) (hB : g < B) : SylIn w B (exPt g) exS :=
  ⟨fun i hi => by
    refine ⟨g, 0, rfl, hB, ?_⟩
    have hi' : i < 4 := hi
    have : i = 0 ∨ i = 1 ∨ i = 2 ∨ i = 3 := by omega
    rcases this with rfl | rfl | rfl | rfl <;> exact ⟨h.cell _, h.cell _⟩, fun i hi => absurd hi (Nat.not_lt_zero _), fun i hi => absurd hi (Nat.not_lt_zero _), Nat.le_refl _, Nat.le_refl _, Nat.le_refl _⟩
theorem litRow4 {w : World} {g B : Nat} {a b c d : Int} {C : Nat → Int} (h : Blk w g 3 #[.int .i64 a, .int .i64 b, .int .i64 c, .int .i64 d]) (hB : g < B) (h0 : C 0 = a) (h1 : C 1 = b) (h2 : C 2 = c) (h3 : C 3 = d) : RowI w B (some ⟨g, 0, none⟩) 4 C := by
  intro i hi
  refine ⟨g, 0, rfl, hB, ?_⟩
  have : i = 0 ∨ i = 1 ∨ i = 2 ∨ i = 3 := by omega
  rcases this with rfl | rfl | rfl | rfl
  · rw [h0]; exact h.cell _
  · rw [h1]; exact h.cell _
  · rw [h2]; exact h.cell _
  · rw [h3]; exact h.cell _
theorem litRow3 {w : World} {g B : Nat} {a b c : Int} {C : Nat → Int} (h : Blk w g 3 #[.int .i64 a, .int .i64 b, .int .i64 c]) (hB : g < B) (h0 : C 0 = a) (h1 : C 1 = b) (h2 : C 2 = c) : RowI w B (some ⟨g, 0, none⟩) 3 C := by
  intro i hi
  refine ⟨g, 0, rfl, hB, ?_⟩
  have : i = 0 ∨ i = 1 ∨ i = 2 := by omega
  rcases this with rfl | rfl | rfl
  · rw [h0]; exact h.cell _
  · rw [h1]; exact h.cell _
  · rw [h2]; exact h.cell _
set_option maxRecDepth 100000 in
set_option maxHeartbeats 4000000 in
theorem awake_any (w : World) : Calls Try.prog 15 #[] w fun e w' => e = .returned (.bool true) ∧ Below w.heap.size w w' := by
  have B0 : Hid (Blk (((w.alloc (.cells exT 36)).alloc (.cells #[.slice (some ⟨w.heap.size, 0, none⟩) 4 4, .slice none 0 0, .slice none 0 0] 27)).alloc (.cells #[.int .i64 5, .int .i64 1, .int .i64 2, .int .i64 3] 3)) w.heap.size 36 exT) := Lib.hid (((Blk.new _ _ _).alloc _).alloc _)
  have B1 : Hid (Blk (((w.alloc (.cells exT 36)).alloc (.cells #[.slice (some ⟨w.heap.size, 0, none⟩) 4 4, .slice none 0 0, .slice none 0 0] 27)).alloc (.cells #[.int .i64 5, .int .i64 1, .int .i64 2, .int .i64 3] 3)) (w.heap.size + 1) 27 #[.slice (some ⟨w.heap.size, 0, none⟩) 4 4, .slice none 0 0, .slice none 0 0]) := Lib.hid ((Blk.newAt (by simp)).alloc _)
  have B2 : Hid (Blk (((w.alloc (.cells exT 36)).alloc (.cells #[.slice (some ⟨w.heap.size, 0, none⟩) 4 4, .slice none 0 0, .slice none 0 0] 27)).alloc (.cells #[.int .i64 5, .int .i64 1, .int .i64 2, .int .i64 3] 3)) (w.heap.size + 1 + 1) 3 #[.int .i64 5, .int .i64 1, .int .i64 2, .int .i64 3]) := Lib.hid (Blk.newAt (by simp))
  have HB := Lib.hid (bAl (bAl (bAl (Below.refl _ w) (.cells exT 36)) (.cells #[.slice (some ⟨w.heap.size, 0, none⟩) 4 4, .slice none 0 0, .slice none 0 0] 27)) (.cells #[.int .i64 5, .int .i64 1, .int .i64 2, .int .i64 3] 3))
  have HIN := Lib.hid (fun W (h : Blk W w.heap.size 36 exT) => exIn h h.lt)
  unfold exT at B0 B1 B2 HB HIN
  have q0 := B1.out.cell 0
  have q1 := B1.out.cell 1
  have q2 := B1.out.cell 2
  go_enter Try.func15, Try.ntmps15
  go_wp2_with fail
  generalize (((w.alloc _).alloc _).alloc _) = w3 at B0 B1 B2 HB q0 q1 q2 ⊢
  have hr := roll_any (exPt w.heap.size) exS (some ⟨w.heap.size + 1 + 1, 0, none⟩) 4 4 exM w3 (HIN.out w3 B0.out) (litRow4 B2.out B2.out.lt rfl rfl rfl rfl) (by decide)
  unfold RollR at hr
  rw [ex_rlE, ex_rlN] at hr
  refine hr.mono ?_
  rintro e w4 ⟨o, c, rfl, hrow, hb4⟩
  have HR4 := Lib.hid (hrow.congr ex_roll)
  have HB4 := Lib.hid (bTr HB.out hb4)
  have B04 := Lib.hid (B0.out.later hb4)
  have B14 := Lib.hid (B1.out.later hb4)
  clear hr hrow hb4 B0 B1 B2 HB q0 q1 q2
  go_wp2_with fail
  have hb5 := bAl (Below.refl _ w4) (.cells #[.int .i64 5, .int .i64 6, .int .i64 2, .int .i64 3] 3)
  refine (same_row o (some ⟨w4.heap.size, 0, none⟩) 4 c 4 _ _ exR _ (HR4.out.below hb5 (Nat.le_refl _)) (litRow4 (Blk.new w4 3 _) (Nat.lt_succ_self _) rfl rfl rfl rfl) (by simp) (by simp) (by decide)).mono ?_
  rintro e w6 ⟨rfl, hb6⟩
  have hb46 := bTr hb5 hb6
  have HB6 := Lib.hid (bTr HB4.out hb46)
  have B06 := Lib.hid (B04.out.later hb46)
  have B16 := Lib.hid (B14.out.later hb46)
  clear hb5 hb6 hb46 HR4 HB4 B04 B14
  have q0 := B16.out.cell 0
  have q1 := B16.out.cell 1
  have q2 := B16.out.cell 2
  go_wp2_with fail
  have hl := leaves_any (exPt w.heap.size) exS w6 (HIN.out w6 B06.out)
  rw [ex_lvs'] at hl
  refine hl.mono ?_
  rintro e w7 ⟨v7, rfl, hv7, hb7⟩
  obtain ⟨o7, c7, rfl, _, _, hrow7⟩ := hv7.row
  have HR7 := Lib.hid hrow7
  have HB7 := Lib.hid (bTr HB6.out hb7)
  have B07 := Lib.hid (B06.out.later hb7)
  have B17 := Lib.hid (B16.out.later hb7)
  clear hl hv7 hrow7 hb7 HB6 B06 B16 q0 q1 q2
  go_wp2_with fail
  have hb8 := bAl (Below.refl _ w7) (.cells #[.int .i64 0, .int .i64 2, .int .i64 3] 3)
  refine (same_row o7 (some ⟨w7.heap.size, 0, none⟩) 3 c7 3 _ _ (natAt [0, 2, 3]) _ (HR7.out.below hb8 (Nat.le_refl _)) (litRow3 (Blk.new w7 3 _) (Nat.lt_succ_self _) rfl rfl rfl) (by simp) (by simp) (by decide)).mono ?_
  rintro e w9 ⟨rfl, hb9⟩
  have hb79 := bTr hb8 hb9
  have HB9 := Lib.hid (bTr HB7.out hb79)
  have B09 := Lib.hid (B07.out.later hb79)
  have B19 := Lib.hid (B17.out.later hb79)
  clear hb8 hb9 hb79 HR7 HB7 B07 B17
  have q0 := B19.out.cell 0
  have q1 := B19.out.cell 1
  have q2 := B19.out.cell 2
  go_wp2_with fail
  have hc := common_any (exPt w.heap.size) exS ((2 : Nat) : Int) ((3 : Nat) : Int) w9 (HIN.out w9 B09.out)
  rw [ex_com'] at hc
  refine hc.mono ?_
  rintro e w10 ⟨rfl, hb10⟩
  have HB10 := Lib.hid (bTr HB9.out hb10)
  clear hc hb10 HB9 B09 B19 q0 q1 q2
  go_wp2_with fail
  go_ret
  exact ⟨rfl, HB10.out⟩
end Go.Proofs.Ytglikjdgjmijfaa
