/-
  Valid, Format, Letter and Parse of package identity.
-/
import Derived.Test.YtlionhmmefghmaaCopy
namespace Go.Proofs.Ytlionhmmefghmaa
open Go.RowKit
set_option linter.unusedSimpArgs false
set_option linter.unusedVariables false
set_option maxRecDepth 100000

/-- a valid ID -/
def okID (a b d : Int) : Bool := decide (0 ≤ a ∧ a ≤ 99) && (decide (0 ≤ b ∧ b ≤ 99) && decide (0 ≤ d ∧ d ≤ 9999))
theorem upTo_any (n m : Int) (w : World) :
    Calls Try.prog 30 #[.int .i64 n, .int .i64 m] w fun e w' => e = .returned (.bool (decide (0 ≤ n ∧ n ≤ m))) ∧ w' = w := by
  go_enter Try.func30, Try.ntmps30
  by_cases h : 0 ≤ n
  · go_wp2
    go_ret
    exact ⟨ret_bool (by simp [h]), rfl⟩
  · go_wp2
    go_ret
    exact ⟨ret_bool (by simp; omega), rfl⟩
theorem valid_any (a b d : Int) (w : World) :
    Calls Try.prog 15 #[.agg #[.int .i64 a, .int .i64 b, .int .i64 d]] w fun e w' => e = .returned (.bool (okID a b d)) ∧ Below w.heap.size w w' := by
  have HV : Hid (okID a b d = (decide (0 ≤ a ∧ a ≤ 99) && (decide (0 ≤ b ∧ b ≤ 99) && decide (0 ≤ d ∧ d ≤ 9999)))) := Lib.hid rfl
  go_enter Try.func15, Try.ntmps15
  go_wp2_with fail
  refine (upTo_any _ _ _).mono ?_
  rintro e w' ⟨rfl, rfl⟩
  cases h1 : decide (0 ≤ a ∧ a ≤ 99)
  · go_wp2
    exact bodyPost_ret (v := .bool false) (by simp [results, Try.results15, go_sem]) rfl ⟨ret_bool (by rw [HV.out, h1]; rfl), bAl (Below.refl _ _) _⟩
  go_wp2_with fail
  refine (upTo_any _ _ _).mono ?_
  rintro e w' ⟨rfl, rfl⟩
  cases h2 : decide (0 ≤ b ∧ b ≤ 99)
  · go_wp2
    exact bodyPost_ret (v := .bool false) (by simp [results, Try.results15, go_sem]) rfl ⟨ret_bool (by rw [HV.out, h1, h2]; rfl), bAl (Below.refl _ _) _⟩
  go_wp2_with fail
  refine (upTo_any _ _ _).mono ?_
  rintro e w' ⟨rfl, rfl⟩
  go_wp2
  exact bodyPost_ret (v := .bool (decide (0 ≤ d ∧ d ≤ 9999))) (by simp [results, Try.results15, go_sem]) rfl ⟨ret_bool (by rw [HV.out, h1, h2]; rfl), bAl (Below.refl _ _) _⟩
theorem read_any (s : ByteArray) (w : World) :
    Calls Try.prog 33 #[.string s] w fun e w' => e = .returned (if s.size = 9 then .tuple #[.agg (nine (byteAt s)), .bool true] else .tuple #[.agg (nine fun _ => 0), .bool false]) ∧ Below w.heap.size w w' := by
  by_cases h : s.size = 9
  · rw [if_pos h]
    have P0 : Hid (Blk ((w.alloc (.cells (nine fun _ => 0) 43)).alloc (.cells (nine fun _ => 0) 43)) w.heap.size 43 (nine fun _ => 0)) := Lib.hid (Blk.alloc (Blk.newAt rfl) _)
    obtain ⟨w2, hrun, PB, HF, HW⟩ := copy_nine s (by omega) ((w.alloc (.cells (nine fun _ => 0) 43)).alloc (.cells (nine fun _ => 0) 43)) (w.heap.size + 1) (Blk.newAt (by simp))
    have PR := Lib.hid (HF.out _ _ _ (by omega) P0.out)
    have HB := Lib.hid (HW.out w.heap.size w (by omega) (bAl (bAl (Below.refl _ _) _) _))
    obtain ⟨y0, y1, y2, y3, y4, y5, y6, y7, y8⟩ := PR.out.nine
    obtain ⟨z0, z1, z2, z3, z4, z5, z6, z7, z8⟩ := PB.out.nine
    have g0 := PR.out.frozen 0
    have g1 := PR.out.frozen 1
    have g2 := PR.out.frozen 2
    have g3 := PR.out.frozen 3
    have g4 := PR.out.frozen 4
    have g5 := PR.out.frozen 5
    have g6 := PR.out.frozen 6
    have g7 := PR.out.frozen 7
    have g8 := PR.out.frozen 8
    clear P0 HF HW
    simp only [nine] at hrun
    go_enter Try.func33, Try.ntmps33
    go_wp2
    refine bodyPost_ret (v := .tuple #[.agg (nine (byteAt s)), .bool true]) (by simp [results, Try.results33, go_sem, y0, y1, y2, y3, y4, y5, y6, y7, y8]; rfl) rfl ⟨rfl, ?_⟩
    exact bSt (bSt (bSt (bSt (bSt (bSt (bSt (bSt (bSt HB.out (by simp) _) (by simp) _) (by simp) _) (by simp) _) (by simp) _) (by simp) _) (by simp) _) (by simp) _) (by simp) _
  · rw [if_neg h]
    go_enter Try.func33, Try.ntmps33
    go_wp2
    exact bodyPost_ret (v := .tuple #[.agg (nine fun _ => 0), .bool false]) (by simp [results, Try.results33, go_sem]; rfl) rfl ⟨rfl, bAl (bAl (Below.refl _ _) _) _⟩
/-- the number of an ID -/
def idN (a b d : Int) : Nat := (a * 1000000 + b * 10000 + d).toNat
def fmtS (a b d : Int) : ByteArray := if okID a b d = true then tx9 (numC (idN a b d)) else .empty
def fmtE (a b d : Int) : Int := if okID a b d = true then 0 else 2
theorem okID_iff (a b d : Int) : okID a b d = true ↔ (0 ≤ a ∧ a ≤ 99) ∧ (0 ≤ b ∧ b ≤ 99) ∧ (0 ≤ d ∧ d ≤ 9999) := by
  unfold okID
  simp only [Bool.and_eq_true, decide_eq_true_eq]
theorem ret_text {s s' : ByteArray} {e e' : Int} (h : s = s') (k : e = e') : Ending.returned (.tuple #[.string s, .int .i64 e]) = .returned (.tuple #[.string s', .int .i64 e']) := by rw [h, k]
set_option maxHeartbeats 2000000 in
theorem format_any (a b d : Int) (w : World) :
    Calls Try.prog 13 #[.agg #[.int .i64 a, .int .i64 b, .int .i64 d]] w fun e w' => e = .returned (.tuple #[.string (fmtS a b d), .int .i64 (fmtE a b d)]) ∧ Below w.heap.size w w' := by
  go_enter Try.func13, Try.ntmps13
  go_wp2_with fail
  have P0 : Hid (Blk (w.alloc (.cells #[.int .i64 a, .int .i64 b, .int .i64 d] 23)) w.heap.size 23 #[.int .i64 a, .int .i64 b, .int .i64 d]) := Lib.hid (Blk.newAt rfl)
  refine (valid_any a b d _).mono ?_
  rintro e w1 ⟨rfl, hb⟩
  have HB := Lib.hid (bTr (bAl (Below.refl _ w) _) hb)
  have PX := Lib.hid (P0.out.later hb)
  clear P0 hb
  by_cases hv : okID a b d = true
  · have HS : Hid (tx9 (numC (idN a b d)) = fmtS a b d ∧ (0 : Int) = fmtE a b d) := Lib.hid ⟨by unfold fmtS; rw [if_pos hv], by unfold fmtE; rw [if_pos hv]⟩
    obtain ⟨⟨a0, a1⟩, ⟨b0, b1⟩, d0, d1⟩ := (okID_iff a b d).1 hv
    rw [hv]
    obtain ⟨na, rfl⟩ := Int.eq_ofNat_of_zero_le a0
    obtain ⟨nb, rfl⟩ := Int.eq_ofNat_of_zero_le b0
    obtain ⟨nd, rfl⟩ := Int.eq_ofNat_of_zero_le d0
    have x0 : w1.cell? ⟨w.heap.size, 0, none⟩ = some (.int .i64 (na : Int)) := PX.out.cell 0
    have x1 : w1.cell? ⟨w.heap.size, 1, none⟩ = some (.int .i64 (nb : Int)) := PX.out.cell 1
    have x2 : w1.cell? ⟨w.heap.size, 2, none⟩ = some (.int .i64 (nd : Int)) := PX.out.cell 2
    go_wp2_with fail
    refine (numberOf_any na nb nd (idN na nb nd) (by omega) (by omega) (by omega) (by unfold idN; omega) _).mono ?_
    rintro e w2 ⟨rfl, hb⟩
    have HB2 := Lib.hid (bTr HB.out hb)
    clear x0 x1 x2 hb
    have hcb := numC_bd (idN na nb nd)
    generalize numC (idN na nb nd) = c at HS hcb ⊢
    have hrun := text_nine c hcb _ _ (Blk.newAt (w := w2) (n := w2.heap.size) (t := 43) (cs := nine c) rfl)
    have HB3 := Lib.hid (bAl HB2.out (.cells (nine c) 43))
    have e9 : nine c = #[.int .u8 (c 0), .int .u8 (c 1), .int .u8 (c 2), .int .u8 (c 3), .int .u8 (c 4), .int .u8 (c 5), .int .u8 (c 6), .int .u8 (c 7), .int .u8 (c 8)] := rfl
    rw [e9]
    clear e9
    simp only [nine] at hrun
    go_wp2_with fail
    exact bodyPost_ret (v := .tuple #[.string (tx9 c), .int .i64 0]) (by simp [results, Try.results13, go_sem]) rfl ⟨ret_text HS.out.1 HS.out.2, HB3.out⟩
  · have HS : Hid (ByteArray.empty = fmtS a b d ∧ (2 : Int) = fmtE a b d) := Lib.hid ⟨by unfold fmtS; rw [if_neg hv], by unfold fmtE; rw [if_neg hv]⟩
    rw [eq_false_of_ne_true hv]
    go_wp2_with fail
    exact bodyPost_ret (v := .tuple #[.string .empty, .int .i64 2]) (by simp [results, Try.results13, go_sem]; rfl) rfl ⟨ret_text HS.out.1 HS.out.2, HB.out⟩
def letS (s : ByteArray) : ByteArray := if s.size = 8 ∧ digs (byteAt s) 8 = true then ⟨[UInt8.ofNat (lett ((wsum (byteAt s) 8) % 23).toNat).toNat].toArray⟩ else .empty
def letE (s : ByteArray) : Int := if s.size = 8 ∧ digs (byteAt s) 8 = true then 0 else 7
theorem letterOf_any (s : ByteArray) (w : World) :
    Calls Try.prog 18 #[.string s] w fun e w' => e = .returned (.tuple #[.string (letS s), .int .i64 (letE s)]) ∧ Below w.heap.size w w' := by
  by_cases h : s.size = 8
  · go_enter Try.func18, Try.ntmps18
    obtain ⟨w2, hrun, PB, HF, HW⟩ := copy_nine s (by omega) (w.alloc (.cells (nine fun _ => 0) 43)) w.heap.size (Blk.newAt rfl)
    have HB := Lib.hid (HW.out w.heap.size w (by omega) (bAl (Below.refl _ _) _))
    clear HF HW
    simp only [nine] at hrun
    obtain ⟨z0, z1, z2, z3, z4, z5, z6, z7, z8⟩ := PB.out.nine
    go_wp2_with fail
    refine (hasDigits_any (byteAt s) (byteAt_bd s) _).mono ?_
    rintro e w3 ⟨rfl, hb⟩
    have HB3 := Lib.hid (bTr HB.out hb)
    have PB3 := Lib.hid (PB.out.later hb)
    clear z0 z1 z2 z3 z4 z5 z6 z7 z8 hrun hb PB HB
    cases hd : digs (byteAt s) 8
    · have HS : Hid (ByteArray.empty = letS s ∧ (7 : Int) = letE s) := Lib.hid ⟨by unfold letS; rw [if_neg (by simp [hd])], by unfold letE; rw [if_neg (by simp [hd])]⟩
      go_wp2_with fail
      exact bodyPost_ret (v := .tuple #[.string .empty, .int .i64 7]) (by simp [results, Try.results18, go_sem]; rfl) rfl ⟨ret_text HS.out.1 HS.out.2, HB3.out⟩
    · obtain ⟨z0, z1, z2, z3, z4, z5, z6, z7, z8⟩ := PB3.out.nine
      go_wp2_with fail
      refine (letter_any (byteAt s) (byteAt_bd s) _).mono ?_
      rintro e w4 ⟨rfl, hb⟩
      have HB4 := Lib.hid (bTr HB3.out hb)
      have PB4 := Lib.hid (PB3.out.later hb)
      clear z0 z1 z2 z3 z4 z5 z6 z7 z8 hb PB3 HB3
      generalize hL : lett (wsum (byteAt s) 8 % 23).toNat = L
      have HS : Hid ((⟨[UInt8.ofNat L.toNat].toArray⟩ : ByteArray) = letS s ∧ (0 : Int) = letE s) := Lib.hid ⟨by unfold letS; rw [if_pos ⟨h, hd⟩, hL], by unfold letE; rw [if_pos ⟨h, hd⟩]⟩
      have hLb : 0 ≤ L ∧ L < 256 := by rw [← hL]; exact lett_bd _
      have z8 := PB4.out.cell 8
      have f8 := PB4.out.frozen 8
      have PB5 := PB4.out.set_ 8 (.int .u8 L)
      rw [set_nine _ (by omega)] at PB5
      have hrun := text_last _ (fun i => by split; exact hLb; exact byteAt_bd s i) _ _ PB5
      have HB5 := Lib.hid (bSt HB4.out (p := ⟨w.heap.size, 8, none⟩) (by simp) (.int .u8 L))
      simp only [if_pos rfl] at hrun
      clear PB5
      simp [nine] at z8
      go_wp2_with fail
      exact bodyPost_ret (v := .tuple #[.string ⟨#[UInt8.ofNat L.toNat]⟩, .int .i64 0]) (by simp [results, Try.results18, go_sem]) rfl ⟨ret_text HS.out.1 HS.out.2, HB5.out⟩
  · have HS : Hid (ByteArray.empty = letS s ∧ (7 : Int) = letE s) := Lib.hid ⟨by unfold letS; rw [if_neg (by omega)], by unfold letE; rw [if_neg (by omega)]⟩
    go_enter Try.func18, Try.ntmps18
    go_wp2_with fail
    exact bodyPost_ret (v := .tuple #[.string .empty, .int .i64 7]) (by simp [results, Try.results18, go_sem]; rfl) rfl ⟨ret_text HS.out.1 HS.out.2, bAl (Below.refl _ _) _⟩
/-- nine bytes of the right form; with the right letter -/
def shp (s : ByteArray) : Bool := decide (s.size = 9) && (digs (byteAt s) 8 && isLet (byteAt s 8))
def rgt (s : ByteArray) : Bool := byteAt s 8 == lett ((wsum (byteAt s) 8) % 23).toNat
def prE (s : ByteArray) : Int := if shp s = true then (if rgt s = true then 0 else 24) else 7
def prV (s : ByteArray) : Int := if shp s = true then (if rgt s = true then valD (byteAt s) 8 else 0) else 0
theorem ret_id {a b d e a' b' d' e' : Int} (h1 : a = a') (h2 : b = b') (h3 : d = d') (k : e = e') : Ending.returned (.tuple #[.agg #[.int .i64 a, .int .i64 b, .int .i64 d], .int .i64 e]) = .returned (.tuple #[.agg #[.int .i64 a', .int .i64 b', .int .i64 d'], .int .i64 e']) := by rw [h1, h2, h3, k]
set_option maxHeartbeats 2000000 in
theorem parse_any (s : ByteArray) (w : World) :
    Calls Try.prog 21 #[.string s] w fun e w' => e = .returned (.tuple #[.agg #[.int .i64 (prV s / 1000000), .int .i64 (prV s % 1000000 / 10000), .int .i64 (prV s % 10000)], .int .i64 (prE s)]) ∧ Below w.heap.size w w' := by
  have hc := byteAt_bd s
  have HS : Hid (shp s = (decide (s.size = 9) && (digs (byteAt s) 8 && isLet (byteAt s 8))) ∧ prE s = (if shp s = true then (if rgt s = true then 0 else 24) else 7) ∧ prV s = (if shp s = true then (if rgt s = true then valD (byteAt s) 8 else 0) else 0) ∧ rgt s = (byteAt s 8 == lett ((wsum (byteAt s) 8) % 23).toNat)) := Lib.hid ⟨rfl, rfl, rfl, rfl⟩
  go_enter Try.func21, Try.ntmps21
  go_wp2_with fail
  have P0 : Hid (Blk (w.alloc (.cells #[.int .i64 0, .int .i64 0, .int .i64 0] 23)) w.heap.size 23 #[.int .i64 0, .int .i64 0, .int .i64 0]) := Lib.hid (Blk.newAt rfl)
  refine (read_any s _).mono ?_
  rintro e w1 ⟨rfl, hb1⟩
  have HB := Lib.hid (bTr (bAl (Below.refl _ w) _) hb1)
  have PR := Lib.hid (P0.out.later hb1)
  clear P0 hb1
  by_cases h9 : s.size = 9
  · rw [if_pos h9]
    have e9 : nine (byteAt s) = #[.int .u8 (byteAt s 0), .int .u8 (byteAt s 1), .int .u8 (byteAt s 2), .int .u8 (byteAt s 3), .int .u8 (byteAt s 4), .int .u8 (byteAt s 5), .int .u8 (byteAt s 6), .int .u8 (byteAt s 7), .int .u8 (byteAt s 8)] := rfl
    rw [e9]
    clear e9
    go_wp2_with fail
    refine (wellFormed_any (byteAt s) hc _).mono ?_
    rintro e w2 ⟨rfl, hb⟩
    have HB2 := Lib.hid (bTr (bAl HB.out _) hb)
    have PR2 := Lib.hid ((PR.out.alloc _).later hb)
    have PN2 := Lib.hid ((Blk.newAt (t := 43) (cs := nine (byteAt s)) rfl).later hb)
    clear hb PR HB
    cases hw : (digs (byteAt s) 8 && isLet (byteAt s 8))
    · have HSh : Hid (shp s = false) := Lib.hid (by rw [HS.out.1, hw, Bool.and_false])
      have x0 := PR2.out.cell 0
      have x1 := PR2.out.cell 1
      have x2 := PR2.out.cell 2
      have f0 := PR2.out.frozen 0
      have f1 := PR2.out.frozen 1
      have f2 := PR2.out.frozen 2
      simp at x0 x1 x2
      go_wp2_with fail
      have PV : prV s = 0 := by rw [HS.out.2.2.1, HSh.out, if_neg (by simp)]
      have PE : prE s = 7 := by rw [HS.out.2.1, HSh.out, if_neg (by simp)]
      refine bodyPost_ret (v := .tuple #[.agg #[.int .i64 0, .int .i64 0, .int .i64 0], .int .i64 7]) (by simp [results, Try.results21, go_sem, x0, x1, x2]) rfl ⟨ret_id (by rw [PV]; try rfl) (by rw [PV]; try rfl) (by rw [PV]; try rfl) PE.symm, ?_⟩
      exact bSt (bSt (bSt HB2.out (by simp) _) (by simp) _) (by simp) _
    · obtain ⟨z0, z1, z2, z3, z4, z5, z6, z7, z8⟩ := PN2.out.nine
      have HD : Hid (digs (byteAt s) 8 = true) := Lib.hid (by rw [Bool.and_eq_true] at hw; exact hw.1)
      have HSh : Hid (shp s = true) := Lib.hid (by rw [HS.out.1, hw, Bool.and_true]; simp [h9])
      go_wp2_with fail
      refine (correct_any (byteAt s) hc _).mono ?_
      rintro e w3 ⟨rfl, hb⟩
      have HB3 := Lib.hid (bTr HB2.out hb)
      have PR3 := Lib.hid (PR2.out.later hb)
      have PN3 := Lib.hid (PN2.out.later hb)
      clear z0 z1 z2 z3 z4 z5 z6 z7 z8 hb PR2 HB2 PN2
      have x0 := PR3.out.cell 0
      have x1 := PR3.out.cell 1
      have x2 := PR3.out.cell 2
      have f0 := PR3.out.frozen 0
      have f1 := PR3.out.frozen 1
      have f2 := PR3.out.frozen 2
      simp at x0 x1 x2
      cases hr : (byteAt s 8 == lett ((wsum (byteAt s) 8) % 23).toNat)
      · go_wp2_with fail
        have PV : prV s = 0 := by rw [HS.out.2.2.1, HSh.out, if_pos rfl, HS.out.2.2.2, hr, if_neg (by simp)]
        have PE : prE s = 24 := by rw [HS.out.2.1, HSh.out, if_pos rfl, HS.out.2.2.2, hr, if_neg (by simp)]
        refine bodyPost_ret (v := .tuple #[.agg #[.int .i64 0, .int .i64 0, .int .i64 0], .int .i64 24]) (by simp [results, Try.results21, go_sem, x0, x1, x2]) rfl ⟨ret_id (by rw [PV]; try rfl) (by rw [PV]; try rfl) (by rw [PV]; try rfl) PE.symm, ?_⟩
        exact bSt (bSt (bSt HB3.out (by simp) _) (by simp) _) (by simp) _
      · clear x0 x1 x2 f0 f1 f2
        obtain ⟨z0, z1, z2, z3, z4, z5, z6, z7, z8⟩ := PN3.out.nine
        go_wp2_with fail
        refine (id_any (byteAt s) hc HD.out _).mono ?_
        rintro e w4 ⟨rfl, hb⟩
        have HB4 := Lib.hid (bTr HB3.out hb)
        have PR4 := Lib.hid (PR3.out.later hb)
        clear z0 z1 z2 z3 z4 z5 z6 z7 z8 hb PR3 HB3 PN3
        have x0 := PR4.out.cell 0
        have x1 := PR4.out.cell 1
        have x2 := PR4.out.cell 2
        have f0 := PR4.out.frozen 0
        have f1 := PR4.out.frozen 1
        have f2 := PR4.out.frozen 2
        simp at x0 x1 x2
        go_wp2_with fail
        have PV : prV s = valD (byteAt s) 8 := by rw [HS.out.2.2.1, HSh.out, if_pos rfl, HS.out.2.2.2, hr, if_pos rfl]
        have PE : prE s = 0 := by rw [HS.out.2.1, HSh.out, if_pos rfl, HS.out.2.2.2, hr, if_pos rfl]
        refine bodyPost_ret (v := .tuple #[.agg #[.int .i64 (valD (byteAt s) 8 / 1000000), .int .i64 (valD (byteAt s) 8 % 1000000 / 10000), .int .i64 (valD (byteAt s) 8 % 10000)], .int .i64 0]) (by simp [results, Try.results21, go_sem, x0, x1, x2]) rfl ⟨ret_id (by rw [PV]; try rfl) (by rw [PV]; try rfl) (by rw [PV]; try rfl) PE.symm, ?_⟩
        exact bSt (bSt (bSt HB4.out (by simp) _) (by simp) _) (by simp) _
  · rw [if_neg h9]
    have e9 : nine (fun _ => 0) = #[.int .u8 0, .int .u8 0, .int .u8 0, .int .u8 0, .int .u8 0, .int .u8 0, .int .u8 0, .int .u8 0, .int .u8 0] := rfl
    rw [e9]
    clear e9
    have HSh : Hid (shp s = false) := Lib.hid (by rw [HS.out.1]; simp [h9])
    have x0 : w1.cell? ⟨w.heap.size, 0, none⟩ = some (.int .i64 0) := PR.out.cell 0
    have x1 : w1.cell? ⟨w.heap.size, 1, none⟩ = some (.int .i64 0) := PR.out.cell 1
    have x2 : w1.cell? ⟨w.heap.size, 2, none⟩ = some (.int .i64 0) := PR.out.cell 2
    have f0 := PR.out.frozen 0
    have f1 := PR.out.frozen 1
    have f2 := PR.out.frozen 2
    have klt : w.heap.size < w1.heap.size := PR.out.lt
    go_wp2_with fail
    have PV : prV s = 0 := by rw [HS.out.2.2.1, HSh.out, if_neg (by simp)]
    have PE : prE s = 7 := by rw [HS.out.2.1, HSh.out, if_neg (by simp)]
    refine bodyPost_ret (v := .tuple #[.agg #[.int .i64 0, .int .i64 0, .int .i64 0], .int .i64 7]) (by simp [results, Try.results21, go_sem, x0, x1, x2, klt]) rfl ⟨ret_id (by rw [PV]; try rfl) (by rw [PV]; try rfl) (by rw [PV]; try rfl) PE.symm, ?_⟩
    exact bAl (bSt (bSt (bSt HB.out (by simp) _) (by simp) _) (by simp) _) _
end Go.Proofs.Ytlionhmmefghmaa
