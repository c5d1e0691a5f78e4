/-
  The walk of the statement on Parse at texts that are numbers, or nearly so.
-/
import Derived.Test.YtlocgjhblcgpbaaPAll
import Derived.Test.YtlocgjhblcgpbaaHeldR
import Derived.Test.YtlocgjhblcgpbaaDraw
import Derived.Test.YtlocgjhblcgpbaaRowOf
namespace Go.Proofs.Ytlocgjhblcgpbaa
open Go.RowKit
set_option linter.unusedSimpArgs false
set_option linter.unusedVariables false

theorem gAlc (w : World) {a : World} {row : Option Nat} (h : a.grownBy w row) (o : Obj) : a.grownBy (w.alloc o) row :=
  ⟨h.os, h.tape, h.output, by have := h.size; simp; omega, fun j hj hn => (Below.heap_alloc w o j (Nat.lt_of_lt_of_le hj h.size)).trans (h.block j hj hn)⟩
theorem tape_more {w : World} {B g : Nat} {o : Option Addr} {n c : Nat} {z : Nat → Int} (h : Tp w B g o n c z) :
    Calls Try.prog 39 #[.pointer (some ⟨g, 0, none⟩)] w fun e w' => ∃ b : Bool, e = .returned (.bool b) ∧ Below w.heap.size w w' := by
  obtain ⟨k, hk, hB⟩ := h.blk
  obtain ⟨⟨c0, c1⟩, -, hlt⟩ := hB.two
  clear hB h
  go_enter Try.func39, Try.ntmps39
  go_wp2
  go_quiet (fail)
  go_wp2
  go_ret
  exact ⟨_, rfl, bDr (Below.refl _ _) _⟩
theorem u8_back' {x : Int} (h : 0 ≤ x ∧ x < 256) : (((UInt8.ofNat x.toNat).toNat : Nat) : Int) = x := by
  rw [UInt8.toNat_ofNat']
  omega
/-- string([]byte(of one byte)) -/
theorem text_one (w : World) (x : Int) (hx : 0 ≤ x ∧ x < 256) :
    (convert 50 9 (.slice (some ⟨w.heap.size, 0, none⟩) 1 1)).run Try.prog (w.alloc (.cells #[.int .u8 x] 5)) = .ok (.string ⟨[UInt8.ofNat x.toNat].toArray⟩) (w.alloc (.cells #[.int .u8 x] 5)) := by
  refine run_convert_bytes_back (P := Try.prog) _ 50 9 5 ⟨w.heap.size, 0, none⟩ 1 [UInt8.ofNat x.toNat] Try.underlying50 Try.underlying5 Try.underlying9 (fun j hj => ?_)
  obtain rfl : j = 0 := by have : j < 1 := hj; omega
  have e : (⟨w.heap.size, 0, none⟩ : Addr).add 0 = ⟨w.heap.size, 0, none⟩ := by unfold Addr.add; simp
  have PB := Blk.newAt (w := w) (n := w.heap.size) (t := 5) (cs := #[.int .u8 x]) rfl
  rw [e, PB.cell]
  show some (Value.int .u8 x) = some (Value.int .u8 ((UInt8.ofNat x.toNat).toNat : Int))
  rw [u8_back' hx]
def y4 (i : Nat) : Int := [0, 1, 9, 5].getD i 0
def y5 (i : Nat) : Int := [0, 0, 1, 9, 5].getD i 0
theorem y4_bd (i : Nat) (h : i < 4) : 0 ≤ y4 i ∧ y4 i ≤ 9 := by
  have : i = 0 ∨ i = 1 ∨ i = 2 ∨ i = 3 := by omega
  rcases this with rfl | rfl | rfl | rfl <;> decide
theorem y5_bd (i : Nat) (h : i < 5) : 0 ≤ y5 i ∧ y5 i ≤ 9 := by
  have : i = 0 ∨ i = 1 ∨ i = 2 ∨ i = 3 ∨ i = 4 := by omega
  rcases this with rfl | rfl | rfl | rfl | rfl <;> decide
theorem three_text {w : World} {t : TypeId} (i : Nat) (hi : i < 3) : ∃ s : ByteArray, s.size ≤ 1 ∧ (w.alloc (.cells #[.string ⟨#[]⟩, .string ⟨#[47]⟩, .string ⟨#[46]⟩] t)).cell? ⟨w.heap.size, i, none⟩ = some (.string s) := by
  have : i = 0 ∨ i = 1 ∨ i = 2 := by omega
  rcases this with rfl | rfl | rfl <;> exact ⟨_, by decide, (Blk.new w t _).cell _⟩
theorem five_text {w : World} {t : TypeId} (i : Nat) (hi : i < 5) : ∃ s : ByteArray, s.size ≤ 1 ∧ (w.alloc (.cells #[.string ⟨#[32]⟩, .string ⟨#[47]⟩, .string ⟨#[46]⟩, .string ⟨#[45]⟩, .string ⟨#[120]⟩] t)).cell? ⟨w.heap.size, i, none⟩ = some (.string s) := by
  have : i = 0 ∨ i = 1 ∨ i = 2 ∨ i = 3 ∨ i = 4 := by omega
  rcases this with rfl | rfl | rfl | rfl | rfl <;> exact ⟨_, by decide, (Blk.new w t _).cell _⟩
theorem pick4 {B g : Nat} {o : Option Addr} {n c : Nat} {z : Nat → Int} (W : World) (hX : Tp W B g o n c z) :
    Calls Try.prog 38 #[.pointer (some ⟨g, 0, none⟩), .slice (some ⟨W.heap.size, 0, none⟩) 4 4] (W.alloc (.cells #[.int .i64 0, .int .i64 1, .int .i64 9, .int .i64 5] 3)) (GetInt (fun v => 0 ≤ v ∧ v ≤ 9) (W.alloc (.cells #[.int .i64 0, .int .i64 1, .int .i64 9, .int .i64 5] 3)) B g o n c z) := by
  have hg := hX.lt
  refine (tape_pick W.heap.size 4 4 y4 (by omega) (by omega) (hX.alloc _) ?_ (by simp) (by omega)).mono ?_
  · intro i hi
    have : i = 0 ∨ i = 1 ∨ i = 2 ∨ i = 3 := by omega
    rcases this with rfl | rfl | rfl | rfl <;> exact Blk.cell (Blk.newAt rfl) _
  · rintro e w1 ⟨u, ⟨i, hi, rfl⟩, he, ht, hgr⟩
    exact ⟨_, y4_bd i hi, he, ht, hgr⟩
theorem pick5 {B g : Nat} {o : Option Addr} {n c : Nat} {z : Nat → Int} (W : World) (hX : Tp W B g o n c z) :
    Calls Try.prog 38 #[.pointer (some ⟨g, 0, none⟩), .slice (some ⟨W.heap.size, 0, none⟩) 5 5] (W.alloc (.cells #[.int .i64 0, .int .i64 0, .int .i64 1, .int .i64 9, .int .i64 5] 3)) (GetInt (fun v => 0 ≤ v ∧ v ≤ 9) (W.alloc (.cells #[.int .i64 0, .int .i64 0, .int .i64 1, .int .i64 9, .int .i64 5] 3)) B g o n c z) := by
  have hg := hX.lt
  refine (tape_pick W.heap.size 5 5 y5 (by omega) (by omega) (hX.alloc _) ?_ (by simp) (by omega)).mono ?_
  · intro i hi
    have : i = 0 ∨ i = 1 ∨ i = 2 ∨ i = 3 ∨ i = 4 := by omega
    rcases this with rfl | rfl | rfl | rfl | rfl <;> exact Blk.cell (Blk.newAt rfl) _
  · rintro e w1 ⟨u, ⟨i, hi, rfl⟩, he, ht, hgr⟩
    exact ⟨_, y5_bd i hi, he, ht, hgr⟩
/-- the tape stands, nothing else that was there has turned -/
structure Rd (w1 : World) (B g : Nat) (o : Option Addr) (n c : Nat) (z : Nat → Int) (wr : World) : Prop where
  tp : Tp wr B g o n c z
  gr : w1.grownBy wr (some g)
theorem Rd.on {w1 wr w3 : World} {B g : Nat} {o : Option Addr} {n c : Nat} {z : Nat → Int} (h : Rd w1 B g o n c z wr) (ht : Tp w3 B g o n c z) (hg : wr.grownBy w3 (some g)) : Rd w1 B g o n c z w3 := ⟨ht, gTr h.gr hg⟩
theorem Rd.later {w1 wr w3 : World} {B g : Nat} {o : Option Addr} {n c : Nat} {z : Nat → Int} (h : Rd w1 B g o n c z wr) (hb : Below wr.heap.size wr w3) : Rd w1 B g o n c z w3 := h.on (h.tp.later hb) (gBe hb)
theorem Rd.alloc {w1 wr : World} {B g : Nat} {o : Option Addr} {n c : Nat} {z : Nat → Int} (h : Rd w1 B g o n c z wr) (x : Obj) : Rd w1 B g o n c z (wr.alloc x) := h.later (bAl (Below.refl _ _) x)
/-- the end of the walk: both readers, the comparison, awake -/
def ReadsLoop (w1 : World) (B g : Nat) (o : Option Addr) (n c : Nat) (z : Nat → Int) (m : Nat) (v i : Value) (wr : World) : Prop :=
  ∃ (k : Nat) (s : ByteArray), v = .string s ∧ i = .int .i64 (k : Int) ∧ k ≤ 20 ∧ s.size + k ≤ m ∧ Hid (Rd w1 B g o n c z wr)
set_option maxRecDepth 100000 in
set_option maxHeartbeats 8000000 in
theorem walkRatioReads (o : Option Addr) (n c : Nat) (zs : List Int) (w : World) (h0 : IsRow .i64 w o n c zs) :
    Calls Try.prog 10 #[.slice o n c] w fun e w' => e = .returned (.bool true) ∧ Below w.heap.size w w' := by
  obtain ⟨hr, h1, h2, h3⟩ := row_of h0
  go_enter Try.func10, Try.ntmps10
  go_wp2_with fail
  refine (tape_new hr h1 h2 h3).mono ?_
  rintro e w1 ⟨g, n9, rfl, ht1, hb1, hg⟩
  have HB1 := Lib.hid hb1
  have HGW := Lib.hid hg
  clear hr h1 h2 h3 hb1 hg
  go_wp2_with fail
  refine (tape_next 2 (by omega) (by omega) ht1).mono ?_
  rintro e w2 ⟨q, ⟨q0, q1⟩, rfl, ht2, hg2⟩
  have R2 := Lib.hid (show Rd w1 w.heap.size g o n9 c (fun i => zs.getD i 0) w2 from ⟨ht2, hg2⟩)
  clear ht1 ht2 hg2
  have hqs : (∃ s0 : ByteArray, s0.size ≤ 1 ∧ ((q = 1 ∧ s0 = ⟨#[45]⟩) ∨ (q = 0 ∧ s0 = ⟨#[]⟩))) := by
    rcases (show q = 0 ∨ q = 1 by omega) with h | h
    · exact ⟨⟨#[]⟩, by decide, .inr ⟨h, rfl⟩⟩
    · exact ⟨⟨#[45]⟩, by decide, .inl ⟨h, rfl⟩⟩
  clear q0 q1
  obtain ⟨s0, hs0, hqq⟩ := hqs
  rcases hqq with ⟨rfl, he⟩ | ⟨rfl, he⟩
  all_goals
    go_wp2_with fail
    rw [← he]
    clear he
    refine (tape_range 0 20 (by omega) (by omega) (by omega) R2.out.tp).mono ?_
    rintro e w3 ⟨k, ⟨k0, k1⟩, rfl, ht3, hg3⟩
    have R3 := Lib.hid (R2.out.on ht3 hg3)
    obtain ⟨kk, rfl⟩ := Int.eq_ofNat_of_zero_le k0
    clear ht3 hg3 R2
    go_wp2_with fail
    go_loopw [4, 5] (fun v i wr => ReadsLoop w1 w.heap.size g o n9 c (fun i => zs.getD i 0) 21 v i wr) (fun _ i _ => (intOf i).toNat)
    case atStart => exact ⟨kk, s0, rfl, rfl, by omega, by omega, R3⟩
    case round =>
      clear R3
      obtain ⟨k, s, rfl, rfl, hk, hsz, HR⟩ := hrel
      by_cases hk0 : 0 < k
      · have hk0' : (0 : Int) < (k : Int) := by omega
        go_wp2_with fail
        refine (pick4 wr HR.out.tp).mono ?_
        rintro e w4 ⟨y, ⟨y0, y1⟩, rfl, ht4, hg4⟩
        have R4 := Lib.hid ((HR.out.alloc _).on ht4 hg4)
        clear ht4 hg4 HR
        have hconv := text_one w4 (48 + y) (by omega)
        have hwu : IntKind.u8.wrap (48 + y) = 48 + y := by rw [IntKind.wrap_u8]; omega
        have hlen : ¬ 9223372036854775807 < s.size + 1 := by omega
        generalize hbx : [UInt8.ofNat (48 + y).toNat] = bx at hconv
        have hbl : bx.length = 1 := by rw [← hbx]; rfl
        clear hbx
        go_wp2_with fail
        case roundEnd =>
          have hsz' : (s ++ (⟨bx.toArray⟩ : ByteArray)).size = s.size + 1 := by rw [ByteArray.size_append]; show s.size + bx.toArray.size = _; rw [List.size_toArray, hbl]
          exact ⟨⟨k - 1, s ++ ⟨bx.toArray⟩, rfl, by rw [show ((k - 1 : Nat) : Int) = (k : Int) - 1 by omega], by omega, by rw [hsz']; omega, Lib.hid (R4.out.alloc _)⟩, by simp [intOf]; omega⟩
      · obtain rfl : k = 0 := by omega
        have HGL := Lib.hid HR.out.tp.lt
        have R5 := Lib.hid (HR.out.alloc (.cells #[.string ⟨#[]⟩, .string ⟨#[47]⟩, .string ⟨#[46]⟩] 9))
        clear HR
        go_wp2_with fail
        refine (tape_next 3 (by omega) (by omega) R5.out.tp).mono ?_
        rintro e w6 ⟨y, ⟨y0, y1⟩, rfl, ht6, hg6⟩
        obtain ⟨yi, rfl⟩ := Int.eq_ofNat_of_zero_le y0
        have hyi : yi < 3 := by omega
        obtain ⟨sp, hsp, hcp0⟩ := three_text (w := wr) (t := 9) yi hyi
        have hcp : w6.cell? ⟨wr.heap.size, yi, none⟩ = some (.string sp) := (World.cell?_of_block (a := ⟨wr.heap.size, yi, none⟩) (hg6.block wr.heap.size (by simp) (by intro e; injection e with e; have := HGL.out; omega))).trans hcp0
        have R6 := Lib.hid (R5.out.on ht6 hg6)
        have hlen6 : ¬ 9223372036854775807 < s.size + sp.size := by omega
        have hy3 : (yi : Int) < 3 := by omega
        have hs2 : (s ++ sp).size ≤ 22 := by rw [ByteArray.size_append]; omega
        clear ht6 hg6 hcp0 R5
        go_wp2_with fail
        generalize s ++ sp = s2 at hs2 ⊢
        refine (tape_range 0 20 (by omega) (by omega) (by omega) R6.out.tp).mono ?_
        rintro e w7 ⟨k, ⟨k0', k1'⟩, rfl, ht7, hg7⟩
        have R7 := Lib.hid (R6.out.on ht7 hg7)
        obtain ⟨kk2, rfl⟩ := Int.eq_ofNat_of_zero_le k0'
        clear ht7 hg7 R6 hcp
        go_wp2_with fail
        go_loopw [4, 6] (fun v i wr => ReadsLoop w1 w.heap.size g o n9 c (fun i => zs.getD i 0) 42 v i wr) (fun _ i _ => (intOf i).toNat)
        case atStart => exact ⟨kk2, s2, rfl, rfl, by omega, by omega, R7⟩
        case round =>
          clear R7
          obtain ⟨k, s, rfl, rfl, hk, hsz, HR⟩ := hrel
          by_cases hk0 : 0 < k
          · have hk0' : (0 : Int) < (k : Int) := by omega
            go_wp2_with fail
            refine (tape_more HR.out.tp).mono ?_
            rintro e w3 ⟨bm, rfl, hbm⟩
            have R3 := Lib.hid (HR.out.later hbm)
            clear hbm HR
            cases bm
            · go_wp2_with fail
              refine (tape_one 8 (by omega) (by omega) R3.out.tp).mono ?_
              rintro e w8 ⟨bb, rfl, ht8, hg8⟩
              have R8 := Lib.hid (R3.out.on ht8 hg8)
              clear ht8 hg8 R3
              cases bb
              · have HBW := Lib.hid (HB1.out.trans (bGr R8.out.gr HGW.out HB1.out.size))
                have PA := Lib.hid (fun W => parse_any s (by omega) W)
                have RA := Lib.hid (fun W => rparse_any s (by omega) W)
                generalize parN s = x1 at PA RA
                generalize parD s = x2 at PA RA
                generalize parE s = x3 at PA RA
                have heq : ∀ p q W, (binOp .eql 26 (.agg #[.int .i64 p, .int .i64 q]) (.agg #[.int .i64 p, .int .i64 q])).run Try.prog W = .ok (.bool true) W := fun p q W => by rw [eqlR, decide_eq_true rfl]
                have hx3 : (x3 == x3) = true := by simp
                go_wp2_with fail
                refine (PA.out _).mono ?_
                rintro e v7 ⟨rfl, hb⟩
                have HB7 := Lib.hid (bTr HBW.out hb)
                clear hb
                go_wp2_with fail
                refine (RA.out _).mono ?_
                rintro e v8 ⟨rfl, hb8⟩
                have H8 := Lib.hid (((Held.nil v7).add x1 x2).later hb8)
                have HB8 := Lib.hid (bTr (bAl HB7.out _) hb8)
                clear hb8 HB7
                obtain ⟨⟨u0, u1⟩, -, u2⟩ := H8.out.at_ (g := v7.heap.size) (p := x1) (q := x2) (by simp)
                go_wp2_with fail
                refine (awake_any _).mono ?_
                rintro e v9 ⟨rfl, hb9⟩
                have HF := Lib.hid (bTr (bAl HB8.out _) hb9)
                clear hb9
                go_wp2_with fail
                go_ret
                exact ⟨rfl, HF.out⟩
              · have R9 := Lib.hid (R8.out.alloc (.cells #[.string ⟨#[32]⟩, .string ⟨#[47]⟩, .string ⟨#[46]⟩, .string ⟨#[45]⟩, .string ⟨#[120]⟩] 9))
                go_wp2_with fail
                refine (tape_next 5 (by omega) (by omega) R9.out.tp).mono ?_
                rintro e w9 ⟨y, ⟨y0, y1⟩, rfl, ht9, hg9⟩
                obtain ⟨yi5, rfl⟩ := Int.eq_ofNat_of_zero_le y0
                have hyi5 : yi5 < 5 := by omega
                obtain ⟨sq, hsq, hcq0⟩ := five_text (w := w8) (t := 9) yi5 hyi5
                have hcq : w9.cell? ⟨w8.heap.size, yi5, none⟩ = some (.string sq) := (World.cell?_of_block (a := ⟨w8.heap.size, yi5, none⟩) (hg9.block w8.heap.size (by simp) (by intro e; injection e with e; have := R8.out.tp.lt; omega))).trans hcq0
                have R10 := Lib.hid (R9.out.on ht9 hg9)
                have hlen9 : ¬ 9223372036854775807 < s.size + sq.size := by omega
                have hy5 : (yi5 : Int) < 5 := by omega
                have hs3 : (s ++ sq).size ≤ 1000 := by rw [ByteArray.size_append]; omega
                clear ht9 hg9 hcq0 R9
                have HSS := Lib.hid (show s ++ sq = s ++ sq from rfl)
                have HBW := Lib.hid (HB1.out.trans (bGr R10.out.gr HGW.out HB1.out.size))
                have PA := Lib.hid (fun W => parse_any (s ++ sq) (by omega) W)
                have RA := Lib.hid (fun W => rparse_any (s ++ sq) (by omega) W)
                generalize parN (s ++ sq) = x1 at PA RA
                generalize parD (s ++ sq) = x2 at PA RA
                generalize parE (s ++ sq) = x3 at PA RA
                have heq : ∀ p q W, (binOp .eql 26 (.agg #[.int .i64 p, .int .i64 q]) (.agg #[.int .i64 p, .int .i64 q])).run Try.prog W = .ok (.bool true) W := fun p q W => by rw [eqlR, decide_eq_true rfl]
                have hx3 : (x3 == x3) = true := by simp
                go_wp2_with fail
                refine (PA.out _).mono ?_
                rintro e v7 ⟨rfl, hb⟩
                have HB7 := Lib.hid (bTr HBW.out hb)
                clear hb
                go_wp2_with fail
                refine (RA.out _).mono ?_
                rintro e v8 ⟨rfl, hb8⟩
                have H8 := Lib.hid (((Held.nil v7).add x1 x2).later hb8)
                have HB8 := Lib.hid (bTr (bAl HB7.out _) hb8)
                clear hb8 HB7
                obtain ⟨⟨u0, u1⟩, -, u2⟩ := H8.out.at_ (g := v7.heap.size) (p := x1) (q := x2) (by simp)
                go_wp2_with fail
                refine (awake_any _).mono ?_
                rintro e v9 ⟨rfl, hb9⟩
                have HF := Lib.hid (bTr (bAl HB8.out _) hb9)
                clear hb9
                go_wp2_with fail
                go_ret
                exact ⟨rfl, HF.out⟩
            · go_wp2_with fail
              refine (pick5 w3 R3.out.tp).mono ?_
              rintro e w4 ⟨y, ⟨y0, y1⟩, rfl, ht4, hg4⟩
              have R4 := Lib.hid ((R3.out.alloc _).on ht4 hg4)
              clear ht4 hg4 R3
              have hconv := text_one w4 (48 + y) (by omega)
              have hwu : IntKind.u8.wrap (48 + y) = 48 + y := by rw [IntKind.wrap_u8]; omega
              have hlen : ¬ 9223372036854775807 < s.size + 1 := by omega
              generalize hbx : [UInt8.ofNat (48 + y).toNat] = bx at hconv
              have hbl : bx.length = 1 := by rw [← hbx]; rfl
              clear hbx
              go_wp2_with fail
              case roundEnd =>
                have hsz' : (s ++ (⟨bx.toArray⟩ : ByteArray)).size = s.size + 1 := by rw [ByteArray.size_append]; show s.size + bx.toArray.size = _; rw [List.size_toArray, hbl]
                exact ⟨⟨k - 1, s ++ ⟨bx.toArray⟩, rfl, by rw [show ((k - 1 : Nat) : Int) = (k : Int) - 1 by omega], by omega, by rw [hsz']; omega, Lib.hid (R4.out.alloc _)⟩, by simp [intOf]; omega⟩
          · obtain rfl : k = 0 := by omega
            go_wp2_with fail
            refine (tape_one 8 (by omega) (by omega) HR.out.tp).mono ?_
            rintro e w8 ⟨bb, rfl, ht8, hg8⟩
            have R8 := Lib.hid (HR.out.on ht8 hg8)
            clear ht8 hg8 HR
            cases bb
            · have HBW := Lib.hid (HB1.out.trans (bGr R8.out.gr HGW.out HB1.out.size))
              have PA := Lib.hid (fun W => parse_any s (by omega) W)
              have RA := Lib.hid (fun W => rparse_any s (by omega) W)
              generalize parN s = x1 at PA RA
              generalize parD s = x2 at PA RA
              generalize parE s = x3 at PA RA
              have heq : ∀ p q W, (binOp .eql 26 (.agg #[.int .i64 p, .int .i64 q]) (.agg #[.int .i64 p, .int .i64 q])).run Try.prog W = .ok (.bool true) W := fun p q W => by rw [eqlR, decide_eq_true rfl]
              have hx3 : (x3 == x3) = true := by simp
              go_wp2_with fail
              refine (PA.out _).mono ?_
              rintro e v7 ⟨rfl, hb⟩
              have HB7 := Lib.hid (bTr HBW.out hb)
              clear hb
              go_wp2_with fail
              refine (RA.out _).mono ?_
              rintro e v8 ⟨rfl, hb8⟩
              have H8 := Lib.hid (((Held.nil v7).add x1 x2).later hb8)
              have HB8 := Lib.hid (bTr (bAl HB7.out _) hb8)
              clear hb8 HB7
              obtain ⟨⟨u0, u1⟩, -, u2⟩ := H8.out.at_ (g := v7.heap.size) (p := x1) (q := x2) (by simp)
              go_wp2_with fail
              refine (awake_any _).mono ?_
              rintro e v9 ⟨rfl, hb9⟩
              have HF := Lib.hid (bTr (bAl HB8.out _) hb9)
              clear hb9
              go_wp2_with fail
              go_ret
              exact ⟨rfl, HF.out⟩
            · have R9 := Lib.hid (R8.out.alloc (.cells #[.string ⟨#[32]⟩, .string ⟨#[47]⟩, .string ⟨#[46]⟩, .string ⟨#[45]⟩, .string ⟨#[120]⟩] 9))
              go_wp2_with fail
              refine (tape_next 5 (by omega) (by omega) R9.out.tp).mono ?_
              rintro e w9 ⟨y, ⟨y0, y1⟩, rfl, ht9, hg9⟩
              obtain ⟨yi5, rfl⟩ := Int.eq_ofNat_of_zero_le y0
              have hyi5 : yi5 < 5 := by omega
              obtain ⟨sq, hsq, hcq0⟩ := five_text (w := w8) (t := 9) yi5 hyi5
              have hcq : w9.cell? ⟨w8.heap.size, yi5, none⟩ = some (.string sq) := (World.cell?_of_block (a := ⟨w8.heap.size, yi5, none⟩) (hg9.block w8.heap.size (by simp) (by intro e; injection e with e; have := R8.out.tp.lt; omega))).trans hcq0
              have R10 := Lib.hid (R9.out.on ht9 hg9)
              have hlen9 : ¬ 9223372036854775807 < s.size + sq.size := by omega
              have hy5 : (yi5 : Int) < 5 := by omega
              have hs3 : (s ++ sq).size ≤ 1000 := by rw [ByteArray.size_append]; omega
              clear ht9 hg9 hcq0 R9
              have HSS := Lib.hid (show s ++ sq = s ++ sq from rfl)
              have HBW := Lib.hid (HB1.out.trans (bGr R10.out.gr HGW.out HB1.out.size))
              have PA := Lib.hid (fun W => parse_any (s ++ sq) (by omega) W)
              have RA := Lib.hid (fun W => rparse_any (s ++ sq) (by omega) W)
              generalize parN (s ++ sq) = x1 at PA RA
              generalize parD (s ++ sq) = x2 at PA RA
              generalize parE (s ++ sq) = x3 at PA RA
              have heq : ∀ p q W, (binOp .eql 26 (.agg #[.int .i64 p, .int .i64 q]) (.agg #[.int .i64 p, .int .i64 q])).run Try.prog W = .ok (.bool true) W := fun p q W => by rw [eqlR, decide_eq_true rfl]
              have hx3 : (x3 == x3) = true := by simp
              go_wp2_with fail
              refine (PA.out _).mono ?_
              rintro e v7 ⟨rfl, hb⟩
              have HB7 := Lib.hid (bTr HBW.out hb)
              clear hb
              go_wp2_with fail
              refine (RA.out _).mono ?_
              rintro e v8 ⟨rfl, hb8⟩
              have H8 := Lib.hid (((Held.nil v7).add x1 x2).later hb8)
              have HB8 := Lib.hid (bTr (bAl HB7.out _) hb8)
              clear hb8 HB7
              obtain ⟨⟨u0, u1⟩, -, u2⟩ := H8.out.at_ (g := v7.heap.size) (p := x1) (q := x2) (by simp)
              go_wp2_with fail
              refine (awake_any _).mono ?_
              rintro e v9 ⟨rfl, hb9⟩
              have HF := Lib.hid (bTr (bAl HB8.out _) hb9)
              clear hb9
              go_wp2_with fail
              go_ret
              exact ⟨rfl, HF.out⟩
end Go.Proofs.Ytlocgjhblcgpbaa
