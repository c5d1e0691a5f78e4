/-
  The syllabus that the statements draw from a tape.
-/
import Derived.Test.YtglikjdgjmijfaaSTape
import Derived.Test.YtglikjdgjmijfaaHeldTail
namespace Go.Proofs.Ytglikjdgjmijfaa
open Go.RowKit
set_option linter.unusedSimpArgs false
set_option linter.unusedVariables false

theorem own_any' {w : World} {B size n : Nat} {e : TypeId} {v : Value} {xs : List Value} (h : w.ownsRow B e size v n xs) : ∃ p cap, v = .slice p n cap := own_any h
def S6 (gn gb k : Nat) (nm : ByteArray) (p : Nat) (v : Value) (W : World) : Prop := W.cell? ⟨gn, k, none⟩ = some (.string nm) ∧ W.cell? ⟨gb, p, none⟩ = some v
theorem S6.grown {gn gb k : Nat} {nm : ByteArray} {p : Nat} {v : Value} {W W' : World} {row : Option Nat} (h : S6 gn gb k nm p v W) (hg : W.grownBy W' row) (hb : gb + 1 ≤ W.heap.size) (hgn : gn < gb) (hne : ∀ b, b < gb + 1 → some b ≠ row) : S6 gn gb k nm p v W' :=
  ⟨(hg.cell_far ⟨gn, k, none⟩ (by show gn < W.heap.size; omega) (hne gn (by omega))).trans h.1, (hg.cell_far ⟨gb, p, none⟩ (by show gb < W.heap.size; omega) (hne gb (by omega))).trans h.2⟩
theorem row_ne {W : World} {B size n : Nat} {e : TypeId} {v : Value} {xs : List Value} (h : W.ownsRow B e size v n xs) : ∀ b, b < B → some b ≠ v.ownBlock := fun b hb e => by have := (h.lt b e.symm).1; omega
theorem two_one {s : ByteArray} {b : Int} : ∀ u ∈ ([.string s, .int .i64 b] : List Value), u.oneCell' = true := by
  intro u hu
  simp at hu
  rcases hu with rfl | rfl <;> rfl
theorem three_one {s : ByteArray} {b c : Int} : ∀ u ∈ ([.string s, .int .i64 b, .int .i64 c] : List Value), u.oneCell' = true := by
  intro u hu
  simp at hu
  rcases hu with rfl | rfl | rfl <;> rfl
theorem str_one {s : ByteArray} : ∀ u ∈ ([.string s] : List Value), u.oneCell' = true := by
  intro u hu
  simp at hu
  subst hu; rfl
def pickAt (i : Nat) : Int := [0, 1, 2, 30, 40, 1000].getD i 0
theorem pickAt_bd (i : Nat) (h : i < 6) : 0 ≤ pickAt i ∧ pickAt i ≤ 1000 := by
  have : i = 0 ∨ i = 1 ∨ i = 2 ∨ i = 3 ∨ i = 4 ∨ i = 5 := by omega
  rcases this with rfl | rfl | rfl | rfl | rfl | rfl <;> decide
theorem pick6 {B g : Nat} {o : Option Addr} {n c : Nat} {z : Nat → Int} (W : World) (hX : Tp W B g o n c z) (hg : g < W.heap.size) :
    Calls Try.prog 35 #[.pointer (some ⟨g, 0, none⟩), .slice (some ⟨W.heap.size, 0, none⟩) 6 6] (W.alloc (.cells #[.int .i64 0, .int .i64 1, .int .i64 2, .int .i64 30, .int .i64 40, .int .i64 1000] 3)) (GetInt (fun v => 0 ≤ v ∧ v ≤ 1000) (W.alloc (.cells #[.int .i64 0, .int .i64 1, .int .i64 2, .int .i64 30, .int .i64 40, .int .i64 1000] 3)) B g o n c z) := by
  refine (tape_pick W.heap.size 6 6 pickAt (by omega) (by omega) (hX.alloc _) ?_ (by simp) (by omega)).mono ?_
  · intro i hi
    have : i = 0 ∨ i = 1 ∨ i = 2 ∨ i = 3 ∨ i = 4 ∨ i = 5 := by omega
    rcases this with rfl | rfl | rfl | rfl | rfl | rfl <;> exact Blk.cell (Blk.newAt rfl) _
  · rintro e w1 ⟨u, ⟨i, hi, rfl⟩, he, ht, hgr⟩
    exact ⟨_, pickAt_bd i hi, he, ht, hgr⟩
theorem seven_one {a b c d e f g : ByteArray} : ∀ u ∈ ([.string a, .string b, .string c, .string d, .string e, .string f, .string g] : List Value), u.oneCell' = true := by
  intro u hu
  simp at hu
  rcases hu with rfl | rfl | rfl | rfl | rfl | rfl | rfl <;> rfl
theorem cell_row (w : World) (cs : List Value) (t : TypeId) : ∀ j u, cs[j]? = some u → (w.alloc (.cells cs.toArray t)).cell? ((⟨w.heap.size, 0, none⟩ : Addr).add j) = some u := by
  intro j u hj
  have e : ((⟨w.heap.size, 0, none⟩ : Addr).add j) = ⟨w.heap.size, j, none⟩ := by unfold Addr.add; split <;> simp_all
  have h := (Blk.new w t cs.toArray).cell j
  rw [e, h]
  simpa using hj
theorem cell_seven (w : World) {a b c d e f g : Value} (t : TypeId) : ∀ j u, [a, b, c, d, e, f, g][j]? = some u → (w.alloc (.cells #[a, b, c, d, e, f, g] t)).cell? ((⟨w.heap.size, 0, none⟩ : Addr).add j) = some u := cell_row w [a, b, c, d, e, f, g] t
theorem four_cell {w : World} {t : TypeId} (i : Nat) (hi : i < 4) : ∃ s, (w.alloc (.cells #[.string ⟨#[]⟩, .string ⟨#[66, 105, 103]⟩, .string ⟨#[109, 117, 99, 104, 116, 111, 111, 108, 111, 110, 103, 97, 110, 97, 109, 101]⟩, .string ⟨#[120]⟩] t)).cell? ⟨w.heap.size, i, none⟩ = some (.string s) := by
  have : i = 0 ∨ i = 1 ∨ i = 2 ∨ i = 3 := by omega
  rcases this with rfl | rfl | rfl | rfl <;> exact ⟨_, (Blk.new w t _).cell _⟩
theorem cut_nat (i : Nat) (h : i < 6) (w : World) : Calls Try.prog 16 #[.int .i64 (i : Int), .int .i64 6] w fun e w' => e = .returned (.int .i64 (i : Int)) ∧ w = w' :=
  (cut_any (i : Int) 6 (by omega) (by omega) ⟨by omega, by omega⟩ w).mono fun e w' ⟨he, hw⟩ => ⟨by rw [he, show (i : Int) % 6 = i by omega], hw⟩
set_option maxRecDepth 100000 in
set_option maxHeartbeats 16000000 in
theorem draw_any (N : Int) (hN : 0 ≤ N) (hN1 : N < 1000) {w : World} {B g : Nat} {o : Option Addr} {n c : Nat} {z : Nat → Int} (h : Tp w B g o n c z) :
    Calls Try.prog 12 #[.pointer (some ⟨g, 0, none⟩), .int .i64 N] w (DrawR N w B g o n c z) := by
  obtain ⟨i0, hi0, hz0, hz1, hz2⟩ := info_parts string_info
  obtain ⟨j0, hj0, hy0, hy1, hy2⟩ := info_parts top_info
  obtain ⟨kk0, hkk0, hx0, hx1, hx2⟩ := info_parts com_info
  have H := Lib.hid h
  clear h
  go_enter Try.func12, Try.ntmps12
  go_wp2_with fail
  have HS0 : Hid (Sx w B g o n c z (w.heap.size + 1 + 1) (w.heap.size + 1) (.slice none 0 0) (.slice none 0 0) (.slice none 0 0) [] [] [] (((w.alloc (.cells #[.slice none 0 0, .slice none 0 0, .slice none 0 0] 27)).alloc (.cells nmCells 9)).alloc (.cells #[.slice none 0 0, .slice none 0 0, .slice none 0 0] 27))) := Lib.hid
    ⟨((H.out.alloc _).alloc _).alloc _, gAlc (gAlc (gAlc (gDr w 0 _) _) _) _, (Blk.newAt (by simp)).alloc _, Blk.newAt (by simp), World.ownsRow_nil _ _ _ _, World.ownsRow_nil _ _ _ _, World.ownsRow_nil _ _ _ _, H.out.lt, by omega, ⟨_, _, _, ((Blk.new _ _ _).alloc _).alloc _⟩⟩
  unfold nmCells at HS0
  generalize (((w.alloc _).alloc _).alloc _) = ws at HS0 ⊢
  clear H
  obtain ⟨gb, hgb⟩ : ∃ gb, w.heap.size + 1 + 1 = gb := ⟨_, rfl⟩
  obtain ⟨gn, hgn⟩ : ∃ gn, w.heap.size + 1 = gn := ⟨_, rfl⟩
  rw [hgb, hgn] at HS0 ⊢
  have HGN := Lib.hid (And.intro hgb hgn)
  clear hgb hgn
  go_loopw [7] (fun i wr => ∃ (k : Nat) (v1 : Value) (lt : List TP), i = .int .i64 k ∧ k ≤ 6 ∧ Hid (lt.length = k) ∧ Hid (GoodT lt) ∧ Hid (Sx w B g o n c z gb gn v1 (.slice none 0 0) (.slice none 0 0) lt [] [] wr)) (fun i _ => 7 - (intOf i).toNat)
  case atStart => exact ⟨0, _, [], rfl, by omega, Lib.hid rfl, Lib.hid (fun j x hx => by simp at hx), HS0⟩
  case round =>
    obtain ⟨k, v1, lt, rfl, hk, HLT, HG, HS⟩ := hrel
    go_wp2_with fail
    refine (tape_range 1 6 (by omega) (by omega) (by omega) HS.out.tp).mono ?_
    rintro e w2 ⟨u, ⟨hu0, hu1⟩, rfl, ht2, hg2⟩
    have S2 := Lib.hid (HS.out.on ht2 hg2)
    clear ht2 hg2 HS
    by_cases hku : (k : Int) < u
    · have hk6 : k < 6 := by omega
      have hk6' : (k : Int) < 6 := by omega
      have hk0 : (0 : Int) ≤ (k : Int) := by omega
      obtain ⟨p1, q1, rfl⟩ := own_any S2.out.r1
      have b0 : w2.cell? ⟨gb, 0, none⟩ = some (.slice p1 lt.length q1) := S2.out.bx.cell 0
      have nm0 := nm_cell S2.out.nm hk6
      have hgl := S2.out.gl
      have hln := S2.out.ln
      have hsz := S2.out.sz
      have HCUT := Lib.hid (cut_nat k hk6)
      have HNMX := Lib.hid (fun W (hX : Sx w B g o n c z gb gn (.slice p1 lt.length q1) (.slice none 0 0) (.slice none 0 0) lt [] [] W) => nm_cell hX.nm hk6)
      have HRG := Lib.hid (fun W (hX : Tp W B g o n c z) => tape_range (-1) ((k : Int) - 1) (by omega) (by omega) (by omega) hX)
      have hml1 : lt.length + 1 ≤ maxLen := by have := HLT.out; unfold maxLen; omega
      have hml2 : (lt.length + 1) * 24 ≤ 140737488355328 := by have := HLT.out; omega
      generalize hnm : nmAt k = nm at nm0 HNMX
      have HNM := Lib.hid hnm
      clear hnm
      go_wp2_with fail
      have HS6 := Lib.hid (fun W (hX : Sx w B g o n c z gb gn (.slice p1 lt.length q1) (.slice none 0 0) (.slice none 0 0) lt [] [] W) => (⟨HNMX.out W hX, hX.bx.cell 0⟩ : S6 gn gb k nm 0 (.slice p1 lt.length q1) W))
      have hH : S6 gn gb k nm 0 (.slice p1 lt.length q1) w2.drew := ⟨nm0, b0⟩
      refine wp_region_held_tail (S6 gn gb k nm 0 (.slice p1 lt.length q1)) 15 (by kernel_rfl) (by kernel_rfl) ?_
      simp only [List.drop_succ_cons, List.drop_zero]
      refine HeadW.take (i := 0) (oi := ?oi1) (v := ?v1) ?hi1 (by kernel_rfl) ?hQ1 (Or.inl ⟨?hg1, ?hy1⟩) hH ?rest1
      case hi1 => simp only [List.getElem?_toArray, List.getElem?_cons_succ, List.getElem?_cons_zero]; rfl
      case hQ1 => exact fun _ _ _ h => h
      case hg1 => rfl
      case hy1 => intro W hSw; obtain ⟨s0, s1⟩ := hSw; go_simp; try with_reducible rfl
      case rest1 =>
      try simp only [Act.put, List.setIfInBounds_toArray, List.set_cons_zero, List.set_cons_succ]
      refine HeadW.take (i := 1) (oi := ?oi2) (v := ?v2) ?hi2 (by kernel_rfl) ?hQ2 (Or.inl ⟨?hg2, ?hy2⟩) hH ?rest2
      case hi2 => simp only [List.getElem?_toArray, List.getElem?_cons_succ, List.getElem?_cons_zero]; rfl
      case hQ2 => exact fun _ _ _ h => h
      case hg2 => rfl
      case hy2 => intro W hSw; obtain ⟨s0, s1⟩ := hSw; go_simp; try with_reducible rfl
      case rest2 =>
      try simp only [Act.put, List.setIfInBounds_toArray, List.set_cons_zero, List.set_cons_succ]
      refine HeadW.take (i := 2) (oi := ?oi3) (v := ?v3) ?hi3 (by kernel_rfl) ?hQ3 (Or.inl ⟨?hg3, ?hy3⟩) hH ?rest3
      case hi3 => simp only [List.getElem?_toArray, List.getElem?_cons_succ, List.getElem?_cons_zero]; rfl
      case hQ3 => exact fun _ _ _ h => h
      case hg3 => rfl
      case hy3 => intro W hSw; obtain ⟨s0, s1⟩ := hSw; go_simp; try with_reducible rfl
      case rest3 =>
      try simp only [Act.put, List.setIfInBounds_toArray, List.set_cons_zero, List.set_cons_succ]
      refine HeadW.take (i := 3) (oi := ?oi4) (v := ?v4) ?hi4 (by kernel_rfl) ?hQ4 (Or.inl ⟨?hg4, ?hy4⟩) hH ?rest4
      case hi4 => simp only [List.getElem?_toArray, List.getElem?_cons_succ, List.getElem?_cons_zero]; rfl
      case hQ4 => exact fun _ _ _ h => h
      case hg4 => rfl
      case hy4 => intro W hSw; obtain ⟨s0, s1⟩ := hSw; go_simp; try with_reducible rfl
      case rest4 =>
      try simp only [Act.put, List.setIfInBounds_toArray, List.set_cons_zero, List.set_cons_succ]
      refine HeadW.take (i := 7) (oi := ?oi5) (v := ?v5) ?hi5 (by kernel_rfl) ?hQ5 (Or.inl ⟨?hg5, ?hy5⟩) hH ?rest5
      case hi5 => simp only [List.getElem?_toArray, List.getElem?_cons_succ, List.getElem?_cons_zero]; rfl
      case hQ5 => exact fun _ _ _ h => h
      case hg5 => rfl
      case hy5 => intro W hSw; obtain ⟨s0, s1⟩ := hSw; go_simp; try with_reducible rfl
      case rest5 =>
      try simp only [Act.put, List.setIfInBounds_toArray, List.set_cons_zero, List.set_cons_succ]
      refine HeadW.take (i := 8) (oi := ?oi6) (v := ?v6) ?hi6 (by kernel_rfl) ?hQ6 (Or.inl ⟨?hg6, ?hy6⟩) hH ?rest6
      case hi6 => simp only [List.getElem?_toArray, List.getElem?_cons_succ, List.getElem?_cons_zero]; rfl
      case hQ6 => exact fun _ _ _ h => h
      case hg6 => rfl
      case hy6 => intro W hSw; obtain ⟨s0, s1⟩ := hSw; go_simp; try with_reducible rfl
      case rest6 =>
      try simp only [Act.put, List.setIfInBounds_toArray, List.set_cons_zero, List.set_cons_succ]
      have hwr : IntKind.i64.wrap ((k : Int) - 1) = (k : Int) - 1 := by rw [IntKind.wrap_i64]; omega
      refine HeadW.take (i := 9) (oi := ?oi7) (v := ?v7) ?hi7 (by kernel_rfl) ?hQ7 (Or.inl ⟨?hg7, ?hy7⟩) hH ?rest7
      case hi7 => simp only [List.getElem?_toArray, List.getElem?_cons_succ, List.getElem?_cons_zero]; rfl
      case hQ7 => exact fun _ _ _ h => h
      case hg7 => rfl
      case hy7 => intro W hSw; obtain ⟨s0, s1⟩ := hSw; go_simp; try with_reducible rfl
      case rest7 =>
      try simp only [Act.put, List.setIfInBounds_toArray, List.set_cons_zero, List.set_cons_succ]
      clear hwr
      refine HeadW.one (i := 4) (o := ?oi8) ?hi8 (by kernel_rfl) ?st8
      case hi8 => simp only [List.getElem?_toArray, List.getElem?_cons_succ, List.getElem?_cons_zero]; rfl
      case st8 =>
      intro K hK
      go_simp
      go_at_call 16
      refine (HCUT.out _).mono ?_
      rintro e w' ⟨rfl, hw'⟩
      obtain rfl := hw'
      try dsimp only
      refine hK.out _ _ hH ?_
      clear hK K
      try simp only [Act.put, List.setIfInBounds_toArray, List.set_cons_zero, List.set_cons_succ]
      refine HeadW.take (i := 5) (oi := ?oi9) (v := ?v9) ?hi9 (by kernel_rfl) ?hQ9 (Or.inl ⟨?hg9, ?hy9⟩) hH ?rest9
      case hi9 => simp only [List.getElem?_toArray, List.getElem?_cons_succ, List.getElem?_cons_zero]; rfl
      case hQ9 => exact fun _ _ _ h => h
      case hg9 => rfl
      case hy9 => intro W hSw; obtain ⟨s0, s1⟩ := hSw; go_simp; try with_reducible rfl
      case rest9 =>
      try simp only [Act.put, List.setIfInBounds_toArray, List.set_cons_zero, List.set_cons_succ]
      refine HeadW.take (i := 6) (oi := ?oi10) (v := ?v10) ?hi10 (by kernel_rfl) ?hQ10 (Or.inl ⟨?hg10, ?hy10⟩) hH ?rest10
      case hi10 => simp only [List.getElem?_toArray, List.getElem?_cons_succ, List.getElem?_cons_zero]; rfl
      case hQ10 => exact fun _ _ _ h => h
      case hg10 => rfl
      case hy10 => intro W hSw; obtain ⟨s0, s1⟩ := hSw; go_simp; try with_reducible rfl
      case rest10 =>
      try simp only [Act.put, List.setIfInBounds_toArray, List.set_cons_zero, List.set_cons_succ]
      refine HeadW.one (i := 10) (o := ?oi11) ?hi11 (by kernel_rfl) ?st11
      case hi11 => simp only [List.getElem?_toArray, List.getElem?_cons_succ, List.getElem?_cons_zero]; rfl
      case st11 =>
      intro K hK
      go_simp
      go_at_call 27
      refine (HRG.out _ S2.out.drew.tp).mono ?_
      rintro e w3 ⟨y, ⟨hy0', hy1'⟩, rfl, ht3, hg3⟩
      have S3 := Lib.hid (S2.out.drew.on ht3 hg3)
      clear ht3 hg3
      clear hH
      have hH := HS6.out _ S3.out
      try dsimp only
      refine hK.out _ _ hH ?_
      clear hK K
      try simp only [Act.put, List.setIfInBounds_toArray, List.set_cons_zero, List.set_cons_succ]
      refine HeadW.take (i := 11) (oi := ?oi12) (v := ?v12) ?hi12 (by kernel_rfl) ?hQ12 (Or.inl ⟨?hg12, ?hy12⟩) hH ?rest12
      case hi12 => simp only [List.getElem?_toArray, List.getElem?_cons_succ, List.getElem?_cons_zero]; rfl
      case hQ12 => exact fun _ _ _ h => h
      case hg12 => rfl
      case hy12 => intro W hSw; obtain ⟨s0, s1⟩ := hSw; go_simp; try with_reducible rfl
      case rest12 =>
      try simp only [Act.put, List.setIfInBounds_toArray, List.set_cons_zero, List.set_cons_succ]
      refine HeadW.one (i := 12) (o := ?oi13) ?hi13 (by kernel_rfl) ?st13
      case hi13 => simp only [List.getElem?_toArray, List.getElem?_cons_succ, List.getElem?_cons_zero]; rfl
      case st13 =>
      intro K hK
      go_simp
      have S4 := Lib.hid (S3.out.alloc (.cells #[.string nm, .int .i64 y] 36))
      clear hH
      have hH := HS6.out _ S4.out
      try dsimp only
      refine hK.out _ _ hH ?_
      clear hK K
      try simp only [Act.put, List.setIfInBounds_toArray, List.set_cons_zero, List.set_cons_succ]
      refine HeadW.one (i := 13) (o := ?oi14) ?hi14 (by kernel_rfl) ?st14
      case hi14 => simp only [List.getElem?_toArray, List.getElem?_cons_succ, List.getElem?_cons_zero]; rfl
      case st14 =>
      intro K hK
      refine step_append_lies _ rfl (.tmp 18) (.tmp 29) _ rfl (gb + 1) 36 j0 (.agg #[.string ⟨#[]⟩, .int .i64 0]) 2 24 Try.underlying23 hj0 hy0 hy1 hy2 rfl (by decide) _ _ _ rfl S4.out.r1 ⟨w3.heap.size, 0, none⟩ 1 1 [.string nm, .int .i64 y] rfl rfl (cell_two_new _ _ _ _) two_one (by decide) hml1 hml2 S4.out.sz _ rfl ?_
      intro gq cap w5 h51 h52 _ _
      have H5 := Lib.hid (S4.out.put1 (x := (nm, y)) h52 h51)
      have BX5 := Lib.hid (S4.out.bx.grown h52 (row_ne S4.out.r1 gb (Nat.lt_succ_self _)))
      have hH5 : S6 gn gb k nm 0 (.slice p1 lt.length q1) w5 := S6.grown hH h52 S4.out.sz S4.out.ln.2 (row_ne S4.out.r1)
      clear hH
      have hH := hH5
      clear hH5
      try dsimp only
      refine hK.out _ _ hH ?_
      clear hK K
      try simp only [Act.put, List.setIfInBounds_toArray, List.set_cons_zero, List.set_cons_succ]
      refine HeadW.take (i := 14) (oi := ?oi15) (v := ?v15) ?hi15 (by kernel_rfl) ?hQ15 (Or.inl ⟨?hg15, ?hy15⟩) hH ?rest15
      case hi15 => simp only [List.getElem?_toArray, List.getElem?_cons_succ, List.getElem?_cons_zero]; rfl
      case hQ15 => exact fun _ _ _ h => h
      case hg15 => rfl
      case hy15 => intro W hSw; obtain ⟨s0, s1⟩ := hSw; go_simp; try with_reducible rfl
      case rest15 =>
      try simp only [Act.put, List.setIfInBounds_toArray, List.set_cons_zero, List.set_cons_succ]
      refine HeadW.done (by kernel_rfl) ?_
      have e0 := BX5.out.cell 0
      have e1 := BX5.out.cell 1
      have e2 := BX5.out.cell 2
      have e3 := BX5.out.frozen 0
      have e4 := BX5.out.frozen 1
      have e5 := BX5.out.frozen 2
      have e6 := BX5.out.lt
      go_wp2
      go_roundw
      case rel => exact ⟨k + 1, _, lt ++ [(nm, y)], by go_num, by omega, Lib.hid (by rw [List.length_append, HLT.out]; rfl), Lib.hid (push_all HG.out ⟨by rw [HLT.out]; exact HNM.out.symm, hy0', by rw [HLT.out]; omega⟩), H5⟩
      case measure => simp [intOf]; omega
    · have HK1 := Lib.hid (show 1 ≤ lt.length by have := HLT.out; omega)
      have HK6 := Lib.hid (show lt.length ≤ 6 by have := HLT.out; omega)
      clear HLT
      go_wp2_with fail
      go_loopw [8] (fun i wr => ∃ (k : Nat) (v2 : Value) (lo : List ByteArray), i = .int .i64 k ∧ k ≤ 3 ∧ Hid (lo.length = k) ∧ Hid (GoodO lo) ∧ Hid (Sx w B g o n c z gb gn v1 v2 (.slice none 0 0) lt lo [] wr)) (fun i _ => 7 - (intOf i).toNat)
      case atStart => exact ⟨0, _, [], rfl, by omega, Lib.hid rfl, Lib.hid (fun j x hx => by simp at hx), S2⟩
      case round =>
        clear S2
        obtain ⟨k, v2, lo, rfl, hk, HLO, HGO, HS⟩ := hrel
        go_wp2_with fail
        refine (tape_range 0 3 (by omega) (by omega) (by omega) HS.out.tp).mono ?_
        rintro e w2 ⟨u, ⟨hu0, hu1⟩, rfl, ht2, hg2⟩
        have S2 := Lib.hid (HS.out.on ht2 hg2)
        clear ht2 hg2 HS
        by_cases hku : (k : Int) < u
        · have hk6 : k < 6 := by omega
          have hk6' : (k : Int) < 6 := by omega
          have hk0 : (0 : Int) ≤ (k : Int) := by omega
          obtain ⟨p2, q2, rfl⟩ := own_any S2.out.r2
          have b0 : w2.cell? ⟨gb, 1, none⟩ = some (.slice p2 lo.length q2) := S2.out.bx.cell 1
          have nm0 := nm_cell S2.out.nm hk6
          have hgl := S2.out.gl
          have hln := S2.out.ln
          have hsz := S2.out.sz
          have HCUT := Lib.hid (cut_nat k hk6)
          have HNMX := Lib.hid (fun W (hX : Sx w B g o n c z gb gn v1 (.slice p2 lo.length q2) (.slice none 0 0) lt lo [] W) => nm_cell hX.nm hk6)
          have hml1 : lo.length + 1 ≤ maxLen := by have := HLO.out; unfold maxLen; omega
          have hml2 : (lo.length + 1) * 16 ≤ 140737488355328 := by have := HLO.out; omega
          generalize hnm : nmAt k = nm at nm0 HNMX
          have HNM := Lib.hid hnm
          clear hnm
          go_wp2_with fail
          have HS6 := Lib.hid (fun W (hX : Sx w B g o n c z gb gn v1 (.slice p2 lo.length q2) (.slice none 0 0) lt lo [] W) => (⟨HNMX.out W hX, hX.bx.cell 1⟩ : S6 gn gb k nm 1 (.slice p2 lo.length q2) W))
          have hH : S6 gn gb k nm 1 (.slice p2 lo.length q2) w2.drew := ⟨nm0, b0⟩
          refine wp_region_held_tail (S6 gn gb k nm 1 (.slice p2 lo.length q2)) 10 (by kernel_rfl) (by kernel_rfl) ?_
          simp only [List.drop_succ_cons, List.drop_zero]
          refine HeadW.take (i := 0) (oi := ?oi16) (v := ?v16) ?hi16 (by kernel_rfl) ?hQ16 (Or.inl ⟨?hg16, ?hy16⟩) hH ?rest16
          case hi16 => simp only [List.getElem?_toArray, List.getElem?_cons_succ, List.getElem?_cons_zero]; rfl
          case hQ16 => exact fun _ _ _ h => h
          case hg16 => rfl
          case hy16 => intro W hSw; obtain ⟨s0, s1⟩ := hSw; go_simp; try with_reducible rfl
          case rest16 =>
          try simp only [Act.put, List.setIfInBounds_toArray, List.set_cons_zero, List.set_cons_succ]
          refine HeadW.take (i := 1) (oi := ?oi17) (v := ?v17) ?hi17 (by kernel_rfl) ?hQ17 (Or.inl ⟨?hg17, ?hy17⟩) hH ?rest17
          case hi17 => simp only [List.getElem?_toArray, List.getElem?_cons_succ, List.getElem?_cons_zero]; rfl
          case hQ17 => exact fun _ _ _ h => h
          case hg17 => rfl
          case hy17 => intro W hSw; obtain ⟨s0, s1⟩ := hSw; go_simp; try with_reducible rfl
          case rest17 =>
          try simp only [Act.put, List.setIfInBounds_toArray, List.set_cons_zero, List.set_cons_succ]
          refine HeadW.take (i := 2) (oi := ?oi18) (v := ?v18) ?hi18 (by kernel_rfl) ?hQ18 (Or.inl ⟨?hg18, ?hy18⟩) hH ?rest18
          case hi18 => simp only [List.getElem?_toArray, List.getElem?_cons_succ, List.getElem?_cons_zero]; rfl
          case hQ18 => exact fun _ _ _ h => h
          case hg18 => rfl
          case hy18 => intro W hSw; obtain ⟨s0, s1⟩ := hSw; go_simp; try with_reducible rfl
          case rest18 =>
          try simp only [Act.put, List.setIfInBounds_toArray, List.set_cons_zero, List.set_cons_succ]
          refine HeadW.take (i := 3) (oi := ?oi19) (v := ?v19) ?hi19 (by kernel_rfl) ?hQ19 (Or.inl ⟨?hg19, ?hy19⟩) hH ?rest19
          case hi19 => simp only [List.getElem?_toArray, List.getElem?_cons_succ, List.getElem?_cons_zero]; rfl
          case hQ19 => exact fun _ _ _ h => h
          case hg19 => rfl
          case hy19 => intro W hSw; obtain ⟨s0, s1⟩ := hSw; go_simp; try with_reducible rfl
          case rest19 =>
          try simp only [Act.put, List.setIfInBounds_toArray, List.set_cons_zero, List.set_cons_succ]
          refine HeadW.one (i := 4) (o := ?oi20) ?hi20 (by kernel_rfl) ?st20
          case hi20 => simp only [List.getElem?_toArray, List.getElem?_cons_succ, List.getElem?_cons_zero]; rfl
          case st20 =>
          intro K hK
          go_simp
          go_at_call 16
          refine (HCUT.out _).mono ?_
          rintro e w' ⟨rfl, hw'⟩
          obtain rfl := hw'
          try dsimp only
          refine hK.out _ _ hH ?_
          clear hK K
          try simp only [Act.put, List.setIfInBounds_toArray, List.set_cons_zero, List.set_cons_succ]
          refine HeadW.take (i := 5) (oi := ?oi21) (v := ?v21) ?hi21 (by kernel_rfl) ?hQ21 (Or.inl ⟨?hg21, ?hy21⟩) hH ?rest21
          case hi21 => simp only [List.getElem?_toArray, List.getElem?_cons_succ, List.getElem?_cons_zero]; rfl
          case hQ21 => exact fun _ _ _ h => h
          case hg21 => rfl
          case hy21 => intro W hSw; obtain ⟨s0, s1⟩ := hSw; go_simp; try with_reducible rfl
          case rest21 =>
          try simp only [Act.put, List.setIfInBounds_toArray, List.set_cons_zero, List.set_cons_succ]
          refine HeadW.take (i := 6) (oi := ?oi22) (v := ?v22) ?hi22 (by kernel_rfl) ?hQ22 (Or.inl ⟨?hg22, ?hy22⟩) hH ?rest22
          case hi22 => simp only [List.getElem?_toArray, List.getElem?_cons_succ, List.getElem?_cons_zero]; rfl
          case hQ22 => exact fun _ _ _ h => h
          case hg22 => rfl
          case hy22 => intro W hSw; obtain ⟨s0, s1⟩ := hSw; go_simp; try with_reducible rfl
          case rest22 =>
          try simp only [Act.put, List.setIfInBounds_toArray, List.set_cons_zero, List.set_cons_succ]
          refine HeadW.one (i := 7) (o := ?oi23) ?hi23 (by kernel_rfl) ?st23
          case hi23 => simp only [List.getElem?_toArray, List.getElem?_cons_succ, List.getElem?_cons_zero]; rfl
          case st23 =>
          intro K hK
          go_simp
          have S4 := Lib.hid (S2.out.drew.alloc (.cells #[.string nm] 9))
          clear hH
          have hH := HS6.out _ S4.out
          try dsimp only
          refine hK.out _ _ hH ?_
          clear hK K
          try simp only [Act.put, List.setIfInBounds_toArray, List.set_cons_zero, List.set_cons_succ]
          refine HeadW.one (i := 8) (o := ?oi24) ?hi24 (by kernel_rfl) ?st24
          case hi24 => simp only [List.getElem?_toArray, List.getElem?_cons_succ, List.getElem?_cons_zero]; rfl
          case st24 =>
          intro K hK
          refine step_append_lies _ rfl (.tmp 39) (.tmp 45) _ rfl (gb + 1) 9 i0 (.string ⟨#[]⟩) 1 16 Try.underlying24 hi0 hz0 hz1 hz2 rfl (by decide) _ _ _ rfl S4.out.r2 ⟨w2.drew.heap.size, 0, none⟩ 1 1 [.string nm] rfl rfl (cell_one_new _ _ _) str_one (by decide) hml1 hml2 S4.out.sz _ rfl ?_
          intro gq cap w5 h51 h52 _ _
          have H5 := Lib.hid (S4.out.put2 (xs := [nm]) h52 (by simpa using h51))
          have BX5 := Lib.hid (S4.out.bx.grown h52 (row_ne S4.out.r2 gb (Nat.lt_succ_self _)))
          have hH5 : S6 gn gb k nm 1 (.slice p2 lo.length q2) w5 := S6.grown hH h52 S4.out.sz S4.out.ln.2 (row_ne S4.out.r2)
          clear hH
          have hH := hH5
          clear hH5
          try dsimp only
          refine hK.out _ _ hH ?_
          clear hK K
          try simp only [Act.put, List.setIfInBounds_toArray, List.set_cons_zero, List.set_cons_succ]
          refine HeadW.take (i := 9) (oi := ?oi25) (v := ?v25) ?hi25 (by kernel_rfl) ?hQ25 (Or.inl ⟨?hg25, ?hy25⟩) hH ?rest25
          case hi25 => simp only [List.getElem?_toArray, List.getElem?_cons_succ, List.getElem?_cons_zero]; rfl
          case hQ25 => exact fun _ _ _ h => h
          case hg25 => rfl
          case hy25 => intro W hSw; obtain ⟨s0, s1⟩ := hSw; go_simp; try with_reducible rfl
          case rest25 =>
          try simp only [Act.put, List.setIfInBounds_toArray, List.set_cons_zero, List.set_cons_succ]
          refine HeadW.done (by kernel_rfl) ?_
          have e0 := BX5.out.cell 0
          have e1 := BX5.out.cell 1
          have e2 := BX5.out.cell 2
          have e3 := BX5.out.frozen 0
          have e4 := BX5.out.frozen 1
          have e5 := BX5.out.frozen 2
          have e6 := BX5.out.lt
          go_wp2
          go_roundw
          case rel => exact ⟨k + 1, _, lo ++ [nm], by go_num, by omega, Lib.hid (by rw [List.length_append, HLO.out]; rfl), Lib.hid (push_all HGO.out (by rw [HLO.out]; exact HNM.out.symm)), H5⟩
          case measure => simp [intOf]; omega
        · have HK3 := Lib.hid (show lo.length ≤ 3 by have := HLO.out; omega)
          clear HLO
          go_wp2_with fail
          go_loopw [9] (fun i wr => ∃ (k : Nat) (v3 : Value) (lc : List CP), i = .int .i64 k ∧ k ≤ 3 ∧ Hid (lc.length = k) ∧ Hid (GoodC lc) ∧ Hid (Sx w B g o n c z gb gn v1 v2 v3 lt lo lc wr)) (fun i _ => 7 - (intOf i).toNat)
          case atStart => exact ⟨0, _, [], rfl, by omega, Lib.hid rfl, Lib.hid (fun j x hx => by simp at hx), S2⟩
          case round =>
            clear S2
            obtain ⟨k, v3, lc, rfl, hk, HLC, HGC, HS⟩ := hrel
            go_wp2_with fail
            refine (tape_range 0 3 (by omega) (by omega) (by omega) HS.out.tp).mono ?_
            rintro e w2 ⟨u, ⟨hu0, hu1⟩, rfl, ht2, hg2⟩
            have S2 := Lib.hid (HS.out.on ht2 hg2)
            clear ht2 hg2 HS
            by_cases hku : (k : Int) < u
            · have hk6 : k < 6 := by omega
              have hk6' : (k : Int) < 6 := by omega
              have hk0 : (0 : Int) ≤ (k : Int) := by omega
              obtain ⟨p3, q3, rfl⟩ := own_any S2.out.r3
              have b0 : w2.cell? ⟨gb, 2, none⟩ = some (.slice p3 lc.length q3) := S2.out.bx.cell 2
              have nm0 := nm_cell S2.out.nm hk6
              have hgl := S2.out.gl
              have hln := S2.out.ln
              have hsz := S2.out.sz
              have HCUT := Lib.hid (cut_nat k hk6)
              have HNMX := Lib.hid (fun W (hX : Sx w B g o n c z gb gn v1 v2 (.slice p3 lc.length q3) lt lo lc W) => nm_cell hX.nm hk6)
              have HPK := Lib.hid (fun W (hX : Sx w B g o n c z gb gn v1 v2 (.slice p3 lc.length q3) lt lo lc W) => pick6 (g := g) W hX.tp (by have := hX.sz; have := hX.ln; have := hX.gl; omega))
              have HRG := Lib.hid (fun W (hX : Tp W B g o n c z) => tape_range 1 200 (by omega) (by omega) (by omega) hX)
              have hml1 : lc.length + 1 ≤ maxLen := by have := HLC.out; unfold maxLen; omega
              have hml2 : (lc.length + 1) * 32 ≤ 140737488355328 := by have := HLC.out; omega
              generalize hnm : nmAt k = nm at nm0 HNMX
              have HNM := Lib.hid hnm
              clear hnm
              go_wp2_with fail
              have HS6 := Lib.hid (fun W (hX : Sx w B g o n c z gb gn v1 v2 (.slice p3 lc.length q3) lt lo lc W) => (⟨HNMX.out W hX, hX.bx.cell 2⟩ : S6 gn gb k nm 2 (.slice p3 lc.length q3) W))
              have hH : S6 gn gb k nm 2 (.slice p3 lc.length q3) w2.drew := ⟨nm0, b0⟩
              refine wp_region_held_tail (S6 gn gb k nm 2 (.slice p3 lc.length q3)) 16 (by kernel_rfl) (by kernel_rfl) ?_
              simp only [List.drop_succ_cons, List.drop_zero]
              refine HeadW.take (i := 0) (oi := ?oi26) (v := ?v26) ?hi26 (by kernel_rfl) ?hQ26 (Or.inl ⟨?hg26, ?hy26⟩) hH ?rest26
              case hi26 => simp only [List.getElem?_toArray, List.getElem?_cons_succ, List.getElem?_cons_zero]; rfl
              case hQ26 => exact fun _ _ _ h => h
              case hg26 => rfl
              case hy26 => intro W hSw; obtain ⟨s0, s1⟩ := hSw; go_simp; try with_reducible rfl
              case rest26 =>
              try simp only [Act.put, List.setIfInBounds_toArray, List.set_cons_zero, List.set_cons_succ]
              refine HeadW.take (i := 1) (oi := ?oi27) (v := ?v27) ?hi27 (by kernel_rfl) ?hQ27 (Or.inl ⟨?hg27, ?hy27⟩) hH ?rest27
              case hi27 => simp only [List.getElem?_toArray, List.getElem?_cons_succ, List.getElem?_cons_zero]; rfl
              case hQ27 => exact fun _ _ _ h => h
              case hg27 => rfl
              case hy27 => intro W hSw; obtain ⟨s0, s1⟩ := hSw; go_simp; try with_reducible rfl
              case rest27 =>
              try simp only [Act.put, List.setIfInBounds_toArray, List.set_cons_zero, List.set_cons_succ]
              refine HeadW.take (i := 2) (oi := ?oi28) (v := ?v28) ?hi28 (by kernel_rfl) ?hQ28 (Or.inl ⟨?hg28, ?hy28⟩) hH ?rest28
              case hi28 => simp only [List.getElem?_toArray, List.getElem?_cons_succ, List.getElem?_cons_zero]; rfl
              case hQ28 => exact fun _ _ _ h => h
              case hg28 => rfl
              case hy28 => intro W hSw; obtain ⟨s0, s1⟩ := hSw; go_simp; try with_reducible rfl
              case rest28 =>
              try simp only [Act.put, List.setIfInBounds_toArray, List.set_cons_zero, List.set_cons_succ]
              refine HeadW.take (i := 3) (oi := ?oi29) (v := ?v29) ?hi29 (by kernel_rfl) ?hQ29 (Or.inl ⟨?hg29, ?hy29⟩) hH ?rest29
              case hi29 => simp only [List.getElem?_toArray, List.getElem?_cons_succ, List.getElem?_cons_zero]; rfl
              case hQ29 => exact fun _ _ _ h => h
              case hg29 => rfl
              case hy29 => intro W hSw; obtain ⟨s0, s1⟩ := hSw; go_simp; try with_reducible rfl
              case rest29 =>
              try simp only [Act.put, List.setIfInBounds_toArray, List.set_cons_zero, List.set_cons_succ]
              refine HeadW.take (i := 7) (oi := ?oi30) (v := ?v30) ?hi30 (by kernel_rfl) ?hQ30 (Or.inl ⟨?hg30, ?hy30⟩) hH ?rest30
              case hi30 => simp only [List.getElem?_toArray, List.getElem?_cons_succ, List.getElem?_cons_zero]; rfl
              case hQ30 => exact fun _ _ _ h => h
              case hg30 => rfl
              case hy30 => intro W hSw; obtain ⟨s0, s1⟩ := hSw; go_simp; try with_reducible rfl
              case rest30 =>
              try simp only [Act.put, List.setIfInBounds_toArray, List.set_cons_zero, List.set_cons_succ]
              refine HeadW.take (i := 10) (oi := ?oi31) (v := ?v31) ?hi31 (by kernel_rfl) ?hQ31 (Or.inl ⟨?hg31, ?hy31⟩) hH ?rest31
              case hi31 => simp only [List.getElem?_toArray, List.getElem?_cons_succ, List.getElem?_cons_zero]; rfl
              case hQ31 => exact fun _ _ _ h => h
              case hg31 => rfl
              case hy31 => intro W hSw; obtain ⟨s0, s1⟩ := hSw; go_simp; try with_reducible rfl
              case rest31 =>
              try simp only [Act.put, List.setIfInBounds_toArray, List.set_cons_zero, List.set_cons_succ]
              refine HeadW.two (i := 4) (j := 8) (oi := ?oi50) (oj := ?oj50) ?hi50 ?hj50 (by kernel_rfl) ?sa50 ?sb50
              case hi50 => simp only [List.getElem?_toArray, List.getElem?_cons_succ, List.getElem?_cons_zero]; rfl
              case hj50 => simp only [List.getElem?_toArray, List.getElem?_cons_succ, List.getElem?_cons_zero]; rfl
              case sa50 =>
                intro K hK
                go_simp
                go_at_call 16
                refine (HCUT.out _).mono ?_
                rintro e w' ⟨rfl, hw'⟩
                obtain rfl := hw'
                try dsimp only
                refine hK.out _ _ hH ?_
                clear hK K
                try simp only [Act.put, List.setIfInBounds_toArray, List.set_cons_zero, List.set_cons_succ]
                refine HeadW.take (i := 5) (oi := ?oi32) (v := ?v32) ?hi32 (by kernel_rfl) ?hQ32 (Or.inl ⟨?hg32, ?hy32⟩) hH ?rest32
                case hi32 => simp only [List.getElem?_toArray, List.getElem?_cons_succ, List.getElem?_cons_zero]; rfl
                case hQ32 => exact fun _ _ _ h => h
                case hg32 => rfl
                case hy32 => intro W hSw; obtain ⟨s0, s1⟩ := hSw; go_simp; try with_reducible rfl
                case rest32 =>
                try simp only [Act.put, List.setIfInBounds_toArray, List.set_cons_zero, List.set_cons_succ]
                refine HeadW.take (i := 6) (oi := ?oi33) (v := ?v33) ?hi33 (by kernel_rfl) ?hQ33 (Or.inl ⟨?hg33, ?hy33⟩) hH ?rest33
                case hi33 => simp only [List.getElem?_toArray, List.getElem?_cons_succ, List.getElem?_cons_zero]; rfl
                case hQ33 => exact fun _ _ _ h => h
                case hg33 => rfl
                case hy33 => intro W hSw; obtain ⟨s0, s1⟩ := hSw; go_simp; try with_reducible rfl
                case rest33 =>
                try simp only [Act.put, List.setIfInBounds_toArray, List.set_cons_zero, List.set_cons_succ]
                refine HeadW.one (i := 8) (o := ?oi34) ?hi34 (by kernel_rfl) ?st34
                case hi34 => simp only [List.getElem?_toArray, List.getElem?_cons_succ, List.getElem?_cons_zero]; rfl
                case st34 =>
                intro K hK
                go_simp
                have SM := Lib.hid (S2.out.drew.alloc (.cells #[.int .i64 0, .int .i64 1, .int .i64 2, .int .i64 30, .int .i64 40, .int .i64 1000] 3))
                clear hH
                have hH := HS6.out _ SM.out
                try dsimp only
                refine hK.out _ _ hH ?_
                clear hK K
                try simp only [Act.put, List.setIfInBounds_toArray, List.set_cons_zero, List.set_cons_succ]
                refine HeadW.one (i := 9) (o := ?oi35) ?hi35 (by kernel_rfl) ?st35
                case hi35 => simp only [List.getElem?_toArray, List.getElem?_cons_succ, List.getElem?_cons_zero]; rfl
                case st35 =>
                intro K hK
                go_simp
                go_at_call 35
                refine (HPK.out _ S2.out.drew).mono ?_
                rintro e w3 ⟨y, hy', rfl, ht3, hg3⟩
                have S3 := Lib.hid (SM.out.on ht3 hg3)
                clear ht3 hg3
                clear hH
                have hH := HS6.out _ S3.out
                try dsimp only
                refine hK.out _ _ hH ?_
                clear hK K
                try simp only [Act.put, List.setIfInBounds_toArray, List.set_cons_zero, List.set_cons_succ]
                refine HeadW.one (i := 11) (o := ?oi36) ?hi36 (by kernel_rfl) ?st36
                case hi36 => simp only [List.getElem?_toArray, List.getElem?_cons_succ, List.getElem?_cons_zero]; rfl
                case st36 =>
                intro K hK
                go_simp
                go_at_call 27
                refine (HRG.out _ S3.out.tp).mono ?_
                rintro e w4 ⟨t, ⟨ht0, ht1⟩, rfl, ht4, hg4⟩
                have S4 := Lib.hid (S3.out.on ht4 hg4)
                clear ht4 hg4
                clear hH
                have hH := HS6.out _ S4.out
                try dsimp only
                refine hK.out _ _ hH ?_
                clear hK K
                try simp only [Act.put, List.setIfInBounds_toArray, List.set_cons_zero, List.set_cons_succ]
                refine HeadW.take (i := 12) (oi := ?oi37) (v := ?v37) ?hi37 (by kernel_rfl) ?hQ37 (Or.inl ⟨?hg37, ?hy37⟩) hH ?rest37
                case hi37 => simp only [List.getElem?_toArray, List.getElem?_cons_succ, List.getElem?_cons_zero]; rfl
                case hQ37 => exact fun _ _ _ h => h
                case hg37 => rfl
                case hy37 => intro W hSw; obtain ⟨s0, s1⟩ := hSw; go_simp; try with_reducible rfl
                case rest37 =>
                try simp only [Act.put, List.setIfInBounds_toArray, List.set_cons_zero, List.set_cons_succ]
                refine HeadW.one (i := 13) (o := ?oi38) ?hi38 (by kernel_rfl) ?st38
                case hi38 => simp only [List.getElem?_toArray, List.getElem?_cons_succ, List.getElem?_cons_zero]; rfl
                case st38 =>
                intro K hK
                go_simp
                have S7 := Lib.hid (S4.out.alloc (.cells #[.string nm, .int .i64 y, .int .i64 t] 38))
                clear hH
                have hH := HS6.out _ S7.out
                try dsimp only
                refine hK.out _ _ hH ?_
                clear hK K
                try simp only [Act.put, List.setIfInBounds_toArray, List.set_cons_zero, List.set_cons_succ]
                refine HeadW.one (i := 14) (o := ?oi39) ?hi39 (by kernel_rfl) ?st39
                case hi39 => simp only [List.getElem?_toArray, List.getElem?_cons_succ, List.getElem?_cons_zero]; rfl
                case st39 =>
                intro K hK
                refine step_append_lies _ rfl (.tmp 55) (.tmp 67) _ rfl (gb + 1) 38 kk0 (.agg #[.string ⟨#[]⟩, .int .i64 0, .int .i64 0]) 3 32 Try.underlying25 hkk0 hx0 hx1 hx2 rfl (by decide) _ _ _ rfl S7.out.r3 ⟨w4.heap.size, 0, none⟩ 1 1 [.string nm, .int .i64 y, .int .i64 t] rfl rfl (cell_three_new _ _ _ _ _) three_one (by decide) hml1 hml2 S7.out.sz _ rfl ?_
                intro gq cap w5 h51 h52 _ _
                have H5 := Lib.hid (S7.out.put3 (x := (nm, y, t)) h52 h51)
                have BX5 := Lib.hid (S7.out.bx.grown h52 (row_ne S7.out.r3 gb (Nat.lt_succ_self _)))
                have hH5 : S6 gn gb k nm 2 (.slice p3 lc.length q3) w5 := S6.grown hH h52 S7.out.sz S7.out.ln.2 (row_ne S7.out.r3)
                clear hH
                have hH := hH5
                clear hH5
                try dsimp only
                refine hK.out _ _ hH ?_
                clear hK K
                try simp only [Act.put, List.setIfInBounds_toArray, List.set_cons_zero, List.set_cons_succ]
                refine HeadW.take (i := 15) (oi := ?oi40) (v := ?v40) ?hi40 (by kernel_rfl) ?hQ40 (Or.inl ⟨?hg40, ?hy40⟩) hH ?rest40
                case hi40 => simp only [List.getElem?_toArray, List.getElem?_cons_succ, List.getElem?_cons_zero]; rfl
                case hQ40 => exact fun _ _ _ h => h
                case hg40 => rfl
                case hy40 => intro W hSw; obtain ⟨s0, s1⟩ := hSw; go_simp; try with_reducible rfl
                case rest40 =>
                try simp only [Act.put, List.setIfInBounds_toArray, List.set_cons_zero, List.set_cons_succ]
                refine HeadW.done (by kernel_rfl) ?_
                have e0 := BX5.out.cell 0
                have e1 := BX5.out.cell 1
                have e2 := BX5.out.cell 2
                have e3 := BX5.out.frozen 0
                have e4 := BX5.out.frozen 1
                have e5 := BX5.out.frozen 2
                have e6 := BX5.out.lt
                go_wp2
                go_roundw
                case rel => exact ⟨k + 1, _, lc ++ [(nm, y, t)], by go_num, by omega, Lib.hid (by rw [List.length_append, HLC.out]; rfl), Lib.hid (push_all HGC.out ⟨by rw [HLC.out]; exact HNM.out.symm, hy'.1, hy'.2, ht0, ht1⟩), H5⟩
                case measure => simp [intOf]; omega
              case sb50 =>
                intro K hK
                go_simp
                have SM := Lib.hid (S2.out.drew.alloc (.cells #[.int .i64 0, .int .i64 1, .int .i64 2, .int .i64 30, .int .i64 40, .int .i64 1000] 3))
                clear hH
                have hH := HS6.out _ SM.out
                try dsimp only
                refine hK.out _ _ hH ?_
                clear hK K
                try simp only [Act.put, List.setIfInBounds_toArray, List.set_cons_zero, List.set_cons_succ]
                refine HeadW.one (i := 4) (o := ?oi41) ?hi41 (by kernel_rfl) ?st41
                case hi41 => simp only [List.getElem?_toArray, List.getElem?_cons_succ, List.getElem?_cons_zero]; rfl
                case st41 =>
                intro K hK
                go_simp
                go_at_call 16
                refine (HCUT.out _).mono ?_
                rintro e w' ⟨rfl, hw'⟩
                obtain rfl := hw'
                try dsimp only
                refine hK.out _ _ hH ?_
                clear hK K
                try simp only [Act.put, List.setIfInBounds_toArray, List.set_cons_zero, List.set_cons_succ]
                refine HeadW.take (i := 5) (oi := ?oi42) (v := ?v42) ?hi42 (by kernel_rfl) ?hQ42 (Or.inl ⟨?hg42, ?hy42⟩) hH ?rest42
                case hi42 => simp only [List.getElem?_toArray, List.getElem?_cons_succ, List.getElem?_cons_zero]; rfl
                case hQ42 => exact fun _ _ _ h => h
                case hg42 => rfl
                case hy42 => intro W hSw; obtain ⟨s0, s1⟩ := hSw; go_simp; try with_reducible rfl
                case rest42 =>
                try simp only [Act.put, List.setIfInBounds_toArray, List.set_cons_zero, List.set_cons_succ]
                refine HeadW.take (i := 6) (oi := ?oi43) (v := ?v43) ?hi43 (by kernel_rfl) ?hQ43 (Or.inl ⟨?hg43, ?hy43⟩) hH ?rest43
                case hi43 => simp only [List.getElem?_toArray, List.getElem?_cons_succ, List.getElem?_cons_zero]; rfl
                case hQ43 => exact fun _ _ _ h => h
                case hg43 => rfl
                case hy43 => intro W hSw; obtain ⟨s0, s1⟩ := hSw; go_simp; try with_reducible rfl
                case rest43 =>
                try simp only [Act.put, List.setIfInBounds_toArray, List.set_cons_zero, List.set_cons_succ]
                refine HeadW.one (i := 9) (o := ?oi44) ?hi44 (by kernel_rfl) ?st44
                case hi44 => simp only [List.getElem?_toArray, List.getElem?_cons_succ, List.getElem?_cons_zero]; rfl
                case st44 =>
                intro K hK
                go_simp
                go_at_call 35
                refine (HPK.out _ S2.out.drew).mono ?_
                rintro e w3 ⟨y, hy', rfl, ht3, hg3⟩
                have S3 := Lib.hid (SM.out.on ht3 hg3)
                clear ht3 hg3
                clear hH
                have hH := HS6.out _ S3.out
                try dsimp only
                refine hK.out _ _ hH ?_
                clear hK K
                try simp only [Act.put, List.setIfInBounds_toArray, List.set_cons_zero, List.set_cons_succ]
                refine HeadW.one (i := 11) (o := ?oi45) ?hi45 (by kernel_rfl) ?st45
                case hi45 => simp only [List.getElem?_toArray, List.getElem?_cons_succ, List.getElem?_cons_zero]; rfl
                case st45 =>
                intro K hK
                go_simp
                go_at_call 27
                refine (HRG.out _ S3.out.tp).mono ?_
                rintro e w4 ⟨t, ⟨ht0, ht1⟩, rfl, ht4, hg4⟩
                have S4 := Lib.hid (S3.out.on ht4 hg4)
                clear ht4 hg4
                clear hH
                have hH := HS6.out _ S4.out
                try dsimp only
                refine hK.out _ _ hH ?_
                clear hK K
                try simp only [Act.put, List.setIfInBounds_toArray, List.set_cons_zero, List.set_cons_succ]
                refine HeadW.take (i := 12) (oi := ?oi46) (v := ?v46) ?hi46 (by kernel_rfl) ?hQ46 (Or.inl ⟨?hg46, ?hy46⟩) hH ?rest46
                case hi46 => simp only [List.getElem?_toArray, List.getElem?_cons_succ, List.getElem?_cons_zero]; rfl
                case hQ46 => exact fun _ _ _ h => h
                case hg46 => rfl
                case hy46 => intro W hSw; obtain ⟨s0, s1⟩ := hSw; go_simp; try with_reducible rfl
                case rest46 =>
                try simp only [Act.put, List.setIfInBounds_toArray, List.set_cons_zero, List.set_cons_succ]
                refine HeadW.one (i := 13) (o := ?oi47) ?hi47 (by kernel_rfl) ?st47
                case hi47 => simp only [List.getElem?_toArray, List.getElem?_cons_succ, List.getElem?_cons_zero]; rfl
                case st47 =>
                intro K hK
                go_simp
                have S7 := Lib.hid (S4.out.alloc (.cells #[.string nm, .int .i64 y, .int .i64 t] 38))
                clear hH
                have hH := HS6.out _ S7.out
                try dsimp only
                refine hK.out _ _ hH ?_
                clear hK K
                try simp only [Act.put, List.setIfInBounds_toArray, List.set_cons_zero, List.set_cons_succ]
                refine HeadW.one (i := 14) (o := ?oi48) ?hi48 (by kernel_rfl) ?st48
                case hi48 => simp only [List.getElem?_toArray, List.getElem?_cons_succ, List.getElem?_cons_zero]; rfl
                case st48 =>
                intro K hK
                refine step_append_lies _ rfl (.tmp 55) (.tmp 67) _ rfl (gb + 1) 38 kk0 (.agg #[.string ⟨#[]⟩, .int .i64 0, .int .i64 0]) 3 32 Try.underlying25 hkk0 hx0 hx1 hx2 rfl (by decide) _ _ _ rfl S7.out.r3 ⟨w4.heap.size, 0, none⟩ 1 1 [.string nm, .int .i64 y, .int .i64 t] rfl rfl (cell_three_new _ _ _ _ _) three_one (by decide) hml1 hml2 S7.out.sz _ rfl ?_
                intro gq cap w5 h51 h52 _ _
                have H5 := Lib.hid (S7.out.put3 (x := (nm, y, t)) h52 h51)
                have BX5 := Lib.hid (S7.out.bx.grown h52 (row_ne S7.out.r3 gb (Nat.lt_succ_self _)))
                have hH5 : S6 gn gb k nm 2 (.slice p3 lc.length q3) w5 := S6.grown hH h52 S7.out.sz S7.out.ln.2 (row_ne S7.out.r3)
                clear hH
                have hH := hH5
                clear hH5
                try dsimp only
                refine hK.out _ _ hH ?_
                clear hK K
                try simp only [Act.put, List.setIfInBounds_toArray, List.set_cons_zero, List.set_cons_succ]
                refine HeadW.take (i := 15) (oi := ?oi49) (v := ?v49) ?hi49 (by kernel_rfl) ?hQ49 (Or.inl ⟨?hg49, ?hy49⟩) hH ?rest49
                case hi49 => simp only [List.getElem?_toArray, List.getElem?_cons_succ, List.getElem?_cons_zero]; rfl
                case hQ49 => exact fun _ _ _ h => h
                case hg49 => rfl
                case hy49 => intro W hSw; obtain ⟨s0, s1⟩ := hSw; go_simp; try with_reducible rfl
                case rest49 =>
                try simp only [Act.put, List.setIfInBounds_toArray, List.set_cons_zero, List.set_cons_succ]
                refine HeadW.done (by kernel_rfl) ?_
                have e0 := BX5.out.cell 0
                have e1 := BX5.out.cell 1
                have e2 := BX5.out.cell 2
                have e3 := BX5.out.frozen 0
                have e4 := BX5.out.frozen 1
                have e5 := BX5.out.frozen 2
                have e6 := BX5.out.lt
                go_wp2
                go_roundw
                case rel => exact ⟨k + 1, _, lc ++ [(nm, y, t)], by go_num, by omega, Lib.hid (by rw [List.length_append, HLC.out]; rfl), Lib.hid (push_all HGC.out ⟨by rw [HLC.out]; exact HNM.out.symm, hy'.1, hy'.2, ht0, ht1⟩), H5⟩
                case measure => simp [intOf]; omega
            · have HK3C := Lib.hid (show lc.length ≤ 3 by have := HLC.out; omega)
              clear HLC
              obtain ⟨p1, q1, rfl⟩ := own_any S2.out.r1
              obtain ⟨p2, q2, rfl⟩ := own_any S2.out.r2
              obtain ⟨p3, q3, rfl⟩ := own_any S2.out.r3
              have hgl := S2.out.gl
              have hln := S2.out.ln
              by_cases hN0 : N = 0
              · have HD := Lib.hid (fun W (hX : Sx w B g o n c z gb gn (.slice p1 lt.length q1) (.slice p2 lo.length q2) (.slice p3 lc.length q3) lt lo lc W) => hX.done (N := N) HK1.out (by have := HK6.out; omega) (by have := HK3.out; omega) (by have := HK3C.out; omega) (fun _ => ⟨HG.out, HGO.out, HGC.out, HK6.out, HK3.out, HK3C.out⟩))
                have hNn : ¬ 0 < N := by omega
                have MID := Lib.hid (S2.out.mid0)
                have e0 := MID.out.1.cell 0
                have e1 := MID.out.1.cell 1
                have e2 := MID.out.1.cell 2
                have e3 := MID.out.1.frozen 0
                have e4 := MID.out.1.frozen 1
                have e5 := MID.out.1.frozen 2
                have e6 := MID.out.1.lt
                obtain ⟨x0, x1, x2, hr⟩ := MID.out.2
                have r0 := hr.cell 0
                have r1 := hr.cell 1
                have r2 := hr.cell 2
                have f0 := hr.frozen 0
                have f1 := hr.frozen 1
                have f2 := hr.frozen 2
                have rl := hr.lt
                clear hr
                go_wp2_with fail
                exact bodyPost_ret (v := .agg #[(.slice p1 lt.length q1), (.slice p2 lo.length q2), (.slice p3 lc.length q3)]) (by simp [results, Try.results12, go_sem, r0, r1, r2, rl]) rfl (HD.out _ (((S2.out.res 0 (by decide) _).res 1 (by decide) _).res 2 (by decide) _))
              · have hNp : 0 < N := by omega
                have HD := Lib.hid (fun v1' v2' v3' lt' lo' lc' W (hX : Sx w B g o n c z gb gn v1' v2' v3' lt' lo' lc' W) (h1 : 1 ≤ lt'.length) (h2 : lt'.length ≤ 7) (h3 : lo'.length ≤ 10) (h4 : lc'.length ≤ 4) => hX.done (N := N) h1 h2 h3 h4 (fun h0 => absurd h0 hN0))
                go_wp2_with fail
                refine (tape_one N (by omega) (by omega) S2.out.tp).mono ?_
                rintro e w4 ⟨bb, rfl, ht4, hg4⟩
                have S4 := Lib.hid (S2.out.on ht4 hg4)
                clear ht4 hg4 S2
                cases bb
                · have MID := Lib.hid (S4.out.mid0)
                  have e0 := MID.out.1.cell 0
                  have e1 := MID.out.1.cell 1
                  have e2 := MID.out.1.cell 2
                  have e3 := MID.out.1.frozen 0
                  have e4 := MID.out.1.frozen 1
                  have e5 := MID.out.1.frozen 2
                  have e6 := MID.out.1.lt
                  obtain ⟨x0, x1, x2, hr⟩ := MID.out.2
                  have r0 := hr.cell 0
                  have r1 := hr.cell 1
                  have r2 := hr.cell 2
                  have f0 := hr.frozen 0
                  have f1 := hr.frozen 1
                  have f2 := hr.frozen 2
                  have rl := hr.lt
                  clear hr
                  go_wp2_with fail
                  exact bodyPost_ret (v := .agg #[(.slice p1 lt.length q1), (.slice p2 lo.length q2), (.slice p3 lc.length q3)]) (by simp [results, Try.results12, go_sem, r0, r1, r2, rl]) rfl (HD.out _ _ _ _ _ _ _ (((S4.out.res 0 (by decide) _).res 1 (by decide) _).res 2 (by decide) _) HK1.out (by have := HK6.out; omega) (by have := HK3.out; omega) (by have := HK3C.out; omega))
                · go_wp2_with fail
                  refine (tape_next 6 (by omega) (by omega) S4.out.tp).mono ?_
                  rintro e w5 ⟨q, ⟨hq0, hq1⟩, rfl, ht5, hg5⟩
                  have S5 := Lib.hid (S4.out.on ht5 hg5)
                  clear ht5 hg5 S4
                  have hl1 := HK1.out
                  have hl6 := HK6.out
                  have hl3 := HK3.out
                  have hl3c := HK3C.out
                  have hmt1 : lt.length + 1 ≤ maxLen := by unfold maxLen; omega
                  have hmt2 : (lt.length + 1) * 24 ≤ 140737488355328 := by omega
                  have hmo1 : lo.length + 1 ≤ maxLen := by unfold maxLen; omega
                  have hmo2 : (lo.length + 1) * 16 ≤ 140737488355328 := by omega
                  have hmo3 : lo.length + 7 ≤ maxLen := by unfold maxLen; omega
                  have hmo4 : (lo.length + 7) * 16 ≤ 140737488355328 := by omega
                  have hmc1 : lc.length + 1 ≤ maxLen := by unfold maxLen; omega
                  have hmc2 : (lc.length + 1) * 32 ≤ 140737488355328 := by omega
                  have ht1 : ∀ x : TP, 1 ≤ (lt ++ [x]).length ∧ (lt ++ [x]).length ≤ 7 := fun x => by rw [List.length_append]; exact ⟨Nat.le_trans hl1 (Nat.le_add_right _ _), Nat.add_le_add_right hl6 1⟩
                  have ho1 : ∀ x : ByteArray, (lo ++ [x]).length ≤ 10 := fun x => by rw [List.length_append]; show lo.length + 1 ≤ 10; omega
                  have ho7 : ∀ xs : List ByteArray, xs.length = 7 → (lo ++ xs).length ≤ 10 := fun xs h => by rw [List.length_append, h]; omega
                  have hc1 : ∀ x : CP, (lc ++ [x]).length ≤ 4 := fun x => by rw [List.length_append]; show lc.length + 1 ≤ 4; omega
                  have hB7 : lt.length ≤ 7 ∧ lo.length ≤ 10 ∧ lc.length ≤ 4 := ⟨by omega, by omega, by omega⟩
                  have hqs : q = 0 ∨ q = 1 ∨ q = 2 ∨ q = 3 ∨ q = 4 ∨ q = 5 := by omega
                  clear hq0 hq1
                  rcases hqs with rfl | rfl | rfl | rfl | rfl | rfl
                  · have S6x := Lib.hid (S5.out.alloc (.cells #[.string ⟨#[110, 117, 109, 98, 101, 114]⟩, .int .i64 (-1)] 36))
                    have b0 := S5.out.bx.cell 0
                    have b1 := S5.out.bx.cell 1
                    have b2 := S5.out.bx.cell 2
                    have bl := S5.out.bx.lt
                    go_wp2_with (at_builtin; refine wpList_append_own_at _ rfl (.tmp 88) (.tmp 90) 23 rfl (gb + 1) 36 j0 (.agg #[.string ⟨#[]⟩, .int .i64 0]) 2 24 Try.underlying23 hj0 hy0 hy1 hy2 rfl (by decide) _ _ _ rfl S6x.out.r1 ⟨w5.heap.size, 0, none⟩ 1 1 [.string ⟨#[110, 117, 109, 98, 101, 114]⟩, .int .i64 (-1)] rfl rfl ?c1 ?c2 hmt1 hmt2 S6x.out.sz ?_; (case c1 => exact cell_two_new _ _ _ _); (case c2 => exact two_one); intro v6 w6 hown6 hgrow6 hnil6 hat6; obtain ⟨p6, q6, rfl⟩ := own_any hown6; have H6 := Lib.hid (S6x.out.put1 (x := (⟨#[110, 117, 109, 98, 101, 114]⟩, -1)) hgrow6 hown6); have MID := Lib.hid (S6x.out.mid hgrow6 (row_ne S6x.out.r1)); have e0 := MID.out.1.cell 0; have e1 := MID.out.1.cell 1; have e2 := MID.out.1.cell 2; have e3 := MID.out.1.frozen 0; have e4 := MID.out.1.frozen 1; have e5 := MID.out.1.frozen 2; have e6 := MID.out.1.lt; obtain ⟨x0, x1, x2, hr⟩ := MID.out.2; have r0 := hr.cell 0; have r1 := hr.cell 1; have r2 := hr.cell 2; have f0 := hr.frozen 0; have f1 := hr.frozen 1; have f2 := hr.frozen 2; have rl := hr.lt; clear hr; clear hown6 hgrow6 hnil6 hat6 b0 b1 b2 bl)
                    exact bodyPost_ret (v := .agg #[(.slice p6 (lt.length + 1) q6), (.slice p2 lo.length q2), (.slice p3 lc.length q3)]) (by simp [results, Try.results12, go_sem, r0, r1, r2, rl]) rfl (HD.out _ _ _ _ _ _ _ (((H6.out.res 0 (by decide) _).res 1 (by decide) _).res 2 (by decide) _) (ht1 _).1 (ht1 _).2 hB7.2.1 hB7.2.2)
                  · have b0 : w5.cell? ⟨gb, 0, none⟩ = some (.slice p1 lt.length q1) := S5.out.bx.cell 0
                    go_wp2_with fail
                    have HS6 := Lib.hid (fun W (hX : Sx w B g o n c z gb gn (.slice p1 lt.length q1) (.slice p2 lo.length q2) (.slice p3 lc.length q3) lt lo lc W) => (⟨nm_cell hX.nm (i := 0) (by decide), hX.bx.cell 0⟩ : S6 gn gb 0 (nmAt 0) 0 (.slice p1 lt.length q1) W))
                    have hH : S6 gn gb 0 (nmAt 0) 0 (.slice p1 lt.length q1) w5.drew := HS6.out _ S5.out.drew
                    refine wp_region_held_tail (S6 gn gb 0 (nmAt 0) 0 (.slice p1 lt.length q1)) 8 (by kernel_rfl) (by kernel_rfl) ?_
                    simp only [List.drop_succ_cons, List.drop_zero]
                    refine HeadW.take (i := 0) (oi := ?oi51) (v := ?v51) ?hi51 (by kernel_rfl) ?hQ51 (Or.inl ⟨?hg51, ?hy51⟩) hH ?rest51
                    case hi51 => simp only [List.getElem?_toArray, List.getElem?_cons_succ, List.getElem?_cons_zero]; rfl
                    case hQ51 => exact fun _ _ _ h => h
                    case hg51 => rfl
                    case hy51 => intro W hSw; obtain ⟨s0, s1⟩ := hSw; go_simp; try with_reducible rfl
                    case rest51 =>
                    try simp only [Act.put, List.setIfInBounds_toArray, List.set_cons_zero, List.set_cons_succ]
                    refine HeadW.take (i := 1) (oi := ?oi52) (v := ?v52) ?hi52 (by kernel_rfl) ?hQ52 (Or.inl ⟨?hg52, ?hy52⟩) hH ?rest52
                    case hi52 => simp only [List.getElem?_toArray, List.getElem?_cons_succ, List.getElem?_cons_zero]; rfl
                    case hQ52 => exact fun _ _ _ h => h
                    case hg52 => rfl
                    case hy52 => intro W hSw; obtain ⟨s0, s1⟩ := hSw; go_simp; try with_reducible rfl
                    case rest52 =>
                    try simp only [Act.put, List.setIfInBounds_toArray, List.set_cons_zero, List.set_cons_succ]
                    refine HeadW.take (i := 2) (oi := ?oi53) (v := ?v53) ?hi53 (by kernel_rfl) ?hQ53 (Or.inl ⟨?hg53, ?hy53⟩) hH ?rest53
                    case hi53 => simp only [List.getElem?_toArray, List.getElem?_cons_succ, List.getElem?_cons_zero]; rfl
                    case hQ53 => exact fun _ _ _ h => h
                    case hg53 => rfl
                    case hy53 => intro W hSw; obtain ⟨s0, s1⟩ := hSw; go_simp; try with_reducible rfl
                    case rest53 =>
                    try simp only [Act.put, List.setIfInBounds_toArray, List.set_cons_zero, List.set_cons_succ]
                    refine HeadW.one (i := 3) (o := ?oi54) ?hi54 (by kernel_rfl) ?st54
                    case hi54 => simp only [List.getElem?_toArray, List.getElem?_cons_succ, List.getElem?_cons_zero]; rfl
                    case st54 =>
                    intro K hK
                    go_simp
                    go_at_call 37
                    refine (tape_wild S5.out.drew.tp).mono ?_
                    rintro e w6 ⟨y, hy, rfl, ht, hg⟩
                    have T6 := Lib.hid (S5.out.drew.on ht hg)
                    clear ht hg
                    clear hH
                    have hH := HS6.out _ T6.out
                    try dsimp only
                    refine hK.out _ _ hH ?_
                    clear hK K
                    try simp only [Act.put, List.setIfInBounds_toArray, List.set_cons_zero, List.set_cons_succ]
                    refine HeadW.take (i := 4) (oi := ?oi55) (v := ?v55) ?hi55 (by kernel_rfl) ?hQ55 (Or.inl ⟨?hg55, ?hy55⟩) hH ?rest55
                    case hi55 => simp only [List.getElem?_toArray, List.getElem?_cons_succ, List.getElem?_cons_zero]; rfl
                    case hQ55 => exact fun _ _ _ h => h
                    case hg55 => rfl
                    case hy55 => intro W hSw; obtain ⟨s0, s1⟩ := hSw; go_simp; try with_reducible rfl
                    case rest55 =>
                    try simp only [Act.put, List.setIfInBounds_toArray, List.set_cons_zero, List.set_cons_succ]
                    refine HeadW.one (i := 5) (o := ?oi56) ?hi56 (by kernel_rfl) ?st56
                    case hi56 => simp only [List.getElem?_toArray, List.getElem?_cons_succ, List.getElem?_cons_zero]; rfl
                    case st56 =>
                    intro K hK
                    go_simp
                    have S8 := Lib.hid (T6.out.alloc (.cells #[.string ⟨#[108, 97, 115, 116]⟩, .int .i64 y] 36))
                    clear hH
                    have hH := HS6.out _ S8.out
                    try dsimp only
                    refine hK.out _ _ hH ?_
                    clear hK K
                    try simp only [Act.put, List.setIfInBounds_toArray, List.set_cons_zero, List.set_cons_succ]
                    refine HeadW.one (i := 6) (o := ?oi57) ?hi57 (by kernel_rfl) ?st57
                    case hi57 => simp only [List.getElem?_toArray, List.getElem?_cons_succ, List.getElem?_cons_zero]; rfl
                    case st57 =>
                    intro K hK
                    refine step_append_lies _ rfl (.tmp 96) (.tmp 100) _ rfl (gb + 1) 36 j0 (.agg #[.string ⟨#[]⟩, .int .i64 0]) 2 24 Try.underlying23 hj0 hy0 hy1 hy2 rfl (by decide) _ _ _ rfl S8.out.r1 ⟨w6.heap.size, 0, none⟩ 1 1 [.string ⟨#[108, 97, 115, 116]⟩, .int .i64 y] rfl rfl (cell_two_new _ _ _ _) two_one (by decide) hmt1 hmt2 S8.out.sz _ rfl ?_
                    intro gq cap w9 h51 h52 _ _
                    have H9 := Lib.hid (S8.out.put1 (x := (⟨#[108, 97, 115, 116]⟩, y)) h52 h51)
                    have MID := Lib.hid (S8.out.mid h52 (row_ne S8.out.r1))
                    have hH5 : S6 gn gb 0 (nmAt 0) 0 (.slice p1 lt.length q1) w9 := S6.grown hH h52 S8.out.sz S8.out.ln.2 (row_ne S8.out.r1)
                    clear hH
                    have hH := hH5
                    clear hH5
                    try dsimp only
                    refine hK.out _ _ hH ?_
                    clear hK K
                    try simp only [Act.put, List.setIfInBounds_toArray, List.set_cons_zero, List.set_cons_succ]
                    refine HeadW.take (i := 7) (oi := ?oi58) (v := ?v58) ?hi58 (by kernel_rfl) ?hQ58 (Or.inl ⟨?hg58, ?hy58⟩) hH ?rest58
                    case hi58 => simp only [List.getElem?_toArray, List.getElem?_cons_succ, List.getElem?_cons_zero]; rfl
                    case hQ58 => exact fun _ _ _ h => h
                    case hg58 => rfl
                    case hy58 => intro W hSw; obtain ⟨s0, s1⟩ := hSw; go_simp; try with_reducible rfl
                    case rest58 =>
                    try simp only [Act.put, List.setIfInBounds_toArray, List.set_cons_zero, List.set_cons_succ]
                    refine HeadW.done (by kernel_rfl) ?_
                    have e0 := MID.out.1.cell 0
                    have e1 := MID.out.1.cell 1
                    have e2 := MID.out.1.cell 2
                    have e3 := MID.out.1.frozen 0
                    have e4 := MID.out.1.frozen 1
                    have e5 := MID.out.1.frozen 2
                    have e6 := MID.out.1.lt
                    obtain ⟨x0, x1, x2, hr⟩ := MID.out.2
                    have r0 := hr.cell 0
                    have r1 := hr.cell 1
                    have r2 := hr.cell 2
                    have f0 := hr.frozen 0
                    have f1 := hr.frozen 1
                    have f2 := hr.frozen 2
                    have rl := hr.lt
                    clear hr
                    go_wp2_with fail
                    exact bodyPost_ret (v := .agg #[(.slice (some ⟨gq, 0, none⟩) (lt.length + 1) cap), (.slice p2 lo.length q2), (.slice p3 lc.length q3)]) (by simp [results, Try.results12, go_sem, r0, r1, r2, rl]) rfl (HD.out _ _ _ _ _ _ _ (((H9.out.res 0 (by decide) _).res 1 (by decide) _).res 2 (by decide) _) (ht1 _).1 (ht1 _).2 hB7.2.1 hB7.2.2)
                  · have b0 : w5.cell? ⟨gb, 1, none⟩ = some (.slice p2 lo.length q2) := S5.out.bx.cell 1
                    go_wp2_with fail
                    have HS6 := Lib.hid (fun W (hX : Sx w B g o n c z gb gn (.slice p1 lt.length q1) (.slice p2 lo.length q2) (.slice p3 lc.length q3) lt lo lc W) => (⟨nm_cell hX.nm (i := 0) (by decide), hX.bx.cell 1⟩ : S6 gn gb 0 (nmAt 0) 1 (.slice p2 lo.length q2) W))
                    have hH : S6 gn gb 0 (nmAt 0) 1 (.slice p2 lo.length q2) w5.drew := HS6.out _ S5.out.drew
                    refine wp_region_held_tail (S6 gn gb 0 (nmAt 0) 1 (.slice p2 lo.length q2)) 10 (by kernel_rfl) (by kernel_rfl) ?_
                    simp only [List.drop_succ_cons, List.drop_zero]
                    refine HeadW.take (i := 0) (oi := ?oi69) (v := ?v69) ?hi69 (by kernel_rfl) ?hQ69 (Or.inl ⟨?hg69, ?hy69⟩) hH ?rest69
                    case hi69 => simp only [List.getElem?_toArray, List.getElem?_cons_succ, List.getElem?_cons_zero]; rfl
                    case hQ69 => exact fun _ _ _ h => h
                    case hg69 => rfl
                    case hy69 => intro W hSw; obtain ⟨s0, s1⟩ := hSw; go_simp; try with_reducible rfl
                    case rest69 =>
                    try simp only [Act.put, List.setIfInBounds_toArray, List.set_cons_zero, List.set_cons_succ]
                    refine HeadW.take (i := 1) (oi := ?oi70) (v := ?v70) ?hi70 (by kernel_rfl) ?hQ70 (Or.inl ⟨?hg70, ?hy70⟩) hH ?rest70
                    case hi70 => simp only [List.getElem?_toArray, List.getElem?_cons_succ, List.getElem?_cons_zero]; rfl
                    case hQ70 => exact fun _ _ _ h => h
                    case hg70 => rfl
                    case hy70 => intro W hSw; obtain ⟨s0, s1⟩ := hSw; go_simp; try with_reducible rfl
                    case rest70 =>
                    try simp only [Act.put, List.setIfInBounds_toArray, List.set_cons_zero, List.set_cons_succ]
                    refine HeadW.take (i := 3) (oi := ?oi71) (v := ?v71) ?hi71 (by kernel_rfl) ?hQ71 (Or.inl ⟨?hg71, ?hy71⟩) hH ?rest71
                    case hi71 => simp only [List.getElem?_toArray, List.getElem?_cons_succ, List.getElem?_cons_zero]; rfl
                    case hQ71 => exact fun _ _ _ h => h
                    case hg71 => rfl
                    case hy71 => intro W hSw; obtain ⟨s0, s1⟩ := hSw; go_simp; try with_reducible rfl
                    case rest71 =>
                    try simp only [Act.put, List.setIfInBounds_toArray, List.set_cons_zero, List.set_cons_succ]
                    refine HeadW.two (i := 2) (j := 4) (oi := ?oi84) (oj := ?oj84) ?hi84 ?hj84 (by kernel_rfl) ?sa84 ?sb84
                    case hi84 => simp only [List.getElem?_toArray, List.getElem?_cons_succ, List.getElem?_cons_zero]; rfl
                    case hj84 => simp only [List.getElem?_toArray, List.getElem?_cons_succ, List.getElem?_cons_zero]; rfl
                    case sa84 =>
                      intro K hK
                      go_simp
                      have T6 := Lib.hid (S5.out.drew.alloc (.cells #[.string ⟨#[]⟩, .string ⟨#[66, 105, 103]⟩, .string ⟨#[109, 117, 99, 104, 116, 111, 111, 108, 111, 110, 103, 97, 110, 97, 109, 101]⟩, .string ⟨#[120]⟩] 9))
                      clear hH
                      have hH := HS6.out _ T6.out
                      try dsimp only
                      refine hK.out _ _ hH ?_
                      clear hK K
                      try simp only [Act.put, List.setIfInBounds_toArray, List.set_cons_zero, List.set_cons_succ]
                      refine HeadW.one (i := 4) (o := ?oi72) ?hi72 (by kernel_rfl) ?st72
                      case hi72 => simp only [List.getElem?_toArray, List.getElem?_cons_succ, List.getElem?_cons_zero]; rfl
                      case st72 =>
                      intro K hK
                      go_simp
                      go_at_call 36
                      refine (tape_next 4 (by omega) (by omega) T6.out.tp).mono ?_
                      rintro e w7 ⟨y, ⟨y0, y1⟩, rfl, ht, hg⟩
                      obtain ⟨yi, rfl⟩ := Int.eq_ofNat_of_zero_le y0
                      have hyi : yi < 4 := by omega
                      have T7 := Lib.hid (T6.out.on ht hg)
                      have HGR := Lib.hid hg
                      clear ht hg
                      clear hH
                      have hH := HS6.out _ T7.out
                      try dsimp only
                      refine hK.out _ _ hH ?_
                      clear hK K
                      try simp only [Act.put, List.setIfInBounds_toArray, List.set_cons_zero, List.set_cons_succ]
                      obtain ⟨sx, hsx0⟩ := four_cell (w := w5.drew) (t := 9) yi hyi
                      have hsx : w7.cell? ⟨w5.drew.heap.size, yi, none⟩ = some (.string sx) := (HGR.out.cell_far ⟨w5.drew.heap.size, yi, none⟩ (by simp) (by intro e; injection e with e; have := S5.out.sz; have e' : w5.heap.size = g := e; omega)).trans hsx0
                      have hsx' : w7.cell? ⟨w5.heap.size, yi, none⟩ = some (.string sx) := hsx
                      refine HeadW.take (i := 5) (oi := ?oi73) (v := ?v73) ?hi73 (by kernel_rfl) ?hQ73 (Or.inl ⟨?hg73, ?hy73⟩) hH ?rest73
                      case hi73 => simp only [List.getElem?_toArray, List.getElem?_cons_succ, List.getElem?_cons_zero]; rfl
                      case hQ73 => exact fun _ _ _ h => h
                      case hg73 => rfl
                      case hy73 => intro W hSw; obtain ⟨s0, s1⟩ := hSw; go_simp; try with_reducible rfl
                      case rest73 =>
                      try simp only [Act.put, List.setIfInBounds_toArray, List.set_cons_zero, List.set_cons_succ]
                      refine HeadW.one (i := 6) (o := ?oi74) ?hi74 (by kernel_rfl) ?st74
                      case hi74 => simp only [List.getElem?_toArray, List.getElem?_cons_succ, List.getElem?_cons_zero]; rfl
                      case st74 =>
                      intro K hK
                      go_simp
                      try dsimp only
                      refine hK.out _ _ hH ?_
                      clear hK K
                      try simp only [Act.put, List.setIfInBounds_toArray, List.set_cons_zero, List.set_cons_succ]
                      refine HeadW.one (i := 7) (o := ?oi75) ?hi75 (by kernel_rfl) ?st75
                      case hi75 => simp only [List.getElem?_toArray, List.getElem?_cons_succ, List.getElem?_cons_zero]; rfl
                      case st75 =>
                      intro K hK
                      go_simp
                      have S8 := Lib.hid (T7.out.alloc (.cells #[.string sx] 9))
                      clear hH
                      have hH := HS6.out _ S8.out
                      try dsimp only
                      refine hK.out _ _ hH ?_
                      clear hK K
                      try simp only [Act.put, List.setIfInBounds_toArray, List.set_cons_zero, List.set_cons_succ]
                      refine HeadW.one (i := 8) (o := ?oi76) ?hi76 (by kernel_rfl) ?st76
                      case hi76 => simp only [List.getElem?_toArray, List.getElem?_cons_succ, List.getElem?_cons_zero]; rfl
                      case st76 =>
                      intro K hK
                      refine step_append_lies _ rfl (.tmp 106) (.tmp 112) _ rfl (gb + 1) 9 i0 (.string ⟨#[]⟩) 1 16 Try.underlying24 hi0 hz0 hz1 hz2 rfl (by decide) _ _ _ rfl S8.out.r2 ⟨w7.heap.size, 0, none⟩ 1 1 [.string sx] rfl rfl (cell_one_new _ _ _) str_one (by decide) hmo1 hmo2 S8.out.sz _ rfl ?_
                      intro gq cap w9 h51 h52 _ _
                      have H9 := Lib.hid (S8.out.put2 (xs := [sx]) h52 (by simpa using h51))
                      have MID := Lib.hid (S8.out.mid h52 (row_ne S8.out.r2))
                      have hH5 : S6 gn gb 0 (nmAt 0) 1 (.slice p2 lo.length q2) w9 := S6.grown hH h52 S8.out.sz S8.out.ln.2 (row_ne S8.out.r2)
                      clear hH
                      have hH := hH5
                      clear hH5
                      try dsimp only
                      refine hK.out _ _ hH ?_
                      clear hK K
                      try simp only [Act.put, List.setIfInBounds_toArray, List.set_cons_zero, List.set_cons_succ]
                      refine HeadW.take (i := 9) (oi := ?oi77) (v := ?v77) ?hi77 (by kernel_rfl) ?hQ77 (Or.inl ⟨?hg77, ?hy77⟩) hH ?rest77
                      case hi77 => simp only [List.getElem?_toArray, List.getElem?_cons_succ, List.getElem?_cons_zero]; rfl
                      case hQ77 => exact fun _ _ _ h => h
                      case hg77 => rfl
                      case hy77 => intro W hSw; obtain ⟨s0, s1⟩ := hSw; go_simp; try with_reducible rfl
                      case rest77 =>
                      try simp only [Act.put, List.setIfInBounds_toArray, List.set_cons_zero, List.set_cons_succ]
                      refine HeadW.done (by kernel_rfl) ?_
                      have e0 := MID.out.1.cell 0
                      have e1 := MID.out.1.cell 1
                      have e2 := MID.out.1.cell 2
                      have e3 := MID.out.1.frozen 0
                      have e4 := MID.out.1.frozen 1
                      have e5 := MID.out.1.frozen 2
                      have e6 := MID.out.1.lt
                      obtain ⟨x0, x1, x2, hr⟩ := MID.out.2
                      have r0 := hr.cell 0
                      have r1 := hr.cell 1
                      have r2 := hr.cell 2
                      have f0 := hr.frozen 0
                      have f1 := hr.frozen 1
                      have f2 := hr.frozen 2
                      have rl := hr.lt
                      clear hr
                      go_wp2_with fail
                      exact bodyPost_ret (v := .agg #[(.slice p1 lt.length q1), (.slice (some ⟨gq, 0, none⟩) (lo.length + 1) cap), (.slice p3 lc.length q3)]) (by simp [results, Try.results12, go_sem, r0, r1, r2, rl]) rfl (HD.out _ _ _ _ _ _ _ (((H9.out.res 0 (by decide) _).res 1 (by decide) _).res 2 (by decide) _) hl1 hB7.1 (ho1 _) hB7.2.2)
                    
                    case sb84 =>
                      intro K hK
                      go_simp
                      go_at_call 36
                      refine (tape_next 4 (by omega) (by omega) S5.out.drew.tp).mono ?_
                      rintro e w6 ⟨y, ⟨y0, y1⟩, rfl, ht, hg⟩
                      obtain ⟨yi, rfl⟩ := Int.eq_ofNat_of_zero_le y0
                      have hyi : yi < 4 := by omega
                      have T6 := Lib.hid (S5.out.drew.on ht hg)
                      have HGR := Lib.hid hg
                      clear ht hg
                      clear hH
                      have hH := HS6.out _ T6.out
                      try dsimp only
                      refine hK.out _ _ hH ?_
                      clear hK K
                      try simp only [Act.put, List.setIfInBounds_toArray, List.set_cons_zero, List.set_cons_succ]
                      refine HeadW.one (i := 2) (o := ?oi78) ?hi78 (by kernel_rfl) ?st78
                      case hi78 => simp only [List.getElem?_toArray, List.getElem?_cons_succ, List.getElem?_cons_zero]; rfl
                      case st78 =>
                      intro K hK
                      go_simp
                      have T7 := Lib.hid (T6.out.alloc (.cells #[.string ⟨#[]⟩, .string ⟨#[66, 105, 103]⟩, .string ⟨#[109, 117, 99, 104, 116, 111, 111, 108, 111, 110, 103, 97, 110, 97, 109, 101]⟩, .string ⟨#[120]⟩] 9))
                      clear hH
                      have hH := HS6.out _ T7.out
                      try dsimp only
                      refine hK.out _ _ hH ?_
                      clear hK K
                      try simp only [Act.put, List.setIfInBounds_toArray, List.set_cons_zero, List.set_cons_succ]
                      obtain ⟨sx, hsx⟩ := four_cell (w := w6) (t := 9) yi hyi
                      refine HeadW.take (i := 5) (oi := ?oi79) (v := ?v79) ?hi79 (by kernel_rfl) ?hQ79 (Or.inl ⟨?hg79, ?hy79⟩) hH ?rest79
                      case hi79 => simp only [List.getElem?_toArray, List.getElem?_cons_succ, List.getElem?_cons_zero]; rfl
                      case hQ79 => exact fun _ _ _ h => h
                      case hg79 => rfl
                      case hy79 => intro W hSw; obtain ⟨s0, s1⟩ := hSw; go_simp; try with_reducible rfl
                      case rest79 =>
                      try simp only [Act.put, List.setIfInBounds_toArray, List.set_cons_zero, List.set_cons_succ]
                      refine HeadW.one (i := 6) (o := ?oi80) ?hi80 (by kernel_rfl) ?st80
                      case hi80 => simp only [List.getElem?_toArray, List.getElem?_cons_succ, List.getElem?_cons_zero]; rfl
                      case st80 =>
                      intro K hK
                      go_simp
                      try dsimp only
                      refine hK.out _ _ hH ?_
                      clear hK K
                      try simp only [Act.put, List.setIfInBounds_toArray, List.set_cons_zero, List.set_cons_succ]
                      refine HeadW.one (i := 7) (o := ?oi81) ?hi81 (by kernel_rfl) ?st81
                      case hi81 => simp only [List.getElem?_toArray, List.getElem?_cons_succ, List.getElem?_cons_zero]; rfl
                      case st81 =>
                      intro K hK
                      go_simp
                      have S8 := Lib.hid (T7.out.alloc (.cells #[.string sx] 9))
                      clear hH
                      have hH := HS6.out _ S8.out
                      try dsimp only
                      refine hK.out _ _ hH ?_
                      clear hK K
                      try simp only [Act.put, List.setIfInBounds_toArray, List.set_cons_zero, List.set_cons_succ]
                      refine HeadW.one (i := 8) (o := ?oi82) ?hi82 (by kernel_rfl) ?st82
                      case hi82 => simp only [List.getElem?_toArray, List.getElem?_cons_succ, List.getElem?_cons_zero]; rfl
                      case st82 =>
                      intro K hK
                      refine step_append_lies _ rfl (.tmp 106) (.tmp 112) _ rfl (gb + 1) 9 i0 (.string ⟨#[]⟩) 1 16 Try.underlying24 hi0 hz0 hz1 hz2 rfl (by decide) _ _ _ rfl S8.out.r2 ⟨w6.heap.size + 1, 0, none⟩ 1 1 [.string sx] rfl rfl (cell_one_new' _ (by simp) _ _) str_one (by decide) hmo1 hmo2 S8.out.sz _ rfl ?_
                      intro gq cap w9 h51 h52 _ _
                      have H9 := Lib.hid (S8.out.put2 (xs := [sx]) h52 (by simpa using h51))
                      have MID := Lib.hid (S8.out.mid h52 (row_ne S8.out.r2))
                      have hH5 : S6 gn gb 0 (nmAt 0) 1 (.slice p2 lo.length q2) w9 := S6.grown hH h52 S8.out.sz S8.out.ln.2 (row_ne S8.out.r2)
                      clear hH
                      have hH := hH5
                      clear hH5
                      try dsimp only
                      refine hK.out _ _ hH ?_
                      clear hK K
                      try simp only [Act.put, List.setIfInBounds_toArray, List.set_cons_zero, List.set_cons_succ]
                      refine HeadW.take (i := 9) (oi := ?oi83) (v := ?v83) ?hi83 (by kernel_rfl) ?hQ83 (Or.inl ⟨?hg83, ?hy83⟩) hH ?rest83
                      case hi83 => simp only [List.getElem?_toArray, List.getElem?_cons_succ, List.getElem?_cons_zero]; rfl
                      case hQ83 => exact fun _ _ _ h => h
                      case hg83 => rfl
                      case hy83 => intro W hSw; obtain ⟨s0, s1⟩ := hSw; go_simp; try with_reducible rfl
                      case rest83 =>
                      try simp only [Act.put, List.setIfInBounds_toArray, List.set_cons_zero, List.set_cons_succ]
                      refine HeadW.done (by kernel_rfl) ?_
                      have e0 := MID.out.1.cell 0
                      have e1 := MID.out.1.cell 1
                      have e2 := MID.out.1.cell 2
                      have e3 := MID.out.1.frozen 0
                      have e4 := MID.out.1.frozen 1
                      have e5 := MID.out.1.frozen 2
                      have e6 := MID.out.1.lt
                      obtain ⟨x0, x1, x2, hr⟩ := MID.out.2
                      have r0 := hr.cell 0
                      have r1 := hr.cell 1
                      have r2 := hr.cell 2
                      have f0 := hr.frozen 0
                      have f1 := hr.frozen 1
                      have f2 := hr.frozen 2
                      have rl := hr.lt
                      clear hr
                      go_wp2_with fail
                      exact bodyPost_ret (v := .agg #[(.slice p1 lt.length q1), (.slice (some ⟨gq, 0, none⟩) (lo.length + 1) cap), (.slice p3 lc.length q3)]) (by simp [results, Try.results12, go_sem, r0, r1, r2, rl]) rfl (HD.out _ _ _ _ _ _ _ (((H9.out.res 0 (by decide) _).res 1 (by decide) _).res 2 (by decide) _) hl1 hB7.1 (ho1 _) hB7.2.2)
                  · have b0 : w5.cell? ⟨gb, 2, none⟩ = some (.slice p3 lc.length q3) := S5.out.bx.cell 2
                    go_wp2_with fail
                    have HS6 := Lib.hid (fun W (hX : Sx w B g o n c z gb gn (.slice p1 lt.length q1) (.slice p2 lo.length q2) (.slice p3 lc.length q3) lt lo lc W) => (⟨nm_cell hX.nm (i := 0) (by decide), hX.bx.cell 2⟩ : S6 gn gb 0 (nmAt 0) 2 (.slice p3 lc.length q3) W))
                    have hH : S6 gn gb 0 (nmAt 0) 2 (.slice p3 lc.length q3) w5.drew := HS6.out _ S5.out.drew
                    refine wp_region_held_tail (S6 gn gb 0 (nmAt 0) 2 (.slice p3 lc.length q3)) 10 (by kernel_rfl) (by kernel_rfl) ?_
                    simp only [List.drop_succ_cons, List.drop_zero]
                    refine HeadW.take (i := 0) (oi := ?oi59) (v := ?v59) ?hi59 (by kernel_rfl) ?hQ59 (Or.inl ⟨?hg59, ?hy59⟩) hH ?rest59
                    case hi59 => simp only [List.getElem?_toArray, List.getElem?_cons_succ, List.getElem?_cons_zero]; rfl
                    case hQ59 => exact fun _ _ _ h => h
                    case hg59 => rfl
                    case hy59 => intro W hSw; obtain ⟨s0, s1⟩ := hSw; go_simp; try with_reducible rfl
                    case rest59 =>
                    try simp only [Act.put, List.setIfInBounds_toArray, List.set_cons_zero, List.set_cons_succ]
                    refine HeadW.take (i := 1) (oi := ?oi60) (v := ?v60) ?hi60 (by kernel_rfl) ?hQ60 (Or.inl ⟨?hg60, ?hy60⟩) hH ?rest60
                    case hi60 => simp only [List.getElem?_toArray, List.getElem?_cons_succ, List.getElem?_cons_zero]; rfl
                    case hQ60 => exact fun _ _ _ h => h
                    case hg60 => rfl
                    case hy60 => intro W hSw; obtain ⟨s0, s1⟩ := hSw; go_simp; try with_reducible rfl
                    case rest60 =>
                    try simp only [Act.put, List.setIfInBounds_toArray, List.set_cons_zero, List.set_cons_succ]
                    refine HeadW.take (i := 2) (oi := ?oi61) (v := ?v61) ?hi61 (by kernel_rfl) ?hQ61 (Or.inl ⟨?hg61, ?hy61⟩) hH ?rest61
                    case hi61 => simp only [List.getElem?_toArray, List.getElem?_cons_succ, List.getElem?_cons_zero]; rfl
                    case hQ61 => exact fun _ _ _ h => h
                    case hg61 => rfl
                    case hy61 => intro W hSw; obtain ⟨s0, s1⟩ := hSw; go_simp; try with_reducible rfl
                    case rest61 =>
                    try simp only [Act.put, List.setIfInBounds_toArray, List.set_cons_zero, List.set_cons_succ]
                    refine HeadW.take (i := 4) (oi := ?oi62) (v := ?v62) ?hi62 (by kernel_rfl) ?hQ62 (Or.inl ⟨?hg62, ?hy62⟩) hH ?rest62
                    case hi62 => simp only [List.getElem?_toArray, List.getElem?_cons_succ, List.getElem?_cons_zero]; rfl
                    case hQ62 => exact fun _ _ _ h => h
                    case hg62 => rfl
                    case hy62 => intro W hSw; obtain ⟨s0, s1⟩ := hSw; go_simp; try with_reducible rfl
                    case rest62 =>
                    try simp only [Act.put, List.setIfInBounds_toArray, List.set_cons_zero, List.set_cons_succ]
                    refine HeadW.one (i := 3) (o := ?oi63) ?hi63 (by kernel_rfl) ?st63
                    case hi63 => simp only [List.getElem?_toArray, List.getElem?_cons_succ, List.getElem?_cons_zero]; rfl
                    case st63 =>
                    intro K hK
                    go_simp
                    go_at_call 37
                    refine (tape_wild S5.out.drew.tp).mono ?_
                    rintro e w6 ⟨y, hy, rfl, ht, hg⟩
                    have T6 := Lib.hid (S5.out.drew.on ht hg)
                    clear ht hg
                    clear hH
                    have hH := HS6.out _ T6.out
                    try dsimp only
                    refine hK.out _ _ hH ?_
                    clear hK K
                    try simp only [Act.put, List.setIfInBounds_toArray, List.set_cons_zero, List.set_cons_succ]
                    refine HeadW.one (i := 5) (o := ?oi64) ?hi64 (by kernel_rfl) ?st64
                    case hi64 => simp only [List.getElem?_toArray, List.getElem?_cons_succ, List.getElem?_cons_zero]; rfl
                    case st64 =>
                    intro K hK
                    go_simp
                    go_at_call 37
                    refine (tape_wild T6.out.tp).mono ?_
                    rintro e w7 ⟨t, ht, rfl, ht, hg⟩
                    have T7 := Lib.hid (T6.out.on ht hg)
                    clear ht hg
                    clear hH
                    have hH := HS6.out _ T7.out
                    try dsimp only
                    refine hK.out _ _ hH ?_
                    clear hK K
                    try simp only [Act.put, List.setIfInBounds_toArray, List.set_cons_zero, List.set_cons_succ]
                    refine HeadW.take (i := 6) (oi := ?oi65) (v := ?v65) ?hi65 (by kernel_rfl) ?hQ65 (Or.inl ⟨?hg65, ?hy65⟩) hH ?rest65
                    case hi65 => simp only [List.getElem?_toArray, List.getElem?_cons_succ, List.getElem?_cons_zero]; rfl
                    case hQ65 => exact fun _ _ _ h => h
                    case hg65 => rfl
                    case hy65 => intro W hSw; obtain ⟨s0, s1⟩ := hSw; go_simp; try with_reducible rfl
                    case rest65 =>
                    try simp only [Act.put, List.setIfInBounds_toArray, List.set_cons_zero, List.set_cons_succ]
                    refine HeadW.one (i := 7) (o := ?oi66) ?hi66 (by kernel_rfl) ?st66
                    case hi66 => simp only [List.getElem?_toArray, List.getElem?_cons_succ, List.getElem?_cons_zero]; rfl
                    case st66 =>
                    intro K hK
                    go_simp
                    have S8 := Lib.hid (T7.out.alloc (.cells #[.string ⟨#[101, 120, 116, 114, 97]⟩, .int .i64 y, .int .i64 t] 38))
                    clear hH
                    have hH := HS6.out _ S8.out
                    try dsimp only
                    refine hK.out _ _ hH ?_
                    clear hK K
                    try simp only [Act.put, List.setIfInBounds_toArray, List.set_cons_zero, List.set_cons_succ]
                    refine HeadW.one (i := 8) (o := ?oi67) ?hi67 (by kernel_rfl) ?st67
                    case hi67 => simp only [List.getElem?_toArray, List.getElem?_cons_succ, List.getElem?_cons_zero]; rfl
                    case st67 =>
                    intro K hK
                    refine step_append_lies _ rfl (.tmp 118) (.tmp 124) _ rfl (gb + 1) 38 kk0 (.agg #[.string ⟨#[]⟩, .int .i64 0, .int .i64 0]) 3 32 Try.underlying25 hkk0 hx0 hx1 hx2 rfl (by decide) _ _ _ rfl S8.out.r3 ⟨w7.heap.size, 0, none⟩ 1 1 [.string ⟨#[101, 120, 116, 114, 97]⟩, .int .i64 y, .int .i64 t] rfl rfl (cell_three_new _ _ _ _ _) three_one (by decide) hmc1 hmc2 S8.out.sz _ rfl ?_
                    intro gq cap w9 h51 h52 _ _
                    have H9 := Lib.hid (S8.out.put3 (x := (⟨#[101, 120, 116, 114, 97]⟩, y, t)) h52 h51)
                    have MID := Lib.hid (S8.out.mid h52 (row_ne S8.out.r3))
                    have hH5 : S6 gn gb 0 (nmAt 0) 2 (.slice p3 lc.length q3) w9 := S6.grown hH h52 S8.out.sz S8.out.ln.2 (row_ne S8.out.r3)
                    clear hH
                    have hH := hH5
                    clear hH5
                    try dsimp only
                    refine hK.out _ _ hH ?_
                    clear hK K
                    try simp only [Act.put, List.setIfInBounds_toArray, List.set_cons_zero, List.set_cons_succ]
                    refine HeadW.take (i := 9) (oi := ?oi68) (v := ?v68) ?hi68 (by kernel_rfl) ?hQ68 (Or.inl ⟨?hg68, ?hy68⟩) hH ?rest68
                    case hi68 => simp only [List.getElem?_toArray, List.getElem?_cons_succ, List.getElem?_cons_zero]; rfl
                    case hQ68 => exact fun _ _ _ h => h
                    case hg68 => rfl
                    case hy68 => intro W hSw; obtain ⟨s0, s1⟩ := hSw; go_simp; try with_reducible rfl
                    case rest68 =>
                    try simp only [Act.put, List.setIfInBounds_toArray, List.set_cons_zero, List.set_cons_succ]
                    refine HeadW.done (by kernel_rfl) ?_
                    have e0 := MID.out.1.cell 0
                    have e1 := MID.out.1.cell 1
                    have e2 := MID.out.1.cell 2
                    have e3 := MID.out.1.frozen 0
                    have e4 := MID.out.1.frozen 1
                    have e5 := MID.out.1.frozen 2
                    have e6 := MID.out.1.lt
                    obtain ⟨x0, x1, x2, hr⟩ := MID.out.2
                    have r0 := hr.cell 0
                    have r1 := hr.cell 1
                    have r2 := hr.cell 2
                    have f0 := hr.frozen 0
                    have f1 := hr.frozen 1
                    have f2 := hr.frozen 2
                    have rl := hr.lt
                    clear hr
                    go_wp2_with fail
                    exact bodyPost_ret (v := .agg #[(.slice p1 lt.length q1), (.slice p2 lo.length q2), (.slice (some ⟨gq, 0, none⟩) (lc.length + 1) cap)]) (by simp [results, Try.results12, go_sem, r0, r1, r2, rl]) rfl (HD.out _ _ _ _ _ _ _ (((H9.out.res 0 (by decide) _).res 1 (by decide) _).res 2 (by decide) _) hl1 hB7.1 hB7.2.1 (hc1 _))
                  · have S6x := Lib.hid (S5.out.alloc (.cells #[.string ⟨#[97]⟩, .string ⟨#[98]⟩, .string ⟨#[99]⟩, .string ⟨#[100]⟩, .string ⟨#[101]⟩, .string ⟨#[102]⟩, .string ⟨#[103]⟩] 9))
                    have b0 := S5.out.bx.cell 0
                    have b1 := S5.out.bx.cell 1
                    have b2 := S5.out.bx.cell 2
                    have bl := S5.out.bx.lt
                    go_wp2_with (at_builtin; refine wpList_append_own_at _ rfl (.tmp 130) (.tmp 131) 24 rfl (gb + 1) 9 i0 (.string ⟨#[]⟩) 1 16 Try.underlying24 hi0 hz0 hz1 hz2 rfl (by decide) _ _ _ rfl S6x.out.r2 ⟨w5.heap.size, 0, none⟩ 7 7 [.string ⟨#[97]⟩, .string ⟨#[98]⟩, .string ⟨#[99]⟩, .string ⟨#[100]⟩, .string ⟨#[101]⟩, .string ⟨#[102]⟩, .string ⟨#[103]⟩] rfl rfl ?c1 ?c2 hmo3 hmo4 S6x.out.sz ?_; (case c1 => exact cell_seven _ _); (case c2 => exact seven_one); intro v6 w6 hown6 hgrow6 hnil6 hat6; obtain ⟨p6, q6, rfl⟩ := own_any hown6; have H6 := Lib.hid (S6x.out.put2 (xs := [⟨#[97]⟩, ⟨#[98]⟩, ⟨#[99]⟩, ⟨#[100]⟩, ⟨#[101]⟩, ⟨#[102]⟩, ⟨#[103]⟩]) hgrow6 (by simpa using hown6)); have MID := Lib.hid (S6x.out.mid hgrow6 (row_ne S6x.out.r2)); have e0 := MID.out.1.cell 0; have e1 := MID.out.1.cell 1; have e2 := MID.out.1.cell 2; have e3 := MID.out.1.frozen 0; have e4 := MID.out.1.frozen 1; have e5 := MID.out.1.frozen 2; have e6 := MID.out.1.lt; obtain ⟨x0, x1, x2, hr⟩ := MID.out.2; have r0 := hr.cell 0; have r1 := hr.cell 1; have r2 := hr.cell 2; have f0 := hr.frozen 0; have f1 := hr.frozen 1; have f2 := hr.frozen 2; have rl := hr.lt; clear hr; clear hown6 hgrow6 hnil6 hat6 b0 b1 b2 bl)
                    exact bodyPost_ret (v := .agg #[(.slice p1 lt.length q1), (.slice p6 (lo.length + 7) q6), (.slice p3 lc.length q3)]) (by simp [results, Try.results12, go_sem, r0, r1, r2, rl]) rfl (HD.out _ _ _ _ _ _ _ (((H6.out.res 0 (by decide) _).res 1 (by decide) _).res 2 (by decide) _) hl1 hB7.1 (ho7 _ rfl) hB7.2.2)
                  · have S6x := Lib.hid (S5.out.alloc (.cells #[.string ⟨#[116, 119, 111, 32, 119, 111, 114, 100, 115]⟩, .int .i64 1, .int .i64 1] 38))
                    have b0 := S5.out.bx.cell 0
                    have b1 := S5.out.bx.cell 1
                    have b2 := S5.out.bx.cell 2
                    have bl := S5.out.bx.lt
                    go_wp2_with (at_builtin; refine wpList_append_own_at _ rfl (.tmp 80) (.tmp 82) 25 rfl (gb + 1) 38 kk0 (.agg #[.string ⟨#[]⟩, .int .i64 0, .int .i64 0]) 3 32 Try.underlying25 hkk0 hx0 hx1 hx2 rfl (by decide) _ _ _ rfl S6x.out.r3 ⟨w5.heap.size, 0, none⟩ 1 1 [.string ⟨#[116, 119, 111, 32, 119, 111, 114, 100, 115]⟩, .int .i64 1, .int .i64 1] rfl rfl ?c1 ?c2 hmc1 hmc2 S6x.out.sz ?_; (case c1 => exact cell_three_new _ _ _ _ _); (case c2 => exact three_one); intro v6 w6 hown6 hgrow6 hnil6 hat6; obtain ⟨p6, q6, rfl⟩ := own_any hown6; have H6 := Lib.hid (S6x.out.put3 (x := (⟨#[116, 119, 111, 32, 119, 111, 114, 100, 115]⟩, 1, 1)) hgrow6 hown6); have MID := Lib.hid (S6x.out.mid hgrow6 (row_ne S6x.out.r3)); have e0 := MID.out.1.cell 0; have e1 := MID.out.1.cell 1; have e2 := MID.out.1.cell 2; have e3 := MID.out.1.frozen 0; have e4 := MID.out.1.frozen 1; have e5 := MID.out.1.frozen 2; have e6 := MID.out.1.lt; obtain ⟨x0, x1, x2, hr⟩ := MID.out.2; have r0 := hr.cell 0; have r1 := hr.cell 1; have r2 := hr.cell 2; have f0 := hr.frozen 0; have f1 := hr.frozen 1; have f2 := hr.frozen 2; have rl := hr.lt; clear hr; clear hown6 hgrow6 hnil6 hat6 b0 b1 b2 bl)
                    exact bodyPost_ret (v := .agg #[(.slice p1 lt.length q1), (.slice p2 lo.length q2), (.slice p6 (lc.length + 1) q6)]) (by simp [results, Try.results12, go_sem, r0, r1, r2, rl]) rfl (HD.out _ _ _ _ _ _ _ (((H6.out.res 0 (by decide) _).res 1 (by decide) _).res 2 (by decide) _) hl1 hB7.1 hB7.2.1 (hc1 _))

end Go.Proofs.Ytglikjdgjmijfaa
