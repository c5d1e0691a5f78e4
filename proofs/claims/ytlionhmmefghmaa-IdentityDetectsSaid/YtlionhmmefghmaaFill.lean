/-
  Fill, the program's and the reference's.
-/
import Derived.Test.YtlionhmmefghmaaWith
namespace Go.Proofs.Ytlionhmmefghmaa
open Go.RowKit
set_option linter.unusedSimpArgs false
set_option linter.unusedVariables false
set_option maxRecDepth 100000

theorem index_cases (l : List UInt8) (c : UInt8) : (Lib.indexByte l c = -1 ∧ ∀ i (h : i < l.length), l[i] ≠ c) ∨ ∃ i : Nat, ∃ h : i < l.length, Lib.indexByte l c = i ∧ l[i] = c := by
  induction l with
  | nil => exact .inl ⟨rfl, fun i h => by simp at h⟩
  | cons b l ih =>
    by_cases hb : b = c
    · exact .inr ⟨0, by simp, by simp [Lib.indexByte, hb], by simpa using hb⟩
    · have hbf : (b == c) = false := beq_eq_false_iff_ne.2 hb
      rcases ih with ⟨h1, h2⟩ | ⟨i, hi, h1, h2⟩
      · refine .inl ⟨by simp [Lib.indexByte, hbf, h1], fun i h => ?_⟩
        cases i with
        | zero => exact hb
        | succ i => exact h2 i (by simpa using h)
      · refine .inr ⟨i + 1, by simpa using hi, ?_, by simpa using h2⟩
        have hne : (Lib.indexByte l c == -1) = false := beq_eq_false_iff_ne.2 (by omega)
        simp only [Lib.indexByte, hbf, hne]
        simp [h1]
/-- the place of the first question mark, -1 without one -/
def markAt (s : ByteArray) : Int := Lib.indexByte s.data.toList 63
theorem mark_cases (s : ByteArray) : (markAt s = -1 ∧ ∀ i, i < s.size → byteAt s i ≠ 63) ∨ ∃ i : Nat, i < s.size ∧ markAt s = i ∧ byteAt s i = 63 := by
  have hb : ∀ i (h : i < s.data.toList.length), byteAt s i = (s.data.toList[i].toNat : Int) := fun i h => by
    unfold byteAt
    rw [List.getD_eq_getElem?_getD, List.getElem?_eq_getElem h]
    rfl
  rcases index_cases s.data.toList 63 with ⟨h1, h2⟩ | ⟨i, hi, h1, h2⟩
  · refine .inl ⟨h1, fun i hi e => h2 i (by rw [size_data]; exact hi) ?_⟩
    rw [hb i (by rw [size_data]; exact hi)] at e
    exact UInt8.toNat_inj.1 (by show _ = 63; omega)
  · refine .inr ⟨i, by rw [size_data] at hi; exact hi, h1, ?_⟩
    rw [hb i hi, h2]
    rfl
def fillL (s : ByteArray) : List (List UInt8) := if s.size = 9 ∧ 0 ≤ markAt s then rep (byteAt s) (markAt s).toNat (sy (markAt s).toNat) else []
/-- a slice that holds a list of texts -/
def Texts (w : World) (B : Nat) (v : Value) (l : List (List UInt8)) : Prop := w.ownsRow B 9 1 v l.length (l.map encStr)
theorem Texts.nil (w : World) (B : Nat) : Texts w B (.slice none 0 0) [] := World.ownsRow_nil _ _ _ _
theorem fill_any (s : ByteArray) (w : World) :
    Calls Try.prog 24 #[.string s] w fun e w' => ∃ v, e = .returned v ∧ Texts w' w.heap.size v (fillL s) ∧ Below w.heap.size w w' := by
  have HM := Lib.hid (show markAt s = Lib.indexByte s.data.toList 63 from rfl)
  have hc := byteAt_bd s
  go_enter Try.func24, Try.ntmps24
  go_wp2_with fail
  refine (read_any s _).mono ?_
  rintro e w1 ⟨rfl, hb⟩
  have HB := Lib.hid hb
  clear hb
  by_cases h9 : s.size = 9
  · rw [if_pos h9]
    have e9 : nine (byteAt s) = #[.int .u8 (byteAt s 0), .int .u8 (byteAt s 1), .int .u8 (byteAt s 2), .int .u8 (byteAt s 3), .int .u8 (byteAt s 4), .int .u8 (byteAt s 5), .int .u8 (byteAt s 6), .int .u8 (byteAt s 7), .int .u8 (byteAt s 8)] := rfl
    rw [e9]
    clear e9
    go_wp2_with fail
    refine (indexIn_any s 63 _).mono ?_
    rintro e w2 ⟨rfl, rfl⟩
    rw [show (Lib.indexByte s.data.toList ((63 : Int).toNat.toUInt8)) = markAt s from rfl]
    rcases mark_cases s with ⟨hm, -⟩ | ⟨i, hi, hm, hmi⟩
    · have HF := Lib.hid (show fillL s = [] by unfold fillL; rw [if_neg (by omega)])
      rw [hm]
      go_wp2_with fail
      exact bodyPost_ret (v := .slice none 0 0) (by simp [results, Try.results24, go_sem]) rfl ⟨_, rfl, by rw [HF.out]; exact Texts.nil _ _, bAl HB.out _⟩
    · have HF := Lib.hid (show fillL s = rep (byteAt s) i (sy i) by unfold fillL; rw [if_pos ⟨h9, by omega⟩, hm]; rfl)
      rw [hm]
      go_wp2_with fail
      refine (repl_any (byteAt s) hc i (by omega) _).mono ?_
      rintro e w3 ⟨v, rfl, hown, hb⟩
      have HO := Lib.hid (own_up hown (show w.heap.size ≤ _ from (bAl HB.out _).size))
      have HB3 := Lib.hid (bTr (bAl HB.out _) hb)
      clear hown hb
      go_wp2_with fail
      exact bodyPost_ret (v := v) (by simp [results, Try.results24, go_sem]) rfl ⟨_, rfl, by rw [HF.out]; exact HO.out, HB3.out⟩
  · have HF := Lib.hid (show fillL s = [] by unfold fillL; rw [if_neg (by omega)])
    rw [if_neg h9]
    have e9 : nine (fun _ => 0) = #[.int .u8 0, .int .u8 0, .int .u8 0, .int .u8 0, .int .u8 0, .int .u8 0, .int .u8 0, .int .u8 0, .int .u8 0] := rfl
    rw [e9]
    clear e9
    go_wp2_with fail
    refine (indexIn_any s 63 _).mono ?_
    rintro e w2 ⟨rfl, rfl⟩
    go_wp2_with fail
    exact bodyPost_ret (v := .slice none 0 0) (by simp [results, Try.results24, go_sem]) rfl ⟨_, rfl, by rw [HF.out]; exact Texts.nil _ _, bAl HB.out _⟩
theorem plc_mark (i : Nat) : plc i 63 = false := by
  unfold plc
  split
  · exact decide_eq_false (by omega)
  · decide +kernel
/-- what the reference has seen of the marks behind k bytes -/
def Marks (s : ByteArray) (k A M : Nat) : Prop :=
  (∀ j, j < k → byteAt s j ≠ 63 → plc j (byteAt s j) = true) ∧ A < 9 ∧ M ≤ k ∧
    ((M = 0 ∧ ∀ j, j < k → byteAt s j ≠ 63) ∨ (M = 1 ∧ A < k ∧ byteAt s A = 63 ∧ ∀ j, j < k → j ≠ A → byteAt s j ≠ 63) ∨ (2 ≤ M ∧ ∃ i j, i < j ∧ j < k ∧ byteAt s i = 63 ∧ byteAt s j = 63))
theorem Marks.mark {s : ByteArray} {k A M : Nat} (h : Marks s k A M) (hk : k < 9) (hm : byteAt s k = 63) : Marks s (k + 1) k (M + 1) := by
  obtain ⟨h1, h2, hM, h3⟩ := h
  refine ⟨fun j hj hne => ?_, hk, by omega, ?_⟩
  · rcases Nat.lt_or_ge j k with g | g
    · exact h1 j g hne
    · obtain rfl : j = k := by omega
      exact absurd hm hne
  · rcases h3 with ⟨rfl, h4⟩ | ⟨rfl, h4, h5, h6⟩ | ⟨h4, i, j, h5, h6, h7, h8⟩
    · exact .inr (.inl ⟨rfl, by omega, hm, fun j hj hne => h4 j (by omega)⟩)
    · exact .inr (.inr ⟨by omega, A, k, h4, by omega, h5, hm⟩)
    · exact .inr (.inr ⟨by omega, i, j, h5, by omega, h7, h8⟩)
theorem Marks.none {s : ByteArray} {k A M : Nat} (h : Marks s k A M) (hm : byteAt s k ≠ 63) (hp : plc k (byteAt s k) = true) : Marks s (k + 1) A M := by
  obtain ⟨h1, h2, hM, h3⟩ := h
  refine ⟨fun j hj hne => ?_, h2, by omega, ?_⟩
  · rcases Nat.lt_or_ge j k with g | g
    · exact h1 j g hne
    · obtain rfl : j = k := by omega
      exact hp
  · rcases h3 with ⟨h0, h4⟩ | ⟨h0, h4, h5, h6⟩ | ⟨h4, i, j, h5, h6, h7, h8⟩
    · refine .inl ⟨h0, fun j hj => ?_⟩
      rcases Nat.lt_or_ge j k with g | g
      · exact h4 j g
      · obtain rfl : j = k := by omega
        exact hm
    · refine .inr (.inl ⟨h0, by omega, h5, fun j hj hne => ?_⟩)
      rcases Nat.lt_or_ge j k with g | g
      · exact h6 j g hne
      · obtain rfl : j = k := by omega
        exact hm
    · exact .inr (.inr ⟨h4, i, j, h5, by omega, h7, h8⟩)
theorem fillL_bad {s : ByteArray} {k : Nat} (hk : k < 9) (hm : byteAt s k ≠ 63) (hp : plc k (byteAt s k) = false) : fillL s = [] := by
  unfold fillL
  split
  · rename_i h
    rcases mark_cases s with ⟨h1, -⟩ | ⟨i, hi, h1, h2⟩
    · omega
    · rw [h1]
      exact rep_none (byteAt s) i hk (fun e => hm (by rw [e]; exact h2)) hp _
  · rfl
theorem fillL_end {s : ByteArray} (h9 : s.size = 9) {A M : Nat} (h : Marks s 9 A M) : fillL s = if M = 1 then wth (byteAt s) A allB else [] := by
  obtain ⟨h1, h2, hM, h3⟩ := h
  rcases mark_cases s with ⟨hm, hn⟩ | ⟨i, hi, hm, hmi⟩
  · have hf : fillL s = [] := by unfold fillL; rw [if_neg (by omega)]
    rw [hf]
    rcases h3 with ⟨rfl, h4⟩ | ⟨rfl, h4, h5, h6⟩ | ⟨h4, i, j, h5, h6, h7, h8⟩
    · rw [if_neg (by omega)]
    · exact absurd h5 (hn A (by omega))
    · exact absurd h7 (hn i (by omega))
  · have hf : fillL s = rep (byteAt s) i (sy i) := by unfold fillL; rw [if_pos ⟨h9, by omega⟩, hm]; rfl
    rw [hf]
    rcases h3 with ⟨rfl, h4⟩ | ⟨rfl, h4, h5, h6⟩ | ⟨h4, a, b, h5, h6, h7, h8⟩
    · exact absurd hmi (h4 i (by omega))
    · obtain rfl : i = A := by
        by_cases e : i = A
        · exact e
        · exact absurd hmi (h6 i (by omega) e)
      rw [if_pos rfl]
      exact rep_wth (byteAt s) i (by omega) (by rw [hmi]; exact plc_mark i)
    · rw [if_neg (by omega)]
      by_cases e : i = a
      · exact rep_none (byteAt s) i (show b < 9 by omega) (by omega) (by rw [h8]; exact plc_mark b) _
      · exact rep_none (byteAt s) i (show a < 9 by omega) (fun e2 => e e2.symm) (by rw [h7]; exact plc_mark a) _
set_option maxHeartbeats 2000000 in
theorem rfill_any (s : ByteArray) (w : World) :
    Calls Try.prog 25 #[.string s] w fun e w' => ∃ v, e = .returned v ∧ Texts w' w.heap.size v (fillL s) ∧ Below w.heap.size w w' := by
  by_cases h9 : s.size = 9
  · go_enter Try.func25, Try.ntmps25
    go_wp2_with fail
    go_loopw [3, 4, 5] (fun a m i wr => ∃ (k A M : Nat), i = .int .i64 k ∧ k ≤ 9 ∧ a = .int .i64 A ∧ m = .int .i64 M ∧ Hid (Marks s k A M) ∧ Hid (Below w.heap.size w wr)) (fun _ _ i _ => 9 - (intOf i).toNat)
    case atStart => exact ⟨0, 0, 0, rfl, by omega, rfl, rfl, Lib.hid ⟨fun j hj => by omega, by omega, by omega, .inl ⟨rfl, fun j hj => by omega⟩⟩, Lib.hid (Below.refl _ _)⟩
    case round =>
      obtain ⟨k, A, M, rfl, hk, rfl, rfl, HK, HB⟩ := hrel
      have hM : M ≤ 9 := Nat.le_trans HK.out.2.2.1 hk
      by_cases hk9 : k < 9
      · have hx := byteAt_at s k (by omega)
        have hxb := byteAt_bd s k
        have hks : k < s.size := by omega
        by_cases hmk : byteAt s k = 63
        · have HK' := Lib.hid (HK.out.mark hk9 hmk)
          rw [hmk] at hx
          go_wp2_with fail
          case roundEnd => exact ⟨⟨k + 1, k, M + 1, by simp, by omega, rfl, by simp, HK', HB⟩, by simp [intOf]; omega⟩
        · have hbf : (byteAt s k == 63) = false := beq_eq_false_iff_ne.2 hmk
          go_wp2_with fail
          refine (place_any k _ hxb.1 hxb.2 _).mono ?_
          rintro e w2 ⟨rfl, hb⟩
          have HB2 := Lib.hid (bTr HB.out hb)
          clear hb
          cases hp : plc k (byteAt s k)
          · have HF := Lib.hid (fillL_bad hk9 hmk hp)
            go_wp2_with fail
            exact bodyPost_ret (v := .slice none 0 0) (by simp [results, Try.results25, go_sem]) rfl ⟨_, rfl, by rw [HF.out]; exact Texts.nil _ _, HB2.out⟩
          · have HK' := Lib.hid (HK.out.none hmk hp)
            go_wp2_with fail
            case roundEnd => exact ⟨⟨k + 1, A, M, by simp, by omega, rfl, rfl, HK', HB2⟩, by simp [intOf]; omega⟩
      · obtain rfl : k = 9 := by omega
        have hA : A < 9 := HK.out.2.1
        have HF := Lib.hid (fillL_end h9 HK.out)
        by_cases hM1 : M = 1
        · subst hM1
          rw [if_pos rfl] at HF
          go_wp2_with fail
          refine (with_any s h9 A hA _).mono ?_
          rintro e w3 ⟨v, rfl, hown, hb⟩
          have HO := Lib.hid (own_up hown (show w.heap.size ≤ _ from HB.out.size))
          have HB3 := Lib.hid (bTr HB.out hb)
          clear hown hb
          go_wp2_with fail
          exact bodyPost_ret (v := v) (by simp [results, Try.results25, go_sem]) rfl ⟨_, rfl, by rw [HF.out]; exact HO.out, HB3.out⟩
        · rw [if_neg hM1] at HF
          have hbf : ((M : Int) == 1) = false := beq_eq_false_iff_ne.2 (by omega)
          go_wp2_with fail
          exact bodyPost_ret (v := .slice none 0 0) (by simp [results, Try.results25, go_sem]) rfl ⟨_, rfl, by rw [HF.out]; exact Texts.nil _ _, HB.out⟩
  · have HF := Lib.hid (show fillL s = [] by unfold fillL; rw [if_neg (by omega)])
    go_enter Try.func25, Try.ntmps25
    go_wp2_with fail
    refine bodyPost_ret (v := .slice none 0 0) (by simp [results, Try.results25, go_sem]) rfl ⟨_, rfl, by rw [HF.out]; exact Texts.nil _ _, Below.refl _ _⟩
theorem texts_shape {w : World} {B : Nat} {v : Value} {l : List (List UInt8)} (h : Texts w B v l) : ∃ o cap, v = .slice o l.length cap ∧ ∀ j, j < l.length → ∃ g, o = some ⟨g, 0, none⟩ ∧ g < w.heap.size ∧ w.cell? ⟨g, j, none⟩ = some (.string ⟨(l.getD j []).toArray⟩) := by
  rcases h.2 with ⟨rfl, h0⟩ | ⟨g, cap, cur, rfl, hB, hblk, h1, h2, h3, h4⟩
  · rw [h0]
    exact ⟨none, 0, rfl, fun j hj => by omega⟩
  · refine ⟨_, cap, rfl, fun j hj => ⟨g, rfl, (Array.getElem?_eq_some_iff.1 hblk).1, ?_⟩⟩
    have := h.cells (g := g) rfl j (.string ⟨(l.getD j []).toArray⟩) (by rw [List.getElem?_map, List.getD_eq_getElem?_getD, List.getElem?_eq_getElem hj]; rfl)
    rwa [show (⟨g, 0, none⟩ : Addr).add j = ⟨g, j, none⟩ from by unfold Addr.add; split <;> simp_all] at this
theorem list_eq_of {la lb : List (List UInt8)} (hl : la.length = lb.length) (h : ∀ j, j < la.length → la.getD j [] = lb.getD j []) : la = lb := by
  refine List.ext_getElem? fun j => ?_
  by_cases hj : j < la.length
  · have := h j hj
    rw [List.getD_eq_getElem?_getD, List.getD_eq_getElem?_getD, List.getElem?_eq_getElem hj, List.getElem?_eq_getElem (by omega)] at this
    rw [List.getElem?_eq_getElem hj, List.getElem?_eq_getElem (by omega)]
    exact congrArg some this
  · rw [List.getElem?_eq_none (by omega), List.getElem?_eq_none (by omega)]
set_option maxHeartbeats 2000000 in
theorem texts_any (va vb : Value) (la lb : List (List UInt8)) (w : World) (Ba Bb : Nat) (ha : Texts w Ba va la) (hb : Texts w Bb vb lb) (hl : la.length ≤ 100000) (hl' : lb.length ≤ 100000) :
    Calls Try.prog 23 #[va, vb] w fun e w' => e = .returned (.bool (decide (la = lb))) ∧ Below w.heap.size w w' := by
  obtain ⟨oa, ca, rfl, hca⟩ := texts_shape ha
  obtain ⟨ob, cb, rfl, hcb⟩ := texts_shape hb
  clear ha hb
  have HA := Lib.hid hca
  have HB := Lib.hid hcb
  clear hca hcb
  by_cases hll : la.length = lb.length
  · go_enter Try.func23, Try.ntmps23
    have HL := Lib.hid hll
    obtain ⟨n, hn⟩ : ∃ n, la.length = n := ⟨_, rfl⟩
    rw [← hll, hn]
    rw [hn] at hl
    have HN := Lib.hid hn
    clear hn hll
    go_wp2_with fail
    go_loopw [5] (fun i wr => ∃ (k : Nat), i = .int .i64 k ∧ k ≤ n ∧ Hid (∀ j, j < k → la.getD j [] = lb.getD j []) ∧ Hid (Below w.heap.size w wr)) (fun i _ => n - (intOf i).toNat)
    case atStart => exact ⟨0, rfl, by omega, Lib.hid (fun j hj => by omega), Lib.hid (Below.refl _ _)⟩
    case round =>
      obtain ⟨k, rfl, hk, HJ, HW⟩ := hrel
      by_cases hkn : k < n
      · have hkn' : (k : Int) < (n : Int) := by omega
        obtain ⟨ga, rfl, la_, ya⟩ := HA.out k (by have := HN.out; omega)
        obtain ⟨gb, rfl, lb_, yb⟩ := HB.out k (by have := HN.out; have := HL.out; omega)
        have xa := (HW.out.cell (p := ⟨ga, k, none⟩) la_).trans ya
        have xb := (HW.out.cell (p := ⟨gb, k, none⟩) lb_).trans yb
        clear ya yb la_ lb_
        by_cases he : la.getD k [] = lb.getD k []
        · rw [he] at xa
          have HE := Lib.hid he
          generalize lb.getD k [] = u at xa xb
          clear he
          go_wp2_with fail
          go_region
          go_wp2_with fail
          case roundEnd =>
            refine ⟨⟨k + 1, by simp, by omega, Lib.hid (fun j hj => ?_), Lib.hid (bD1 HW.out)⟩, by simp [intOf]; omega⟩
            rcases Nat.lt_or_ge j k with g | g
            · exact HJ.out j g
            · obtain rfl : j = k := by omega
              exact HE.out
        · have HF := Lib.hid (show decide (la = lb) = false from decide_eq_false fun e => he (by rw [e]))
          have hbf : (la.getD k [] == lb.getD k []) = false := beq_eq_false_iff_ne.2 he
          clear he
          generalize la.getD k [] = u1 at xa hbf
          generalize lb.getD k [] = u2 at xb hbf
          go_wp2_with fail
          go_region
          go_wp2_with fail
          exact bodyPost_ret (v := .bool false) (by simp [results, Try.results23, go_sem]) rfl ⟨ret_bool HF.out.symm, bD1 HW.out⟩
      · obtain rfl : k = n := by omega
        have HT := Lib.hid (show decide (la = lb) = true from decide_eq_true (list_eq_of HL.out fun j hj => HJ.out j (by have := HN.out; omega)))
        go_wp2_with fail
        exact bodyPost_ret (v := .bool true) (by simp [results, Try.results23, go_sem]) rfl ⟨ret_bool HT.out.symm, HW.out⟩
  · have HF := Lib.hid (show decide (la = lb) = false from decide_eq_false fun e => hll (by rw [e]))
    have hbf : ((la.length : Int) == (lb.length : Int)) = false := beq_eq_false_iff_ne.2 (by omega)
    go_enter Try.func23, Try.ntmps23
    go_wp2_with fail
    exact bodyPost_ret (v := .bool false) (by simp [results, Try.results23, go_sem]) rfl ⟨ret_bool HF.out.symm, Below.refl _ _⟩
end Go.Proofs.Ytlionhmmefghmaa
