/-
  The walk of the statement on sums in any order.
-/
import Derived.Test.YtlmakfeeecbhoaaList
import Derived.Test.YtlmakfeeecbhoaaOrder
import Derived.Test.YtlmakfeeecbhoaaSumAny
namespace Go.Proofs.Ytlmakfeeecbhoaa
open Go.RowKit
set_option linter.unusedSimpArgs false
set_option linter.unusedVariables false

theorem frF_map (ls : List Fr) (ord : List Nat) (i : Nat) (hi : i < ord.length) : frF (ord.map (frF ls)) i = frF ls (ord.getD i 0) := by
  unfold frF
  rw [List.getD_eq_getElem?_getD, List.getElem?_map, List.getElem?_eq_getElem hi, List.getD_eq_getElem?_getD (l := ord), List.getElem?_eq_getElem hi]
  rfl
theorem getD_at {a : List Nat} {i : Nat} (h : i < a.length) : a[i]? = some (a.getD i 0) := by rw [List.getD_eq_getElem?_getD, List.getElem?_eq_getElem h]; rfl
theorem frF_i64 {ls : List Fr} (h : ∀ x ∈ ls, I2 x) (i : Nat) (hi : i < ls.length) : -9223372036854775808 ≤ (frF ls i).1 ∧ (frF ls i).1 < 9223372036854775808 ∧ -9223372036854775808 ≤ (frF ls i).2 ∧ (frF ls i).2 < 9223372036854775808 := by
  have e : frF ls i = ls[i] := by unfold frF; rw [List.getD_eq_getElem?_getD, List.getElem?_eq_getElem hi]; rfl
  obtain ⟨⟨a, b⟩, c, d⟩ := h _ (List.getElem_mem hi)
  rw [e]
  exact ⟨a, b, c, d⟩
set_option maxRecDepth 100000 in
set_option maxHeartbeats 8000000 in
theorem walkRatioSumsAnyOrder (o : Option Addr) (n c : Nat) (zs : List Int) (w : World) (h : IsRow .i64 w o n c zs) :
    Calls Try.prog 7 #[.slice o n c] w fun e w' => e = .returned (.bool true) ∧ Below w.heap.size w w' := by
  obtain ⟨j0, hj0, hy0, hy1, hy2⟩ := info_parts fr_info
  obtain ⟨hr, h1, h2, h3⟩ := row_of h
  clear h
  go_enter Try.func7, Try.ntmps7
  go_wp2_with fail
  refine (tape_new hr h1 h2 h3).mono ?_
  rintro e w1 ⟨g, n', rfl, ht, hb1, hg⟩
  clear hr h1 h2 h3
  have hgl := ht.lt
  go_wp2_with fail
  refine (list_any ht).mono ?_
  rintro e w2 ⟨v, ls, hl6, hall, rfl, hS⟩
  have HB2 := Lib.hid (hb1.trans (bGr hS.gr hg hb1.size))
  obtain ⟨pl, capl, hvl⟩ := own_any hS.own
  subst hvl
  have HA := Lib.hid hall
  have HS := Lib.hid hS
  clear ht hall hS hb1
  go_wp2_with fail
  refine (tape_order ls.length (by omega) HS.out.tp).mono ?_
  rintro e w3 ⟨v3, ord, ⟨hol, hom⟩, rfl, hown3, ht3, hg3⟩
  have HB3 := Lib.hid (HB2.out.trans (bGr hg3 hg HB2.out.size))
  have hrow3 := HS.out.own.kept hg3 (.inr fun e => by have := (HS.out.own.lt g e).1; omega)
  obtain ⟨hr3, -, -⟩ := rowR_own hrow3
  have HL3 := Lib.hid hr3
  obtain ⟨po, capo, hvo, hcell⟩ := own_form hown3
  subst hvo
  have HC := Lib.hid hcell
  have HOL := Lib.hid hol
  have HOM := Lib.hid hom
  clear hcell hol hom hown3 ht3 hg3 hrow3 hr3 HS HB2
  rw [HOL.out]
  go_wp2_with fail
  go_loopw [6, 7] (fun v i wr => ∃ k : Nat, i = .int .i64 k ∧ k ≤ ls.length ∧ Hid (wr.ownsRow w3.heap.size 26 2 v k (frCells ((ord.take k).map (frF ls))) ∧ Below w3.heap.size w3 wr)) (fun _ i _ => ls.length - (intOf i).toNat)
  case atStart => exact ⟨0, rfl, Nat.zero_le _, World.ownsRow_nil _ _ _ _, Below.refl _ _⟩
  case round =>
    obtain ⟨k, rfl, hk, HO⟩ := hrel
    by_cases hkn : k < ls.length
    · have hkn' : (k : Int) < (ls.length : Int) := by omega
      have hko : k < ord.length := by rw [HOL.out]; exact hkn
      have HX := Lib.hid (getD_at hko)
      have hxl : ord.getD k 0 < ls.length := (HOM.out _).1 (List.mem_of_getElem? HX.out)
      obtain ⟨qo, rfl, -, hqo, g0⟩ := HC.out k _ HX.out
      generalize ord.getD k 0 = x at HX hxl g0
      have a0 := (HO.out.2.cell (p := ⟨qo, k, none⟩) hqo).trans g0
      obtain ⟨b, off, rfl, hbB, g1, g2⟩ := HL3.out x hxl
      have c0 := (HO.out.2.cell (p := ⟨b, off + x * 2, none⟩) hbB).trans g1
      have c1 := (HO.out.2.cell (p := ⟨b, off + x * 2 + 1, none⟩) hbB).trans g2
      clear g0 g1 g2
      have hxi : (x : Int) < (ls.length : Int) := by omega
      have hx0 : decide ((x : Int) < 0) = false := decide_eq_false (by omega)
      have hx2 : decide ((ls.length : Int) ≤ (x : Int)) = false := decide_eq_false (by omega)
      have hx3 : decide (ls.length ≤ x) = false := decide_eq_false (by omega)
      have HW := Lib.hid HO.out.2.size
      go_wp2_with ((at_builtin; refine wpList_append_own_at _ rfl (.tmp 26) (.tmp 34) 33 rfl w3.heap.size 26 j0 (.agg #[.int .i64 0, .int .i64 0]) 2 16 Try.underlying33 hj0 hy0 hy1 hy2 rfl (by decide) _ _ _ rfl (HO.out.1.alloc _) ⟨wr.heap.size, 0, none⟩ 1 1 [.int .i64 (frF ls x).1, .int .i64 (frF ls x).2] rfl rfl ?c1 ?c2 ?c3 ?c4 ?c5 ?_; (case c1 => exact cell_two_new _ _ _ _); (case c2 => exact two_one); (case c3 => unfold maxLen; omega); (case c4 => omega); (case c5 => have := HW.out; simp; omega); intro v' w5 hown5 hgrow5 hnil5 hat5; have H5 := Lib.hid (And.intro hown5 hgrow5); clear hown5 hgrow5 hnil5 hat5))
      go_roundw
      case rel => exact ⟨k + 1, by go_num, by omega, (by have := H5.out.1; rw [List.take_add_one, HX.out, List.map_append]; show World.ownsRow _ _ _ _ _ _ (frCells (_ ++ [frF ls x])); rw [frCells_snoc]; exact this), (HO.out.2.alloc HO.out.2.size _).grown H5.out.2 (by have := HO.out.2.size; simp; omega) (fun j hj => (HO.out.1.lt j hj).1)⟩
      case measure => simp [intOf]; omega
    · obtain rfl : ls.length = k := by omega
      obtain ⟨pm, capm, hvm⟩ := own_any HO.out.1
      have hrowm := HO.out.1
      obtain ⟨ms, hms⟩ : ∃ ms, ord.map (frF ls) = ms := ⟨_, rfl⟩
      have hml : ms.length = ls.length := by rw [← hms, List.length_map]; exact HOL.out
      rw [List.take_of_length_le (by rw [HOL.out]; exact Nat.le_refl _), hms, hvm, ← hml] at hrowm
      obtain ⟨hrm, -, -⟩ := rowR_own hrowm
      rw [hml] at hrm
      subst hvm
      have HRM := Lib.hid hrm
      have HI := Lib.hid (fun i hi => frF_i64 HA.out i hi)
      have hmi : ∀ i, i < ls.length → frF ms i = frF ls (ord.getD i 0) := fun i hi => by rw [← hms]; exact frF_map ls ord i (by rw [HOL.out]; exact hi)
      have HIM := Lib.hid (show ∀ i, i < ls.length → _ from fun i hi => show -9223372036854775808 ≤ (frF ms i).1 ∧ (frF ms i).1 < 9223372036854775808 ∧ -9223372036854775808 ≤ (frF ms i).2 ∧ (frF ms i).2 < 9223372036854775808 by rw [hmi i hi]; exact frF_i64 HA.out _ (at_mem HOL.out HOM.out hi))
      obtain ⟨s1, s2, s3⟩ := sm_congr hmi
      obtain ⟨p1, p2, p3⟩ := sm_perm (L := frF ls) HOL.out HOM.out
      have SM := Lib.hid (And.intro (s1.trans p1) (And.intro (s2.trans p2) (s3.trans p3)))
      have HRL := Lib.hid ((HL3.out.below HO.out.2 (Nat.le_refl _)).more HO.out.2.size)
      have HB4 := Lib.hid (HB3.out.trans (HO.out.2.mono HB3.out.size))
      clear hrowm hms hml hrm hmi s1 s2 s3 p1 p2 p3 HO HC HL3 HB3
      go_wp2_with fail
      refine (sum_any pl ls.length capl (frF ls) _ HRL.out (by omega) HI.out).mono ?_
      rintro e w7 ⟨rfl, hb7⟩
      have HRM7 := Lib.hid ((HRM.out.below hb7 (Nat.le_refl _)).more hb7.size)
      have HB7 := Lib.hid (HB4.out.trans (hb7.mono HB4.out.size))
      clear hb7 HRM HRL HB4
      have HSA := Lib.hid (fun W (hW : RowR W W.heap.size pm ls.length (frF ms)) => sum_any pm ls.length capm (frF ms) W hW (by omega) HIM.out)
      rw [SM.out.1, SM.out.2.1, SM.out.2.2] at HSA
      generalize smN (frF ls) ls.length = x1 at HSA ⊢
      generalize smD (frF ls) ls.length = x2 at HSA ⊢
      generalize smE (frF ls) ls.length = x3 at HSA ⊢
      have HRM8 := Lib.hid ((HRM7.out.below ((Below.refl w7.heap.size w7).alloc (Nat.le_refl _) (.cells #[.int .i64 x1, .int .i64 x2] 26)) (Nat.le_refl _)).more (C := (w7.alloc (.cells #[.int .i64 x1, .int .i64 x2] 26)).heap.size) (by simp))
      go_wp2_with fail
      refine (HSA.out _ HRM8.out).mono ?_
      rintro e w8 ⟨rfl, hb8⟩
      have H8 := Lib.hid (((Held.nil w7).add x1 x2).later hb8)
      have HB8 := Lib.hid (HB7.out.trans ((bTr (bAl (Below.refl w7.heap.size w7) _) hb8).mono HB7.out.size))
      clear hb8 HRM7 HRM8 HSA HB7
      have heq : ∀ p q W, (binOp .eql 26 (.agg #[.int .i64 p, .int .i64 q]) (.agg #[.int .i64 p, .int .i64 q])).run Try.prog W = .ok (.bool true) W := fun p q W => by rw [eqlR, decide_eq_true rfl]
      obtain ⟨⟨u0, u1⟩, -, u2⟩ := H8.out.at_ (g := w7.heap.size) (p := x1) (q := x2) (by simp)
      go_wp2_with fail
      refine (awake_any _).mono ?_
      rintro e w9 ⟨rfl, hb9⟩
      have HF := Lib.hid (HB8.out.trans ((bTr (bAl (Below.refl w8.heap.size w8) _) hb9).mono HB8.out.size))
      clear hb9
      go_wp2
      go_ret
      exact ⟨rfl, HF.out⟩
end Go.Proofs.Ytlmakfeeecbhoaa
