/-
  The walk of the statement on sums.
-/
import Derived.Test.YtdohidlfcnpojaaList
import Derived.Test.YtdohidlfcnpojaaRSumAny
set_option linter.unusedVariables false
set_option linter.unusedSimpArgs false
namespace Go.Proofs.Ytdohidlfcnpojaa
open Go.RowKit
set_option linter.unusedSimpArgs false
set_option linter.unusedVariables false

theorem frF_i64 {ls : List Fr} (h : ∀ x ∈ ls, I2 x) (i : Nat) (hi : i < ls.length) : -9223372036854775808 ≤ (frF ls i).1 ∧ (frF ls i).1 < 9223372036854775808 ∧ -9223372036854775808 ≤ (frF ls i).2 ∧ (frF ls i).2 < 9223372036854775808 := by
  have e : frF ls i = ls[i] := by unfold frF; rw [List.getD_eq_getElem?_getD, List.getElem?_eq_getElem hi]; rfl
  obtain ⟨⟨a, b⟩, c, d⟩ := h _ (List.getElem_mem hi)
  rw [e]
  exact ⟨a, b, c, d⟩
set_option maxRecDepth 100000 in
set_option maxHeartbeats 8000000 in
theorem walkRatioSums (o : Option Addr) (n c : Nat) (zs : List Int) (w : World) (h : IsRow .i64 w o n c zs) :
    Calls Try.prog 5 #[.slice o n c] w fun e w' => e = .returned (.bool true) ∧ Below w.heap.size w w' := by
  obtain ⟨hr, h1, h2, h3⟩ := row_of h
  clear h
  go_enter Try.func5, Try.ntmps5
  go_wp2_with fail
  refine (tape_new hr h1 h2 h3).mono ?_
  rintro e w1 ⟨g, n', rfl, ht, hb1, hg⟩
  clear hr h1 h2 h3
  have hgl := ht.lt
  go_wp2_with fail
  refine (list_any ht).mono ?_
  rintro e w2 ⟨v, ls, hl6, hall, rfl, hS⟩
  have HB2 := Lib.hid (hb1.trans (bGr hS.gr hg hb1.size))
  obtain ⟨pl, capl, hvl⟩ := own_any hS.own
  subst hvl
  have HI := Lib.hid (fun i hi => frF_i64 hall i hi)
  obtain ⟨hr2, -, -⟩ := rowR_own hS.own
  have HR := Lib.hid hr2
  clear ht hall hS hb1 hr2
  go_wp2_with fail
  refine (sum_any pl ls.length capl (frF ls) _ HR.out (by omega) HI.out).mono ?_
  rintro e w7 ⟨rfl, hb7⟩
  have HR7 := Lib.hid ((HR.out.below hb7 (Nat.le_refl _)).more hb7.size)
  have HB7 := Lib.hid (HB2.out.trans (hb7.mono HB2.out.size))
  clear hb7 HR HB2
  have HSA := Lib.hid (fun W (hW : RowR W W.heap.size pl ls.length (frF ls)) => rsum_any pl ls.length capl (frF ls) W hW (by omega) HI.out)
  generalize smN (frF ls) ls.length = x1 at HSA ⊢
  generalize smD (frF ls) ls.length = x2 at HSA ⊢
  generalize smE (frF ls) ls.length = x3 at HSA ⊢
  have HR8 := Lib.hid ((HR7.out.below ((Below.refl w7.heap.size w7).alloc (Nat.le_refl _) (.cells #[.int .i64 x1, .int .i64 x2] 26)) (Nat.le_refl _)).more (C := (w7.alloc (.cells #[.int .i64 x1, .int .i64 x2] 26)).heap.size) (by simp))
  go_wp2_with fail
  refine (HSA.out _ HR8.out).mono ?_
  rintro e w8 ⟨rfl, hb8⟩
  have H8 := Lib.hid (((Held.nil w7).add x1 x2).later hb8)
  have HB8 := Lib.hid (HB7.out.trans ((bTr (bAl (Below.refl w7.heap.size w7) _) hb8).mono HB7.out.size))
  clear hb8 HR7 HR8 HSA HB7
  have heq : ∀ p q W, (binOp .eql 26 (.agg #[.int .i64 p, .int .i64 q]) (.agg #[.int .i64 p, .int .i64 q])).run Try.prog W = .ok (.bool true) W := fun p q W => by rw [eqlR, decide_eq_true rfl]
  obtain ⟨⟨u0, u1⟩, -, u2⟩ := H8.out.at_ (g := w7.heap.size) (p := x1) (q := x2) (by simp)
  go_wp2_with fail
  refine (awake_any _).mono ?_
  rintro e w9 ⟨rfl, hb9⟩
  have HF := Lib.hid (HB8.out.trans ((bTr (bAl (Below.refl w8.heap.size w8) _) hb9).mono HB8.out.size))
  clear hb9
  go_wp2
  go_ret
  exact ⟨rfl, HF.out⟩
end Go.Proofs.Ytdohidlfcnpojaa
