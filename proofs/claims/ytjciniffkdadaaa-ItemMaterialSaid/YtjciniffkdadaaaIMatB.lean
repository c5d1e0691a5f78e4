/-
  Material, of the program and of the reference, whole; two equal rows compared.
-/
import Derived.Test.YtjciniffkdadaaaIMat
namespace Go.Proofs.Ytjciniffkdadaaa
open Go.RowKit
set_option linter.unusedSimpArgs false
set_option linter.unusedVariables false

set_option maxHeartbeats 1000000 in
theorem ints_true (o o2 : Option Addr) (n c c2 : Nat) (A B : Nat → Int) (w : World) (h1 : RowI w w.heap.size o n A) (h2 : RowI w w.heap.size o2 n B) (hn : n ≤ 1000000) (hAB : ∀ i, i < n → A i = B i) :
    Calls Try.prog 24 #[.slice o n c, .slice o2 n c2] w fun e w' => e = .returned (.bool true) ∧ Below w.heap.size w w' := by
  have H1 := Lib.hid h1
  have H2 := Lib.hid h2
  have HAB := Lib.hid hAB
  have hnn : ((n : Int) == (n : Int)) = true := by simp
  clear h1 h2 hAB
  go_enter Try.func24, Try.ntmps24
  go_wp2_with fail
  go_loopw [5] (fun i wr => ∃ k : Nat, i = .int .i64 k ∧ k ≤ n ∧ Hid (Below w.heap.size w wr)) (fun i _ => n - (intOf i).toNat)
  case atStart => exact ⟨0, rfl, Nat.zero_le _, Lib.hid (Below.refl _ _)⟩
  case round =>
    obtain ⟨k, rfl, hk, HB⟩ := hrel
    by_cases hkn : k < n
    · have hkn' : (k : Int) < (n : Int) := by omega
      obtain ⟨b, off, rfl, hbB, hc⟩ := H1.out.later HB.out k hkn
      obtain ⟨b2, off2, rfl, hbB2, hc2⟩ := H2.out.later HB.out k hkn
      rw [HAB.out k hkn] at hc
      generalize B k = x at hc hc2
      have hx : (x != x) = false := by simp
      go_wp2_with fail
      go_quiet (fail)
      go_wp2_with fail
      go_roundw
      case rel => exact ⟨k + 1, by go_num, by omega, Lib.hid (bTr HB.out (bDr (Below.refl wr.heap.size wr) nq))⟩
      case measure => simp [intOf]; omega
    · obtain rfl : k = n := by omega
      go_wp2_with fail
      exact bodyPost_ret (v := .bool true) (by simp [results, Try.results24, go_sem]) rfl ⟨rfl, HB.out⟩
def matL (x y : Itm) : List Nat := (List.range (max x.nP y.nP)).filter (difB x.nP y.nP x.P y.P)
theorem difB_comm (n m : Nat) (P Q : Nat → Pt) (i : Nat) : difB n m P Q i = difB m n Q P i := by
  unfold difB
  rw [Bool.and_comm (decide (i < n)) (decide (i < m)), decide_eq_decide.2 (show P i = Q i ↔ Q i = P i from ⟨Eq.symm, Eq.symm⟩)]
theorem matL_comm (x y : Itm) : matL x y = matL y x := by
  unfold matL
  rw [Nat.max_comm, show difB x.nP y.nP x.P y.P = difB y.nP x.nP y.P x.P from funext (difB_comm _ _ _ _)]
theorem matL_self (x : Itm) : matL x x = [] := by
  unfold matL
  rw [List.filter_eq_nil_iff]
  intro i hi
  have : i < x.nP := by simpa using hi
  unfold difB
  rw [decide_eq_true this, decide_eq_true rfl]
  decide
theorem matL_len (x y : Itm) (h1 : x.nP ≤ 100) (h2 : y.nP ≤ 100) : (matL x y).length ≤ 100 := by
  have := filt_len (difB x.nP y.nP x.P y.P) (max x.nP y.nP)
  unfold matL
  omega
set_option maxRecDepth 100000 in
set_option maxHeartbeats 8000000 in
theorem mat_any (p q : IPtr) (x y : Itm) (w : World) (hs : ItmIn w w.heap.size p x) (hs2 : ItmIn w w.heap.size q y) (hn : x.nP ≤ 100) (hn2 : y.nP ≤ 100) :
    Calls Try.prog 25 #[.agg (itmC p x), .agg (itmC q y)] w (NatR (matL x y) w) := by
  have HB := Lib.hid (bAl (bAl (Below.refl _ w) (.cells (itmC p x) 33)) (.cells (itmC q y) 33))
  have P0 : Hid (Blk ((w.alloc (.cells (itmC p x) 33)).alloc (.cells (itmC q y) 33)) w.heap.size 33 (itmC p x)) := Lib.hid ((Blk.new _ _ _).alloc _)
  have P1 : Hid (Blk ((w.alloc (.cells (itmC p x) 33)).alloc (.cells (itmC q y) 33)) (w.heap.size + 1) 33 (itmC q y)) := Lib.hid (Blk.newAt (by simp))
  have HR1 := Lib.hid (hs.t.later HB.out)
  have HR2 := Lib.hid (hs2.t.later HB.out)
  have HL := Lib.hid (show matL x y = (List.range (max x.nP y.nP)).filter (difB x.nP y.nP x.P y.P) from rfl)
  rw [HL.out]
  clear hs hs2 HL
  unfold itmC at HB P0 P1 HR1 HR2 ⊢
  obtain ⟨o1, c1, o2, c2⟩ := p
  obtain ⟨o3, c3, o4, c4⟩ := q
  obtain ⟨id, ver, st, nP, P, nE, E⟩ := x
  obtain ⟨id2, ver2, st2, nQ, Q, nF, F⟩ := y
  have HRW : Hid (RowP _ _ o1 nP P) := Lib.hid HR1.out
  have HRV : Hid (RowP _ _ o3 nQ Q) := Lib.hid HR2.out
  clear HR1 HR2
  dsimp only at HB P0 P1 HRW HRV hn hn2 ⊢
  obtain ⟨i0, hi0, hz0, hz1, hz2⟩ := info_parts int_info
  obtain ⟨f, hf⟩ : ∃ f : Nat → Bool, f = difB nP nQ P Q := ⟨_, rfl⟩
  rw [← hf]
  have HF := Lib.hid (fun i => (congrFun hf i : f i = difB nP nQ P Q i))
  have HLN := Lib.hid (filt_len f)
  clear hf
  by_cases hlt : nP < nQ
  · rw [Nat.max_eq_right (by omega)]
    have hlt1 : (nP : Int) < (nQ : Int) := by omega
    have z0 := P0.out.cell 3
    have z1 := P1.out.cell 3
    go_enter Try.func25, Try.ntmps25
    go_wp2_with fail
    generalize (w.alloc _).alloc _ = wc at P0 P1 z0 z1 HB HRW HRV ⊢
    go_loopw [5, 14] (fun v i wr => CollAt f nQ wc v i wr) (fun _ i _ => nQ - (intOf i).toNat)
    case atStart => exact CollAt.start f nQ wc
    case round =>
      obtain ⟨i, rfl, hi, HO, HBR⟩ := hrel
      have PR := Lib.hid (P0.out.later HBR.out)
      have PS := Lib.hid (P1.out.later HBR.out)
      have HSR := Lib.hid (HRW.out.later HBR.out)
      have HSS := Lib.hid (HRV.out.later HBR.out)
      clear z0 z1
      have y0 := PR.out.cell 3
      have y1 := PS.out.cell 3
      by_cases hin : i < nQ
      · have hin' : (i : Int) < (nQ : Int) := by omega
        have hi0' : (0 : Int) ≤ (i : Int) := by omega
        have hsz := HBR.out.size
        have ylt := PR.out.lt
        have HCC := Lib.hid (same_any i o1 o3 nP c1 nQ c3 P Q wr HSR.out HSS.out)
        rw [← HF.out i] at HCC
        cases hfi : f i
        · rw [hfi] at HCC
          go_wp2_with (go_at_call 47; refine HCC.out.mono ?_; rintro e w5 ⟨rfl, hb5⟩; have HW5 := Lib.hid hb5; clear hb5)
          go_roundw
          case rel => exact CollAt.no hfi hin HO.out HBR.out HW5.out
          case measure => simp [intOf]; omega
        · rw [hfi] at HCC
          go_wp2_with (first | (go_at_call 47; refine HCC.out.mono ?_; rintro e w5 ⟨rfl, hb5⟩; have HW5 := Lib.hid hb5; clear hb5) | (at_builtin; refine wpList_append_own_at _ rfl (.tmp 24) (.tmp 26) 28 rfl wc.heap.size 3 i0 (.int .i64 0) 1 8 Try.underlying28 hi0 hz0 hz1 hz2 rfl (by decide) _ _ _ rfl ((own_later HO.out HW5.out).alloc _) ⟨w5.heap.size, 0, none⟩ 1 1 [iv i] rfl rfl ?c1 ?c2 ?c3 ?c4 ?c5 ?_; (case c1 => exact cell_one_new _ _ _); (case c2 => intro u hu; simp at hu; subst hu; rfl); (case c3 => have := HLN.out i; unfold maxLen; omega); (case c4 => have := HLN.out i; omega); (case c5 => have := HW5.out.size; simp; omega); intro v' w3 hown3 hgrow hnil hat; have H3 := Lib.hid (And.intro hown3 hgrow); clear hown3 hgrow hnil hat))
          go_roundw
          case rel => exact CollAt.yes hfi hin HO.out HBR.out HW5.out H3.out.2 H3.out.1
          case measure => simp [intOf]; omega
      · obtain rfl : i = nQ := by omega
        have HO2 := HO
        have HFIN := Lib.hid (bTr HB.out HBR.out)
        have HSZ := Lib.hid HB.out.size
        obtain ⟨o8, c8, hv8⟩ := own_any HO.out
        have HV8 := Lib.hid hv8
        clear hv8
        go_wp2_with fail
        exact bodyPost_ret (by simp [results, Try.results25, go_sem]) rfl ⟨_, rfl, ⟨_, HO2.out, HSZ.out⟩, HFIN.out⟩
  · rw [Nat.max_eq_left (by omega)]
    have hlt1 : ¬ (nP : Int) < (nQ : Int) := by omega
    have z0 := P0.out.cell 3
    have z1 := P1.out.cell 3
    go_enter Try.func25, Try.ntmps25
    go_wp2_with fail
    generalize (w.alloc _).alloc _ = wc at P0 P1 z0 z1 HB HRW HRV ⊢
    go_loopw [5, 14] (fun v i wr => CollAt f nP wc v i wr) (fun _ i _ => nP - (intOf i).toNat)
    case atStart => exact CollAt.start f nP wc
    case round =>
      obtain ⟨i, rfl, hi, HO, HBR⟩ := hrel
      have PR := Lib.hid (P0.out.later HBR.out)
      have PS := Lib.hid (P1.out.later HBR.out)
      have HSR := Lib.hid (HRW.out.later HBR.out)
      have HSS := Lib.hid (HRV.out.later HBR.out)
      clear z0 z1
      have y0 := PR.out.cell 3
      have y1 := PS.out.cell 3
      by_cases hin : i < nP
      · have hin' : (i : Int) < (nP : Int) := by omega
        have hi0' : (0 : Int) ≤ (i : Int) := by omega
        have hsz := HBR.out.size
        have ylt := PR.out.lt
        have HCC := Lib.hid (same_any i o1 o3 nP c1 nQ c3 P Q wr HSR.out HSS.out)
        rw [← HF.out i] at HCC
        cases hfi : f i
        · rw [hfi] at HCC
          go_wp2_with (go_at_call 47; refine HCC.out.mono ?_; rintro e w5 ⟨rfl, hb5⟩; have HW5 := Lib.hid hb5; clear hb5)
          go_roundw
          case rel => exact CollAt.no hfi hin HO.out HBR.out HW5.out
          case measure => simp [intOf]; omega
        · rw [hfi] at HCC
          go_wp2_with (first | (go_at_call 47; refine HCC.out.mono ?_; rintro e w5 ⟨rfl, hb5⟩; have HW5 := Lib.hid hb5; clear hb5) | (at_builtin; refine wpList_append_own_at _ rfl (.tmp 24) (.tmp 26) 28 rfl wc.heap.size 3 i0 (.int .i64 0) 1 8 Try.underlying28 hi0 hz0 hz1 hz2 rfl (by decide) _ _ _ rfl ((own_later HO.out HW5.out).alloc _) ⟨w5.heap.size, 0, none⟩ 1 1 [iv i] rfl rfl ?c1 ?c2 ?c3 ?c4 ?c5 ?_; (case c1 => exact cell_one_new _ _ _); (case c2 => intro u hu; simp at hu; subst hu; rfl); (case c3 => have := HLN.out i; unfold maxLen; omega); (case c4 => have := HLN.out i; omega); (case c5 => have := HW5.out.size; simp; omega); intro v' w3 hown3 hgrow hnil hat; have H3 := Lib.hid (And.intro hown3 hgrow); clear hown3 hgrow hnil hat))
          go_roundw
          case rel => exact CollAt.yes hfi hin HO.out HBR.out HW5.out H3.out.2 H3.out.1
          case measure => simp [intOf]; omega
      · obtain rfl : i = nP := by omega
        have HO2 := HO
        have HFIN := Lib.hid (bTr HB.out HBR.out)
        have HSZ := Lib.hid HB.out.size
        obtain ⟨o8, c8, hv8⟩ := own_any HO.out
        have HV8 := Lib.hid hv8
        clear hv8
        go_wp2_with fail
        exact bodyPost_ret (by simp [results, Try.results25, go_sem]) rfl ⟨_, rfl, ⟨_, HO2.out, HSZ.out⟩, HFIN.out⟩
end Go.Proofs.Ytjciniffkdadaaa
