/-
  The walk of the statement on fair parts.
-/
import Derived.Test.YtphlkeoailapcaaApp2
import Derived.Test.YtphlkeoailapcaaInts
import Derived.Test.YtphlkeoailapcaaRowI
import Derived.OpenShut
namespace Go.Proofs.Ytphlkeoailapcaa
open Go.RowKit
set_option linter.unusedSimpArgs false
set_option linter.unusedVariables false

def WZ (zs : List Nat) (i : Nat) : Int := ((zs.getD i 0 : Nat) : Int)
theorem row_zs {w : World} {B : Nat} {v : Value} {zs : List Nat} (h : w.ownsRow B 3 1 v zs.length (zs.map iv)) : ∃ p cap, v = .slice p zs.length cap ∧ RowZ w p zs.length (WZ zs) := by
  rcases h.2 with ⟨rfl, hx⟩ | ⟨g, cap, cur, rfl, hb, hc, hm, _⟩
  · exact ⟨none, 0, by rw [hx], fun i hi => by omega⟩
  · refine ⟨_, cap, rfl, fun i hi => ⟨g, rfl, (Array.getElem?_eq_some_iff.1 hc).1, ?_⟩⟩
    have := h.cellAt i (by omega)
    rw [this]
    simp [List.getElem?_eq_getElem hi, iv, WZ, List.getD_eq_getElem?_getD]
theorem wz_bd {zs : List Nat} (h : ∀ x ∈ zs, 0 ≤ x ∧ x ≤ 60) (i : Nat) (hi : i < zs.length) : 0 ≤ WZ zs i ∧ WZ zs i ≤ 60 := by
  have := h _ (List.getElem_mem hi)
  unfold WZ
  rw [List.getD_eq_getElem?_getD, List.getElem?_eq_getElem hi]
  simp only [Option.getD_some]
  omega

/-- while the parts are read -/
structure FS (w0 : World) (b g n : Nat) (W A : Nat → Int) (wr : World) : Prop where
  cw : ∀ i, i < n → wr.cell? ⟨b, i, none⟩ = some (.int .i64 (W i))
  ca : ∀ i, i < n → wr.cell? ⟨g, i, none⟩ = some (.int .i64 (A i))
  be : Below w0.heap.size w0 wr
theorem FS.drewN {w0 wr : World} {b g n : Nat} {W A : Nat → Int} (h : FS w0 b g n W A wr) (m : Nat) : FS w0 b g n W A (wr.drewN m) := ⟨h.cw, h.ca, bDr h.be m⟩
theorem wrapS {x : Int} (h : -9223372036854775808 ≤ x) (h2 : x ≤ 9223372036854775807) : IntKind.i64.wrap x = x := by rw [IntKind.wrap_i64]; omega

set_option maxRecDepth 100000 in
set_option maxHeartbeats 8000000 in
theorem walkRatioFair (o : Option Addr) (n c : Nat) (zs : List Int) (a1 : Int) (w : World) (h : IsRow .i64 w o n c zs) (l1 : -9223372036854775808 ≤ a1) (u1 : a1 < 9223372036854775808) :
    Calls Try.prog 8 #[.slice o n c, .int .i64 a1] w fun e w' => e = .returned (.bool true) ∧ Below w.heap.size w w' := by
  obtain ⟨hr, h1, h2, h3⟩ := row_of h
  clear h
  go_enter Try.func8, Try.ntmps8
  go_wp2_with fail
  refine (tape_new hr h1 h2 h3).mono ?_
  rintro e w1 ⟨g, n', rfl, ht, hb1, hg⟩
  clear hr h1 h2 h3
  go_wp2_with fail
  refine (tape_ints 8 0 60 (by omega) (by omega) (by omega) ht).mono ?_
  rintro e w2 ⟨v, zl, ⟨hl8, hall⟩, rfl, hown, ht2, hg2⟩
  have HB2 := Lib.hid (hb1.trans (bGr hg2 hg hb1.size))
  obtain ⟨p, cap, rfl, hR⟩ := row_zs hown
  have HR := Lib.hid hR
  have HW := Lib.hid (wz_bd hall)
  generalize zl.length = m at *
  generalize WZ zl = W at *
  clear ht ht2 hown hg2 hb1 hg hR hall
  go_wp2_with fail
  refine (cut_any a1 500 (by omega) (by omega) ⟨l1, u1⟩ _).mono ?_
  rintro e w' ⟨rfl, rfl⟩
  obtain ⟨T0, T1⟩ := cut_range a1 500 (by omega)
  generalize a1 % 500 = T at *
  clear l1 u1
  go_wp2_with fail
  go_loop [6, 7] (fun s i => ∃ k : Nat, k ≤ m ∧ i = .int .i64 k ∧ s = .int .i64 (lsum W (List.range k))) (fun _ i => m - (intOf i).toNat)
  case atStart => exact ⟨0, by omega, rfl, by simp [lsum]⟩
  case round =>
    obtain ⟨k, hk, rfl, rfl⟩ := hrel
    have hlb := lsum_nk HW.out k hk
    have hsn := Lib.hid (lsum_snoc W k)
    by_cases hlt : k < m
    · obtain ⟨b, rfl, hb, hc⟩ := HR.out.at_ (by omega : 0 < m)
      have c0 := hc k hlt
      have hx := HW.out k hlt
      clear hc
      generalize lsum W (List.range k) = lf at *
      generalize W k = x at *
      have hlt' : (k : Int) < (m : Int) := by omega
      have hk0 : (0 : Int) ≤ (k : Int) := by omega
      have hlw : IntKind.i64.wrap (lf + x) = lf + x := by rw [IntKind.wrap_i64]; omega
      go_wp2
      go_round
      case rel => exact ⟨k + 1, by omega, by go_num, by rw [hsn.out]⟩
      case measure => simp [intOf]; omega
    · obtain rfl : k = m := by omega
      have hlt' : ¬ (k : Int) < (k : Int) := by omega
      have HA := Lib.hid (apportion_any (cap := cap) HR.out hl8 HW.out ⟨T0, by omega⟩)
      clear hsn
      go_wp2_with fail
      refine HA.out.mono ?_
      clear HA
      rintro e w3 ⟨S, hS, ⟨rfl, rfl, rfl⟩ | ⟨hS0, rfl, hb3, L, ord, hf, hB⟩⟩
      · rw [hS] at hlb ⊢
        go_wp2_with fail
        refine (awake_any _).mono ?_
        rintro e w9 ⟨rfl, hb9⟩
        have HF := Lib.hid (HB2.out.trans (hb9.mono HB2.out.size))
        clear hb9
        go_wp2
        go_ret
        exact ⟨rfl, HF.out⟩
      · rw [hS] at hlb ⊢
        clear hS
        have hk0 : 0 < k := by
          rcases Nat.eq_zero_or_pos k with rfl | h1
          · omega
          · exact h1
        obtain ⟨b, rfl, hb, hc⟩ := HR.out.at_ hk0
        have HFS := Lib.hid (show FS w b w2.heap.size k W (part (QT T S W) L ord) w3 from ⟨fun i hi => ((hb3.cell (p := ⟨b, i, none⟩) hb)).trans (hc i hi), fun i hi => by rw [hB.cell, rowN_get hi], HB2.out.trans (hb3.mono HB2.out.size)⟩)
        have hAb : ∀ i, i < k → 0 ≤ part (QT T S W) L ord i ∧ part (QT T S W) L ord i ≤ 29941 := fun i hi => by
          have := qt_bd HW.out ⟨T0, by omega⟩ ⟨hS0, by omega⟩ i hi
          unfold part
          split <;> omega
        have HSUM := Lib.hid hf.sum
        have HN := Lib.hid fun i hi => hf.near (i := i) hi
        have HM := Lib.hid fun i j hi hj => hf.mono (i := i) (k := j) hi hj
        have HAB := Lib.hid hAb
        clear hc hb hb3 hB hf HB2 hAb HR
        generalize part (QT T S W) L ord = A at *
        generalize w2.heap.size = q at *
        obtain ⟨hlb0, hlb1⟩ := hlb
        have hS1 : S ≤ 480 := by omega
        clear hlb0 hlb1
        have hS00 : (S == 0) = false := by rw [beq_eq_false_iff_ne]; omega
        have hS01 : ¬ S = 0 := by omega
        have HK := Lib.hid (And.intro hk0 hl8)
        clear hk hlt hlt' hk0
        go_wp2_with fail
        go_loopw [10, 11] (fun s i wr => ∃ j : Nat, j ≤ k ∧ i = .int .i64 j ∧ s = .int .i64 (T - lsum A (List.range j)) ∧ FS w b q k W A wr) (fun _ i _ => k - (intOf i).toNat)
        case atStart => exact ⟨0, by omega, rfl, by simp [lsum], HFS.out⟩
        case round =>
          clear HFS
          obtain ⟨j, hj, rfl, rfl, hF⟩ := hrel
          have HF := Lib.hid hF
          clear hF
          have hlA := lsum_nk HAB.out j hj
          have HSN := Lib.hid (lsum_snoc A j)
          by_cases hlt : j < k
          · have hlt' : (j : Int) < (k : Int) := by omega
            have hj0 : (0 : Int) ≤ (j : Int) := by omega
            have cw := HF.out.cw j hlt
            have ca := HF.out.ca j hlt
            obtain ⟨x0, x1⟩ := HW.out j hlt
            obtain ⟨y0, y1⟩ := HAB.out j hlt
            obtain ⟨n0, n1⟩ := HN.out j hlt
            have u0 : 0 ≤ A j * S := Int.mul_nonneg y0 (by omega)
            have u1 : A j * S ≤ 29941 * 480 := Int.mul_le_mul y1 hS1 (by omega) (by omega)
            have v0 : 0 ≤ T * W j := Int.mul_nonneg T0 x0
            have v1 : T * W j ≤ 499 * 60 := Int.mul_le_mul (by omega) x1 x0 (by omega)
            generalize lsum A (List.range j) = lf at *
            have HWJ := Lib.hid (show W j = W j from rfl)
            obtain ⟨x, hx⟩ : ∃ x, W j = x := ⟨_, rfl⟩
            obtain ⟨y, hy⟩ : ∃ y, A j = y := ⟨_, rfl⟩
            rw [hx] at cw x0 x1 v0 v1 n0 n1
            rw [hy] at ca y0 y1 u0 u1 n0 n1 HSN
            have HXY := Lib.hid (And.intro hx hy)
            clear hx hy HWJ
            obtain ⟨u, hu⟩ : ∃ u, y * S = u := ⟨_, rfl⟩
            obtain ⟨v, hv⟩ : ∃ v, T * x = v := ⟨_, rfl⟩
            rw [hu] at u0 u1 n0 n1
            rw [hv] at v0 v1 n0 n1
            have k1 : IntKind.i64.wrap (y * S) = u := by rw [hu]; exact wrapS (by omega) (by omega)
            have k2 : IntKind.i64.wrap (T * x) = v := by rw [hv]; exact wrapS (by omega) (by omega)
            have k3 : IntKind.i64.wrap (v - S) = v - S := wrapS (by omega) (by omega)
            have k4 : IntKind.i64.wrap (v + S) = v + S := wrapS (by omega) (by omega)
            have k5 : IntKind.i64.wrap (T - lf - y) = T - lf - y := wrapS (by omega) (by omega)
            have g1 : ¬ u ≤ v - S := by omega
            have g2 : ¬ v + S ≤ u := by omega
            have g3 : decide (u ≤ v - S) = false := decide_eq_false g1
            have g4 : decide (v + S ≤ u) = false := decide_eq_false g2
            have g5 : decide (u ≥ v + S) = false := decide_eq_false g2
            go_wp2_with fail
            go_quiet (fail)
            have HF2 := Lib.hid (HF.out.drewN nq)
            have HG := Lib.hid (And.intro k5 hlt)
            clear HF cw ca g1 g2 g3 g4 g5 k1 k2 k3 k4 k5 hu hv u0 u1 v0 v1 n0 n1
            generalize wr.drewN nq = wq at HF2 ⊢
            go_wp2_with fail
            go_loopw [12] (fun s wr => ∃ m : Nat, m ≤ k ∧ s = .int .i64 m ∧ FS w b q k W A wr) (fun s _ => k - (intOf s).toNat)
            case atStart => exact ⟨0, by omega, rfl, HF2.out⟩
            case round =>
              clear HF2
              obtain ⟨m, hm, rfl, hF⟩ := hrel
              have HF := Lib.hid hF
              clear hF
              by_cases hmk : m < k
              · have hmk' : (m : Int) < (k : Int) := by omega
                have hm0 : (0 : Int) ≤ (m : Int) := by omega
                have cw := HF.out.cw j hlt
                have ca := HF.out.ca j hlt
                rw [HXY.out.1] at cw
                rw [HXY.out.2] at ca
                have dw := HF.out.cw m hmk
                have da := HF.out.ca m hmk
                have hmo := HM.out j m hlt hmk
                rw [HXY.out.1, HXY.out.2] at hmo
                generalize W m = x2 at *
                generalize A m = y2 at *
                by_cases hxx : x2 < x
                · have hyy : ¬ y < y2 := by have := hmo hxx; omega
                  clear hmo
                  have t1 : decide (x > x2) = true := decide_eq_true hxx
                  have t2 : decide (y < y2) = false := decide_eq_false hyy
                  go_wp2_with fail
                  go_quiet (fail)
                  have HF3 := Lib.hid (HF.out.drewN nq)
                  clear cw ca dw da HF
                  generalize wr.drewN nq = wz at HF3 ⊢
                  go_wp2
                  go_round
                  case rel => exact ⟨m + 1, by omega, by go_num, HF3.out⟩
                  case measure => simp [intOf]; omega
                · clear hmo
                  have t1 : decide (x > x2) = false := decide_eq_false hxx
                  go_wp2_with fail
                  go_quiet (fail)
                  have HF3 := Lib.hid (HF.out.drewN nq)
                  clear cw ca dw da HF
                  generalize wr.drewN nq = wz at HF3 ⊢
                  go_wp2
                  go_round
                  case rel => exact ⟨m + 1, by omega, by go_num, HF3.out⟩
                  case measure => simp [intOf]; omega
              · obtain rfl : m = k := by omega
                have hmk' : ¬ (m : Int) < (m : Int) := by omega
                go_wp2
                go_round
                case rel => exact ⟨j + 1, by omega, by go_num, by rw [HSN.out]; congr 1; omega, HF.out⟩
                case measure => simp [intOf]; omega
          · obtain rfl : j = k := by omega
            have hlt' : ¬ (j : Int) < (j : Int) := by omega
            have hfin : T - lsum A (List.range j) = 0 := by have := HSUM.out; omega
            rw [hfin]
            clear hfin hlA
            go_wp2_with fail
            refine (awake_any _).mono ?_
            rintro e w9 ⟨rfl, hb9⟩
            have HB := Lib.hid (HF.out.be.trans (hb9.mono HF.out.be.size))
            clear hb9
            go_wp2
            go_ret
            exact ⟨rfl, HB.out⟩
end Go.Proofs.Ytphlkeoailapcaa
