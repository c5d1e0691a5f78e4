/-
  Counts of the reference.
-/
import Derived.Test.YtdggmnhddoejhaaSlices
import Derived.Shelf.SlSortCmp.QuietGrown
import Derived.BigQuiet
namespace Go.Proofs.Ytdggmnhddoejhaa
open Go.RowKit
set_option linter.unusedSimpArgs false
set_option linter.unusedVariables false

theorem bars_inv {L : Nat → St} {C : Nat → Int} {i k : Nat} (h : vld (L k) = false) : bars L C i k = false := by unfold bars; rw [h]; rfl
theorem bars_dis {L : Nat → St} {C : Nat → Int} {i k : Nat} (h : vld (L k) = true) (h2 : dis (L i) (L k) (C i) (C k) = true) : bars L C i k = true := by unfold bars; rw [h, h2]; rfl
theorem bars_late {L : Nat → St} {C : Nat → Int} {i k : Nat} (h2 : dis (L i) (L k) (C i) (C k) = false) (h3 : ¬ k < i) : bars L C i k = false := by unfold bars; rw [h2, decide_eq_false h3]; simp
theorem bars_copy {L : Nat → St} {C : Nat → Int} {i k : Nat} (h : vld (L k) = true) (h3 : k < i) (h4 : L k = L i) : bars L C i k = true := by unfold bars; rw [h, decide_eq_true h3, decide_eq_true h4]; simp
theorem bars_other {L : Nat → St} {C : Nat → Int} {i k : Nat} (h2 : dis (L i) (L k) (C i) (C k) = false) (h4 : ¬ L k = L i) : bars L C i k = false := by unfold bars; rw [h2, decide_eq_false h4]; simp
theorem all_more {L : Nat → St} {C : Nat → Int} {i k : Nat} (h : ∀ j, j < k → bars L C i j = false) (hk : bars L C i k = false) : ∀ j, j < k + 1 → bars L C i j = false := fun j hj => by
  rcases Nat.lt_succ_iff_lt_or_eq.1 hj with h' | h'
  · exact h j h'
  · rw [h']; exact hk
theorem cnts_barred {L : Nat → St} {C : Nat → Int} {n i k : Nat} (hk : k < n) (h : bars L C i k = true) : false = cnts L C n i := by
  symm
  rw [Bool.eq_false_iff, Ne, cnts_iff]
  intro hc
  rw [hc.2 k hk] at h; cases h
theorem ref_valid_b {t s q : Int} {v : Bool} (h : vld (t, s, q) = v) (w : World) :
    Calls Try.prog 13 #[.agg #[.int .i64 t, .int .i64 s, .int .i64 q]] w fun e w' => e = .returned (.bool v) ∧ Gro w w' := h ▸ ref_valid t s q w
theorem ref_disputes_b {t s q t' s' q' x y : Int} {v : Bool} (h : dis (t, s, q) (t', s', q') x y = v) (w : World) :
    Calls Try.prog 44 #[.agg #[.int .i64 t, .int .i64 s, .int .i64 q], .agg #[.int .i64 t', .int .i64 s', .int .i64 q'], .int .i64 x, .int .i64 y] w fun e w' => e = .returned (.bool v) ∧ Gro w w' := h ▸ ref_disputes t s q t' s' q' x y w
set_option maxHeartbeats 4000000 in
theorem ref_counts (o o' : Option Addr) (n c c' Bs Bc : Nat) (L : Nat → St) (C : Nat → Int) (i : Nat) (w : World) (hs : RowS w Bs o n L) (hC : RowI w Bc o' n C) (hBs : Bs ≤ w.heap.size) (hBc : Bc ≤ w.heap.size) (hn : n ≤ 1000000) (hi : i < n) :
    Calls Try.prog 43 #[.slice o n c, .slice o' n c', .int .i64 (i : Int)] w fun e w' => e = .returned (.bool (cnts L C n i)) ∧ Gro w w' := by
  have HS := Lib.hid hs
  have HC := Lib.hid hC
  obtain ⟨b, off, rfl, hbB, a0, a1, a2⟩ := hs i hi
  obtain ⟨g, go, rfl, hgB, a3⟩ := hC i hi
  have hi' : (i : Int) < (n : Int) := by omega
  have mixed : Try.prog.follows .mixedOrders = true := by kernel_rfl
  clear hs hC
  cases hv : vld (L i)
  · have hv' : vld ((L i).1, (L i).2.1, (L i).2.2) = false := hv
    have HX := Lib.hid (show false = cnts L C n i by unfold cnts; rw [hv]; rfl)
    clear hv
    go_enter Try.func43, Try.ntmps43
    go_wp2_with (go_at_call 13; refine (ref_valid _ _ _ _).mono ?_; rintro e w' ⟨rfl, hb⟩)
    go_ret
    exact ⟨ret_bool HX.out, hb⟩
  · have hv' : vld ((L i).1, (L i).2.1, (L i).2.2) = true := hv
    have HV := Lib.hid hv
    have HA := Lib.hid (And.intro a0 (And.intro a1 (And.intro a2 a3)))
    clear hv a3
    go_enter Try.func43, Try.ntmps43
    go_wp2_with (go_at_call 13; refine (ref_valid _ _ _ _).mono ?_; rintro e w1 ⟨rfl, hb⟩; have HB1 := Lib.hid hb; clear hb)
    clear hv' a0 a1 a2
    go_loopw [7] (fun v wr => ∃ k : Nat, v = .int .i64 k ∧ k ≤ n ∧ Hid (∀ j, j < k → bars L C i j = false) ∧ Gro w wr) (fun v _ => n - (intOf v).toNat)
    case atStart => exact ⟨0, rfl, Nat.zero_le _, (fun j hj => absurd hj (Nat.not_lt_zero _)), HB1.out⟩
    case round =>
      obtain ⟨k, rfl, hk, hall, hb⟩ := hrel
      have HBz := Lib.hid hb
      by_cases hkn : k < n
      · have hkn' : (k : Int) < n := by omega
        have hzb : b < wr.heap.size := Nat.lt_of_lt_of_le (by omega) hb.size
        have hzg : g < wr.heap.size := Nat.lt_of_lt_of_le (by omega) hb.size
        have a0 := (hb.below.cell (p := ⟨b, off + i * 3, none⟩) (by simp; omega)).trans HA.out.1
        have a1 := (hb.below.cell (p := ⟨b, off + i * 3 + 1, none⟩) (by simp; omega)).trans HA.out.2.1
        have a2 := (hb.below.cell (p := ⟨b, off + i * 3 + 2, none⟩) (by simp; omega)).trans HA.out.2.2.1
        have a3 := (hb.below.cell (p := ⟨g, go + i, none⟩) (by simp; omega)).trans HA.out.2.2.2
        obtain ⟨b', off', hbb, _, d0, d1, d2⟩ := HS.out.below hb.below hBs k hkn
        injection hbb with hbb
        injection hbb with h1 h2
        subst h1; subst h2
        obtain ⟨g', go', hbb, _, d3⟩ := HC.out.below hb.below hBc k hkn
        injection hbb with hbb
        injection hbb with h1 h2
        subst h1; subst h2
        have a0 := cell_grown (by simpa using hzb) a0
        have a1 := cell_grown (by simpa using hzb) a1
        have a2 := cell_grown (by simpa using hzb) a2
        have a3 := cell_grown (by simpa using hzg) a3
        have d0 := cell_grown (by simpa using hzb) d0
        have d1 := cell_grown (by simpa using hzb) d1
        have d2 := cell_grown (by simpa using hzb) d2
        have d3 := cell_grown (by simpa using hzg) d3
        clear hb
        cases hvk : vld (L k)
        · have hvk' : vld ((L k).1, (L k).2.1, (L k).2.2) = false := hvk
          have HX := Lib.hid (all_more hall (bars_inv hvk))
          clear hvk hall
          go_wp2_with fail
          refine wp_region_quiet_grown mixed (by kernel_rfl) ?_
          repeat (go_big_quiet_step ((first | (go_at_call 13; exact Calls.grown_of (ref_valid_b hvk' _)) | (go_at_call 44; exact Calls.grown_of (ref_disputes_b hdk' _)))))
          refine wpQuiet_nil ?_
          intro _ hw'
          obtain ⟨⟨nq, osq⟩, hw''⟩ := hw'
          subst hw''
          go_wp2
          go_roundw
          case rel => exact ⟨k + 1, by go_num, by omega, HX.out, HBz.out.trans ⟨nq, osq, rfl⟩⟩
          case measure => simp [intOf]; omega
        have hvk' : vld ((L k).1, (L k).2.1, (L k).2.2) = true := hvk
        cases hdk : dis (L i) (L k) (C i) (C k)
        rotate_left
        · have hdk' : dis ((L i).1, (L i).2.1, (L i).2.2) ((L k).1, (L k).2.1, (L k).2.2) (C i) (C k) = true := hdk
          have HX := Lib.hid (cnts_barred hkn (bars_dis hvk hdk))
          clear hvk hall hdk
          go_wp2_with fail
          refine wp_region_quiet_grown mixed (by kernel_rfl) ?_
          repeat (go_big_quiet_step ((first | (go_at_call 13; exact Calls.grown_of (ref_valid_b hvk' _)) | (go_at_call 44; exact Calls.grown_of (ref_disputes_b hdk' _)))))
          refine wpQuiet_nil ?_
          intro _ hw'
          obtain ⟨⟨nq, osq⟩, hw''⟩ := hw'
          subst hw''
          go_wp2
          go_ret
          exact ⟨ret_bool HX.out, HBz.out.trans ⟨nq, osq, rfl⟩⟩
        have hdk' : dis ((L i).1, (L i).2.1, (L i).2.2) ((L k).1, (L k).2.1, (L k).2.2) (C i) (C k) = false := hdk
        by_cases hki : k < i
        · have hki' : ((k : Int) < (i : Int)) := by omega
          by_cases hq : L k = L i
          · have HX := Lib.hid (cnts_barred hkn (bars_copy (C := C) hvk hki hq))
            have heq : ∀ W, (binOp .eql 23 (.agg #[.int .i64 (L k).1, .int .i64 (L k).2.1, .int .i64 (L k).2.2]) (.agg #[.int .i64 (L i).1, .int .i64 (L i).2.1, .int .i64 (L i).2.2])).run Try.prog W = .ok (.bool true) W := fun W => by rw [eqlSt]; exact congrArg (fun x => Result.ok (Value.bool x) W) (decide_eq_true hq)
            clear hvk hall hdk hq
            go_wp2_with fail
            refine wp_region_quiet_grown mixed (by kernel_rfl) ?_
            repeat (go_big_quiet_step ((first | (go_at_call 13; exact Calls.grown_of (ref_valid_b hvk' _)) | (go_at_call 44; exact Calls.grown_of (ref_disputes_b hdk' _)))))
            refine wpQuiet_nil ?_
            intro _ hw'
            obtain ⟨⟨nq, osq⟩, hw''⟩ := hw'
            subst hw''
            go_wp2
            go_ret
            exact ⟨ret_bool HX.out, HBz.out.trans ⟨nq, osq, rfl⟩⟩
          · have HX := Lib.hid (all_more hall (bars_other hdk hq))
            have heq : ∀ W, (binOp .eql 23 (.agg #[.int .i64 (L k).1, .int .i64 (L k).2.1, .int .i64 (L k).2.2]) (.agg #[.int .i64 (L i).1, .int .i64 (L i).2.1, .int .i64 (L i).2.2])).run Try.prog W = .ok (.bool false) W := fun W => by rw [eqlSt]; exact congrArg (fun x => Result.ok (Value.bool x) W) (decide_eq_false hq)
            clear hvk hall hdk hq
            go_wp2_with fail
            refine wp_region_quiet_grown mixed (by kernel_rfl) ?_
            repeat (go_big_quiet_step ((first | (go_at_call 13; exact Calls.grown_of (ref_valid_b hvk' _)) | (go_at_call 44; exact Calls.grown_of (ref_disputes_b hdk' _)))))
            refine wpQuiet_nil ?_
            intro _ hw'
            obtain ⟨⟨nq, osq⟩, hw''⟩ := hw'
            subst hw''
            go_wp2
            go_roundw
            case rel => exact ⟨k + 1, by go_num, by omega, HX.out, HBz.out.trans ⟨nq, osq, rfl⟩⟩
            case measure => simp [intOf]; omega
        · have hki' : decide ((k : Int) < (i : Int)) = false := decide_eq_false (by omega)
          have hki2 : decide (k < i) = false := decide_eq_false hki
          have HX := Lib.hid (all_more hall (bars_late hdk hki))
          clear hvk hall hdk hki
          go_wp2_with fail
          refine wp_region_quiet_grown mixed (by kernel_rfl) ?_
          repeat (go_big_quiet_step ((first | (go_at_call 13; exact Calls.grown_of (ref_valid_b hvk' _)) | (go_at_call 44; exact Calls.grown_of (ref_disputes_b hdk' _)))))
          refine wpQuiet_nil ?_
          intro _ hw'
          obtain ⟨⟨nq, osq⟩, hw''⟩ := hw'
          subst hw''
          go_wp2
          go_roundw
          case rel => exact ⟨k + 1, by go_num, by omega, HX.out, HBz.out.trans ⟨nq, osq, rfl⟩⟩
          case measure => simp [intOf]; omega
      · have HX := Lib.hid (show true = cnts L C n i from ((cnts_iff L C n i).2 ⟨HV.out, fun j hj => hall j (by omega)⟩).symm)
        clear hall hb
        go_wp2
        go_ret
        exact ⟨ret_bool HX.out, HBz.out⟩
end Go.Proofs.Ytdggmnhddoejhaa
