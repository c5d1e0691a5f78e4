/-
  The walk of the statement on StampMany.
-/
import Derived.Test.YtdhjmnehjmoilaaLawKit
import Derived.Test.YtdhjmnehjmoilaaRefKnown
import Derived.Test.YtdhjmnehjmoilaaMany
import Derived.Deep.OwnRows
namespace Go.Proofs.Ytdhjmnehjmoilaa
open Go.RowKit
set_option linter.unusedSimpArgs false
set_option linter.unusedVariables false

def mAt (N : Nat) (top : Nat) (w : World) (v i : Value) (from_ : Nat) (wr : World) : Prop :=
  ∃ k : Nat, i = .int .i64 k ∧ k ≤ top ∧ wr.ownsRow w.heap.size 23 3 v (from_ + k) (stCells ((List.range (from_ + k)).map (mL N))) ∧ Below w.heap.size w wr
theorem mstep (N k : Nat) : stCells ((List.range (k + 1)).map (mL N)) = stCells ((List.range k).map (mL N)) ++ [.int .i64 (mL N k).1, .int .i64 (mL N k).2.1, .int .i64 (mL N k).2.2] := by
  rw [List.range_succ, List.map_append]
  exact stCells_snoc _ _
theorem mget {N k j : Nat} (h : j < k) : ((List.range k).map (mL N))[j]? = some (mL N j) := by
  rw [List.getElem?_map, List.getElem?_range h]; rfl
theorem made_row {w : World} {g B M : Nat} (h : Blk w g 3 (madeCells #[.int .i64 0] M)) (hB : g < B) : RowI w B (some ⟨g, 0, none⟩) M (fun _ => 0) := by
  intro i hi
  refine ⟨g, 0, rfl, hB, ?_⟩
  rw [Nat.zero_add, h.cell i]
  simp [madeCells, hi, Nat.mod_one]
theorem rev_at {N i : Nat} (h : i < N) : (((List.range N).reverse.getD i 0 : Nat) : Int) = (N : Int) - 1 - (i : Int) := by
  rw [List.getD_eq_getElem?_getD, List.getElem?_eq_getElem (by simpa using h)]
  simp
  omega
set_option maxRecDepth 100000 in
set_option maxHeartbeats 8000000 in
theorem walkStampMany (a0 a1 : Int) (l0 : -9223372036854775808 ≤ a0) (u0 : a0 < 9223372036854775808) (l1 : -9223372036854775808 ≤ a1) (u1 : a1 < 9223372036854775808) (w : World) :
    Calls Try.prog 8 #[.int .i64 a0, .int .i64 a1] w fun e w' => e = .returned (.bool true) ∧ Below w.heap.size w w' := by
  obtain ⟨j0, hj0, hy0, hy1, hy2⟩ := info_parts st_info
  have hq0 := cut_range a0 12 (by omega)
  have hq1 := cut_range a1 20 (by omega)
  go_enter Try.func8, Try.ntmps8
  go_wp2_with fail
  refine (cut_any a0 12 (by omega) (by omega) ⟨l0, u0⟩ _).mono ?_
  rintro e w' ⟨rfl, rfl⟩
  go_wp2_with fail
  refine (cut_any a1 20 (by omega) (by omega) ⟨l1, u1⟩ _).mono ?_
  rintro e w' ⟨rfl, rfl⟩
  obtain ⟨x, hx⟩ : ∃ x : Nat, a0 % 12 = (x : Int) := Int.eq_ofNat_of_zero_le hq0.1
  obtain ⟨cp, hcp⟩ : ∃ x : Nat, a1 % 20 = (x : Int) := Int.eq_ofNat_of_zero_le hq1.1
  rw [hx, hcp]
  rw [hx] at hq0
  rw [hcp] at hq1
  have hx12 : x < 12 := by omega
  have hc20 : cp < 20 := by omega
  clear hx hcp hq0 hq1 l0 u0 l1 u1
  obtain ⟨N, hN⟩ : ∃ N : Nat, N = 295 + x := ⟨_, rfl⟩
  have HN := Lib.hid (show (295 : Int) + (x : Int) = (N : Int) by omega)
  have hNb : N ≤ 306 := by omega
  have hN0 : 295 ≤ N := by omega
  clear hN
  go_wp2_with fail
  rw [HN.out]
  clear HN hx12
  go_loopw [5, 6] (fun v i wr => mAt N N w v i 0 wr) (fun _ i _ => N - (intOf i).toNat)
  case atStart => exact ⟨0, rfl, Nat.zero_le _, World.ownsRow_nil _ _ _ _, Below.refl _ _⟩
  case round =>
    obtain ⟨k, rfl, hk, hown, hb⟩ := hrel
    rw [Nat.zero_add] at hown
    have HO := Lib.hid hown
    have HB := Lib.hid hb
    clear hown hb
    by_cases hkn : k < N
    · have hkn' : (k : Int) < (N : Int) := by omega
      have HKB := Lib.hid hkn
      have HNB := Lib.hid hNb
      go_wp2_with (at_builtin; refine wpList_append_own_at _ rfl (.tmp 21) (.tmp 27) 31 rfl w.heap.size 23 j0 (.agg #[.int .i64 0, .int .i64 0, .int .i64 0]) 3 24 Try.underlying31 hj0 hy0 hy1 hy2 rfl (by decide) _ _ _ rfl (HO.out.alloc _) ⟨wr.heap.size, 0, none⟩ 1 1 [.int .i64 ((N : Int) - (k : Int)), .int .i64 1, .int .i64 (k : Int)] rfl rfl ?c1 ?c2 ?c3 ?c4 ?c5 ?_; (case c1 => exact cell_three_new _ _ _ _ _); (case c2 => exact three_one); (case c3 => have := HKB.out; have := HNB.out; unfold maxLen; omega); (case c4 => have := HKB.out; have := HNB.out; omega); (case c5 => have := HB.out.size; simp; omega); intro v' w3 hown3 hgrow3 hnil3 hat3; have H3 := Lib.hid (And.intro hown3 hgrow3); clear hown3 hgrow3 hnil3 hat3)
      go_roundw
      case rel => exact ⟨k + 1, by go_num, by omega, by rw [Nat.zero_add, mstep]; have := H3.out.1; unfold mL; rw [mJ_lt hkn]; exact this, (HB.out.alloc HB.out.size _).grown H3.out.2 (by have := HB.out.size; simp; omega) (fun j hj => (HO.out.lt j hj).1)⟩
      case measure => simp [intOf]; omega
    · obtain rfl : N = k := by omega
      go_wp2_with fail
      go_loopw [5, 7] (fun v i wr => mAt N cp w v i N wr) (fun _ i _ => cp - (intOf i).toNat)
      case atStart => exact ⟨0, rfl, Nat.zero_le _, HO.out, HB.out⟩
      case round =>
        obtain ⟨k, rfl, hk2, hown, hb⟩ := hrel
        have HO := Lib.hid hown
        have HB := Lib.hid hb
        clear hown hb
        obtain ⟨p, cap, hv5, hp⟩ := own_any HO.out
        subst hv5
        obtain ⟨q, rfl⟩ := hp (by omega)
        by_cases hkc : k < cp
        · have hkc' : (k : Int) < (cp : Int) := by omega
          have hkl : (k : Int) < ((N + k : Nat) : Int) := by omega
          have HKB := Lib.hid (show N + k ≤ 330 by omega)
          obtain ⟨e0, e1, e2⟩ := stCells_at _ k (mL N k) (mget (N := N) (show k < N + k by omega))
          have r0 : wr.cell? ⟨q, k * 3, none⟩ = some (.int .i64 (mL N k).1) := (HO.out.cellAt (k * 3) (by omega)).trans e0
          have r1 : wr.cell? ⟨q, k * 3 + 1, none⟩ = some (.int .i64 (mL N k).2.1) := (HO.out.cellAt (k * 3 + 1) (by omega)).trans e1
          have r2 : wr.cell? ⟨q, k * 3 + 2, none⟩ = some (.int .i64 (mL N k).2.2) := (HO.out.cellAt (k * 3 + 2) (by omega)).trans e2
          have HEQ := Lib.hid (show mL N (N + k) = mL N k by rw [mL_eq, mJ_lt (show k < N by omega)]; unfold mJ; rw [if_neg (by omega)]; omega)
          clear e0 e1 e2 hp
          go_wp2_with (at_builtin; refine wpList_append_own_at _ rfl (.tmp 34) (.tmp 39) 31 rfl w.heap.size 23 j0 (.agg #[.int .i64 0, .int .i64 0, .int .i64 0]) 3 24 Try.underlying31 hj0 hy0 hy1 hy2 rfl (by decide) _ _ _ rfl (HO.out.alloc _) ⟨wr.heap.size, 0, none⟩ 1 1 [.int .i64 (mL N k).1, .int .i64 (mL N k).2.1, .int .i64 (mL N k).2.2] rfl rfl ?c1 ?c2 ?c3 ?c4 ?c5 ?_; (case c1 => exact cell_three_new _ _ _ _ _); (case c2 => exact three_one); (case c3 => have := HKB.out; unfold maxLen; omega); (case c4 => have := HKB.out; omega); (case c5 => have := HB.out.size; simp; omega); intro v' w3 hown3 hgrow3 hnil3 hat3; have H3 := Lib.hid (And.intro hown3 hgrow3); clear hown3 hgrow3 hnil3 hat3)
          go_roundw
          case rel => exact ⟨k + 1, by go_num, by omega, by rw [show N + (k + 1) = N + k + 1 from rfl, mstep, HEQ.out]; exact H3.out.1, (HB.out.alloc HB.out.size _).grown H3.out.2 (by have := HB.out.size; simp; omega) (fun j hj => (HO.out.lt j hj).1)⟩
          case measure => simp [intOf]; omega
        · obtain rfl : cp = k := by omega
          have hmk := fun W => run_make_row' (P := Try.prog) 28 3 (.int .i64 0) 8 Try.underlying28 int_info rfl .i64 .i64 (N + cp) (by omega) (by omega) W
          rw [show ((N + cp : Nat) : Int) = (N : Int) + (cp : Int) from rfl] at hmk
          obtain ⟨hrs, -, -⟩ := rowS_own (ls := (List.range (N + cp)).map (mL N)) (by simpa using HO.out)
          have hrs2 : RowS wr wr.heap.size (some ⟨q, 0, none⟩) (N + cp) (mL N) := by
            have hl : ((List.range (N + cp)).map (mL N)).length = N + cp := by simp
            rw [hl] at hrs
            intro i hi
            have e : lsF ((List.range (N + cp)).map (mL N)) i = mL N i := by unfold lsF; rw [List.getD_eq_getElem?_getD, mget hi]; rfl
            have := hrs i hi
            rw [e] at this
            exact this
          have hbm := bAl (Below.refl _ wr) (.cells (madeCells #[.int .i64 0] (N + cp)) 3)
          have HRS := Lib.hid ((hrs2.below hbm (Nat.le_refl _)).more hbm.size)
          have HRC := Lib.hid (made_row (B := (wr.alloc (.cells (madeCells #[.int .i64 0] (N + cp)) 3)).heap.size) (Blk.new wr 3 (madeCells #[.int .i64 0] (N + cp))) (by simp))
          have HBM := Lib.hid (HB.out.trans (hbm.mono HB.out.size))
          have HCB := Lib.hid (show N + cp ≤ 330 by omega)
          clear hrs hrs2 hbm hp
          go_wp2_with fail
          refine (canon_any (some ⟨q, 0, none⟩) (some ⟨wr.heap.size, 0, none⟩) (N + cp) cap (N + cp) (mL N) (fun _ => 0) _ HRS.out HRC.out (by have := HCB.out; omega)).mono ?_
          rintro e w5 ⟨v, code, rfl, hv⟩
          have hmc := many_canon N cp (by omega) (by omega) (by omega)
          have HB5 := Lib.hid (HBM.out.trans (hv.below.mono HBM.out.size))
          by_cases hbig : 300 < N
          · obtain ⟨rfl, rfl⟩ : v = .slice none 0 0 ∧ code = 3 := by
              obtain ⟨out, ho, _, h⟩ := hv
              obtain rfl := ho.unique hmc
              rcases h with ⟨hl, _⟩ | ⟨_, h1, h2⟩
              · simp at hl; omega
              · exact ⟨h1, h2⟩
            have hbig' : (300 : Int) < (N : Int) := by omega
            clear hv hmc hmk
            go_wp2_with fail
            refine (awake_any _).mono ?_
            rintro e w8 ⟨rfl, hb8⟩
            have HB8 := Lib.hid (HB5.out.trans (hb8.mono HB5.out.size))
            clear hb8
            go_wp2
            go_ret
            exact ⟨rfl, HB8.out⟩
          · obtain ⟨rfl, pa, ca, rfl, hda⟩ := hv.eq _ hmc (by simp; omega)
            have hlen : ((List.range N).reverse).length = N := by simp
            rw [hlen] at hda
            rw [hlen]
            have HDA := Lib.hid (hda.congr (D := fun i => (N : Int) - 1 - (i : Int)) (fun i hi => rev_at hi))
            have hbig' : ¬ (300 : Int) < (N : Int) := by omega
            clear hv hmc hmk hda hlen
            go_wp2_with fail
            go_loop [10] (fun i => ∃ j : Nat, i = .int .i64 j ∧ j ≤ N) (fun i => N - (intOf i).toNat)
            case atStart => exact ⟨0, rfl, Nat.zero_le _⟩
            case round =>
              obtain ⟨j, rfl, hj⟩ := hrel
              by_cases hjn : j < N
              · have hjn' : (j : Int) < (N : Int) := by omega
                obtain ⟨ba, oa, rfl, -, ga⟩ := HDA.out j hjn
                go_wp2
                go_round
                case rel => exact ⟨j + 1, by go_num, by omega⟩
                case measure => simp [intOf]; omega
              · go_wp2_with fail
                refine (awake_any _).mono ?_
                rintro e w8 ⟨rfl, hb8⟩
                have HB8 := Lib.hid (HB5.out.trans (hb8.mono HB5.out.size))
                clear hb8
                go_wp2
                go_ret
                exact ⟨rfl, HB8.out⟩
end Go.Proofs.Ytdhjmnehjmoilaa
