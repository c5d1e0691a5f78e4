/-
  Disputed of the reference.
-/
import Derived.Test.YtdhjmnehjmoilaaRefDis
import Derived.Test.YtdhjmnehjmoilaaWalkGrows
import Derived.Laws.StructEq
namespace Go.Proofs.Ytdhjmnehjmoilaa
open Go.RowKit Go.Sort Go.Lib
set_option linter.unusedSimpArgs false
set_option linter.unusedVariables false

theorem idCells_len (l : List (Int × Int)) : (idCells l).length = l.length * 2 := by
  unfold idCells; induction l with
  | nil => rfl
  | cons x t ih => rw [List.flatMap_cons, List.length_append, ih]; simp; omega
theorem idCells_app (l r : List (Int × Int)) : idCells (l ++ r) = idCells l ++ idCells r := by unfold idCells; simp
theorem id_one {l : List (Int × Int)} : ∀ u ∈ idCells l, u.oneCell' = true := by
  intro u hu
  unfold idCells at hu
  obtain ⟨x, _, h⟩ := List.mem_flatMap.1 hu
  simp at h
  rcases h with h | h <;> (subst h; rfl)
theorem idtake_get {out : List (Int × Int)} {a j : Nat} {u : Value} (h : (idCells (out.take a))[j]? = some u) : (idCells out)[j]? = some u := by
  have e : idCells out = idCells (out.take a) ++ idCells (out.drop a) := by rw [← idCells_app, List.take_append_drop]
  rw [e, List.getElem?_append_left (by
    rcases Nat.lt_or_ge j (idCells (out.take a)).length with g | g
    · exact g
    · rw [List.getElem?_eq_none g] at h; cases h)]
  exact h
theorem iddrop_get {out : List (Int × Int)} {a j : Nat} {u : Value} (ha : a ≤ out.length) (h : (idCells (out.drop a))[j]? = some u) : (idCells out)[a * 2 + j]? = some u := by
  have e : idCells out = idCells (out.take a) ++ idCells (out.drop a) := by rw [← idCells_app, List.take_append_drop]
  have hl : (idCells (out.take a)).length = a * 2 := by rw [idCells_len, List.length_take, Nat.min_eq_left ha]
  rw [e, List.getElem?_append_right (by omega), hl, Nat.add_sub_cancel_left]
  exact h
theorem idsrc_get {w5 w7 : World} {B q cap a j : Nat} {out : List (Int × Int)} {u : Value} (h : w5.ownsRow B 43 2 (.slice (some ⟨q, 0, none⟩) out.length cap) out.length (idCells out)) (hb : RowKit.Below w5.heap.size w5 w7) (hql : q < w5.heap.size) (ha : a ≤ out.length) (hu : (idCells (out.drop a))[j]? = some u) : w7.cell? ((⟨q, a * 2, none⟩ : Addr).add j) = some u := by
  have h1 := iddrop_get ha hu
  have e : (⟨q, a * 2, none⟩ : Addr).add j = ⟨q, a * 2 + j, none⟩ := by
    unfold Addr.add
    split
    · rename_i hj; rw [hj]; rfl
    · rfl
  have hlt : a * 2 + j < out.length * 2 := by
    rcases Nat.lt_or_ge (a * 2 + j) (idCells out).length with g | g
    · rw [idCells_len] at g; exact g
    · rw [List.getElem?_eq_none g] at h1; cases h1
  rw [e, hb.cell (p := ⟨q, a * 2 + j, none⟩) hql, h.cellAt (a * 2 + j) hlt, h1]
theorem own_form2d {w : World} {B n m cap : Nat} {e : TypeId} {p : Option Addr} {xs : List Value} (h : w.ownsRow B e 2 (.slice p m cap) n xs) : (p = none ∧ n = 0 ∧ cap = 0) ∨ ∃ q, p = some ⟨q, 0, none⟩ ∧ n ≤ cap ∧ cap ≤ maxLen ∧ B ≤ q ∧ q < w.heap.size := by
  rcases h.2 with ⟨hv, h0⟩ | ⟨g, cap', cur, hv, hb, hc, hmc, hm, _⟩
  · injection hv with h1 h2 h3
    exact .inl ⟨h1, h0, h3⟩
  · injection hv with h1 h2 h3
    subst h3
    exact .inr ⟨g, h1, hmc, hm, hb, (Array.getElem?_eq_some_iff.1 hc).1⟩
def QAt (L : Nat → St) (C : Nat → Int) (n : Nat) (w0 : World) (v6 i : Value) (wr : World) : Prop :=
  ∃ (k : Nat) (out : List (Int × Int)), i = .int .i64 k ∧ k ≤ n ∧ IsDPre L C n k out ∧ out.length ≤ k ∧ wr.ownsRow w0.heap.size 43 2 v6 out.length (idCells out) ∧ RowKit.Below w0.heap.size w0 wr
set_option maxHeartbeats 400000 in
theorem rdis_bad (o o' : Option Addr) (n n' c c' : Nat) (w : World) (hne : n' ≠ n) :
    Calls Try.prog 24 #[.slice o n c, .slice o' n' c'] w fun e w' => e = .returned (.tuple #[.slice none 0 0, .int .i64 1]) ∧ w = w' := by
  have h1 : (((n' : Nat) : Int) != (n : Int)) = true := by rw [bne_iff_ne]; omega
  go_enter Try.func24, Try.ntmps24
  go_wp2
  go_ret2
  exact ⟨rfl, rfl⟩

attribute [local irreducible] vld dis pB in
set_option maxRecDepth 100000 in
set_option maxHeartbeats 8000000 in
theorem rdis_any (o o' : Option Addr) (n c c' : Nat) (L : Nat → St) (C : Nat → Int) (w : World) (hs : RowS w w.heap.size o n L) (hC : RowI w w.heap.size o' n C) (hn : n ≤ 1000000) :
    Calls Try.prog 24 #[.slice o n c, .slice o' n c'] w (DisR L C n w) := by
  obtain ⟨i0, hi0, hz0, hz1, hz2⟩ := info_parts id_info
  have h1 : (((n : Nat) : Int) != (n : Int)) = false := by simp
  have mixed : Try.prog.follows .mixedOrders = true := by kernel_rfl
  have HS := Lib.hid hs
  have HC := Lib.hid hC
  clear hs hC
  go_enter Try.func24, Try.ntmps24
  go_wp2_with fail
  go_loopw [6, 7] (fun v6 i wr => QAt L C n w v6 i wr) (fun _ i _ => n - (intOf i).toNat)
  case atStart => exact ⟨0, [], rfl, Nat.zero_le _, IsDPre.nil L C n, Nat.le_refl _, World.ownsRow_nil _ _ _ _, RowKit.Below.refl _ _⟩
  case round =>
    obtain ⟨k, out, rfl, hk, hpre, hzk, hown, hb⟩ := hrel
    have HP := Lib.hid hpre
    have HO := Lib.hid hown
    have HB := Lib.hid hb
    clear hpre hown hb
    by_cases hkn : k < n
    · have hkn' : (k : Int) < n := by omega
      obtain ⟨wr', hwr'⟩ : ∃ wr' : World, wr' = wr := ⟨_, rfl⟩
      subst hwr'
      have HRS := Lib.hid (HS.out.below HB.out (Nat.le_refl _))
      have HRC := Lib.hid (HC.out.below HB.out (Nat.le_refl _))
      obtain ⟨b, off, rfl, hbB, a0, a1, a2⟩ := HRS.out k hkn
      have hzb : b < wr'.heap.size := Nat.lt_of_lt_of_le hbB HB.out.size
      clear a0
      go_wp2_with fail
      go_region_held3 (fun w' => w'.cell? ⟨b, off + k * 3 + 1, none⟩ = some (.int .i64 (L k).2.1) ∧ w'.cell? ⟨b, off + k * 3 + 2, none⟩ = some (.int .i64 (L k).2.2)) (first | (go_split_ands; refine ⟨?_, ?_⟩ <;> (rw [hb.below.cell (by simp; omega)]; assumption)) | go_keep) (fail)
      obtain ⟨w1, hw1⟩ : ∃ w1 : World, w1 = (wr'.alloc (.cells #[.int .i64 (L k).2.1, .int .i64 (L k).2.2] 43)).drew := ⟨_, rfl⟩
      have HG1 := Lib.hid (show Gro wr' w1 by rw [hw1]; exact Gro.drew (Gro.alloc (Gro.refl _) _))
      have HXB := Lib.hid (show w1.cell? ⟨wr'.heap.size, 0, none⟩ = some (.int .i64 (L k).2.1) ∧ w1.cell? ⟨wr'.heap.size, 1, none⟩ = some (.int .i64 (L k).2.2) ∧ wr'.heap.size < w1.heap.size by rw [hw1]; exact ⟨(Blk.new wr' _ _).cell 0, (Blk.new wr' _ _).cell 1, by simp⟩)
      rw [← hw1]
      clear hw1 a1 a2
      generalize hxb : wr'.heap.size = xb at HXB
      have HS1 := Lib.hid (HRS.out.below HG1.out.below HB.out.size)
      have HC1 := Lib.hid (HRC.out.below HG1.out.below HB.out.size)
      have HO1 := Lib.hid (own_later HO.out HG1.out.below)
      have HB1 := Lib.hid (HB.out.trans (HG1.out.below.mono HB.out.size))
      clear HS HC HRS HRC HO HB HG1 hxb
      go_wp2_with fail
      go_loopw [9, 10] (fun fv kv wr2 => ∃ j : Nat, kv = .int .i64 j ∧ j ≤ n ∧ fv = .bool (fnd L C k j) ∧ Gro w1 wr2) (fun _ kv _ => n - (intOf kv).toNat)
      case atStart => exact ⟨0, rfl, Nat.zero_le _, rfl, Gro.refl _⟩
      case round =>
        obtain ⟨j, rfl, hj, rfl, hb⟩ := hrel
        have HBz := Lib.hid hb
        obtain ⟨wq, hwq⟩ : ∃ wq : World, wq = wr := ⟨_, rfl⟩
        subst hwq
        by_cases hjn : j < n
        · have hjn' : (j : Int) < n := by omega
          obtain ⟨b', off', hbb, _, a0, a1, a2⟩ := HS1.out.below hb.below HB1.out.size k hkn
          injection hbb with hbb
          injection hbb with e1 e2
          subst e1; subst e2
          obtain ⟨b', off', hbb, _, d0, d1, d2⟩ := HS1.out.below hb.below HB1.out.size j hjn
          injection hbb with hbb
          injection hbb with e1 e2
          subst e1; subst e2
          obtain ⟨g, go, rfl, hgB, a3⟩ := HC1.out.below hb.below HB1.out.size k hkn
          obtain ⟨g', go', hbb, _, d3⟩ := HC1.out.below hb.below HB1.out.size j hjn
          injection hbb with hbb
          injection hbb with e1 e2
          subst e1; subst e2
          have hqb : b < wq.heap.size := Nat.lt_of_lt_of_le hbB (Nat.le_trans HB1.out.size hb.size)
          have hqg : g < wq.heap.size := Nat.lt_of_lt_of_le hgB (Nat.le_trans HB1.out.size hb.size)
          have a0 := cell_grown (by simpa using hqb) a0
          have a1 := cell_grown (by simpa using hqb) a1
          have a2 := cell_grown (by simpa using hqb) a2
          have a3 := cell_grown (by simpa using hqg) a3
          have d0 := cell_grown (by simpa using hqb) d0
          have d1 := cell_grown (by simpa using hqb) d1
          have d2 := cell_grown (by simpa using hqb) d2
          have d3 := cell_grown (by simpa using hqg) d3
          have hfs := fnd_succ L C k j
          clear hb
          cases hf : fnd L C k j
          rotate_left
          · rw [hf] at hfs
            have HF := Lib.hid (show fnd L C k (j + 1) = true from hfs)
            clear hfs hf
            go_wp2_with fail
            refine wp_region_quiet_grown mixed (by kernel_rfl) ?_
            repeat (go_big_quiet_step ((first | (go_at_call 13; exact Calls.grown_of (ref_valid_b (by assumption) _)) | (go_at_call 44; exact Calls.grown_of (ref_disputes_b hdk' _)))))
            refine wpQuiet_nil ?_
            intro _ hw'
            obtain ⟨⟨nq, osq⟩, hw''⟩ := hw'
            subst hw''
            go_wp2
            go_roundw
            case rel => exact ⟨j + 1, by go_num, by omega, (show Value.bool true = _ by rw [HF.out]), HBz.out.trans ⟨nq, osq, rfl⟩⟩
            case measure => simp [intOf]; omega
          rw [hf] at hfs
          cases hvi : vld (L k)
          · rw [hvi] at hfs
            have HF := Lib.hid (show fnd L C k (j + 1) = false from hfs)
            have hvi' : vld ((L k).1, (L k).2.1, (L k).2.2) = false := hvi
            clear hfs hvi hf
            go_wp2_with fail
            refine wp_region_quiet_grown mixed (by kernel_rfl) ?_
            repeat (go_big_quiet_step ((first | (go_at_call 13; exact Calls.grown_of (ref_valid_b (by assumption) _)) | (go_at_call 44; exact Calls.grown_of (ref_disputes_b hdk' _)))))
            refine wpQuiet_nil ?_
            intro _ hw'
            obtain ⟨⟨nq, osq⟩, hw''⟩ := hw'
            subst hw''
            go_wp2
            go_roundw
            case rel => exact ⟨j + 1, by go_num, by omega, (show Value.bool false = _ by rw [HF.out]), HBz.out.trans ⟨nq, osq, rfl⟩⟩
            case measure => simp [intOf]; omega
          have hvi' : vld ((L k).1, (L k).2.1, (L k).2.2) = true := hvi
          rw [hvi] at hfs
          cases hvk : vld (L j)
          · rw [hvk] at hfs
            have HF := Lib.hid (show fnd L C k (j + 1) = false from hfs)
            have hvk' : vld ((L j).1, (L j).2.1, (L j).2.2) = false := hvk
            clear hfs hvi hf hvk
            go_wp2_with fail
            refine wp_region_quiet_grown mixed (by kernel_rfl) ?_
            repeat (go_big_quiet_step ((first | (go_at_call 13; exact Calls.grown_of (ref_valid_b (by assumption) _)) | (go_at_call 44; exact Calls.grown_of (ref_disputes_b hdk' _)))))
            refine wpQuiet_nil ?_
            intro _ hw'
            obtain ⟨⟨nq, osq⟩, hw''⟩ := hw'
            subst hw''
            go_wp2
            go_roundw
            case rel => exact ⟨j + 1, by go_num, by omega, (show Value.bool false = _ by rw [HF.out]), HBz.out.trans ⟨nq, osq, rfl⟩⟩
            case measure => simp [intOf]; omega
          have hvk' : vld ((L j).1, (L j).2.1, (L j).2.2) = true := hvk
          rw [hvk] at hfs
          obtain ⟨v, hdk⟩ : ∃ v, dis (L k) (L j) (C k) (C j) = v := ⟨_, rfl⟩
          have hdk' : dis ((L k).1, (L k).2.1, (L k).2.2) ((L j).1, (L j).2.1, (L j).2.2) (C k) (C j) = v := hdk
          rw [hdk] at hfs
          have HF := Lib.hid (show fnd L C k (j + 1) = v by rw [hfs]; simp)
          clear hfs hvi hf hvk hdk
          go_wp2_with fail
          refine wp_region_quiet_grown mixed (by kernel_rfl) ?_
          repeat (go_big_quiet_step ((first | (go_at_call 13; exact Calls.grown_of (ref_valid_b (by assumption) _)) | (go_at_call 44; exact Calls.grown_of (ref_disputes_b hdk' _)))))
          refine wpQuiet_nil ?_
          intro _ hw'
          obtain ⟨⟨nq, osq⟩, hw''⟩ := hw'
          subst hw''
          go_wp2
          go_roundw
          case rel => exact ⟨j + 1, by go_num, by omega, (show Value.bool v = _ by rw [HF.out]), HBz.out.trans ⟨nq, osq, rfl⟩⟩
          case measure => simp [intOf]; omega
        · obtain rfl : n = j := by omega
          obtain ⟨fv, hfv⟩ : ∃ fv, fnd L C k n = fv := ⟨_, rfl⟩
          rw [hfv]
          have HFV := Lib.hid hfv
          have HG2 := Lib.hid hb
          have hzw := HBz.out.size
          clear hfv hb HBz
          obtain ⟨p, cap, rfl, -⟩ := own_any HO1.out
          have HD1 := Lib.hid (rowD_own HO1.out)
          go_wp2_with fail
          go_loopw [11] (fun v wr3 => ∃ a : Nat, v = .int .i64 a ∧ a ≤ out.length ∧ Hid (∀ j x, j < a → out[j]? = some x → pLt x (L k).2) ∧ Gro wq wr3) (fun v _ => out.length - (intOf v).toNat)
          case atStart => exact ⟨0, rfl, Nat.zero_le _, (fun j x hj hx => absurd hj (Nat.not_lt_zero _)), Gro.refl _⟩
          case round =>
            obtain ⟨a, rfl, ha, hlo, hg⟩ := hrel
            obtain ⟨w4, hw4⟩ : ∃ w4 : World, w4 = wr := ⟨_, rfl⟩
            subst hw4
            have HG4 := Lib.hid hg
            have HGT := Lib.hid (HG2.out.trans hg)
            clear hg
            have x0 := (HGT.out.below.cell (p := ⟨xb, 0, none⟩) HXB.out.2.2).trans HXB.out.1
            have x1 := (HGT.out.below.cell (p := ⟨xb, 1, none⟩) HXB.out.2.2).trans HXB.out.2.1
            have hxz : xb < w4.heap.size := Nat.lt_of_lt_of_le HXB.out.2.2 HGT.out.size
            have x0 := cell_grown (by simpa using hxz) x0
            have x1 := cell_grown (by simpa using hxz) x1
            by_cases hal : a < out.length
            · have hal' : (a : Int) < (out.length : Int) := by omega
              have hg1 : decide ((a : Int) < (out.length : Int)) = true := decide_eq_true hal'
              have hg2 : decide (a < out.length) = true := decide_eq_true hal
              obtain ⟨q, rfl, hq1, o0, o1⟩ := HD1.out a hal
              have hqz : q < w4.heap.size := Nat.lt_of_lt_of_le hq1 HGT.out.size
              have HY := Lib.hid (show out[a]? = some (out.getD a (0, 0)) by rw [List.getD_eq_getElem?_getD, List.getElem?_eq_getElem hal]; rfl)
              generalize out.getD a (0, 0) = y at o0 o1 HY
              have o0' := o0
              have o1' := o1
              have o0 := (HGT.out.below.cell (p := ⟨q, a * 2, none⟩) hq1).trans o0
              have o1 := (HGT.out.below.cell (p := ⟨q, a * 2 + 1, none⟩) hq1).trans o1
              have o0 := cell_grown (by simpa using hqz) o0
              have o1 := cell_grown (by simpa using hqz) o1
              have HBX := hlo
              cases hbe : pB y.1 y.2 (L k).2.1 (L k).2.2
              · have HBE := Lib.hid hbe
                have HOO := Lib.hid (show w1.cell? ⟨q, a * 2, none⟩ = some (.int .i64 y.1) ∧ w1.cell? ⟨q, a * 2 + 1, none⟩ = some (.int .i64 y.2) from ⟨o0', o1'⟩)
                go_wp2_with fail
                refine wp_region_quiet_grown mixed (by kernel_rfl) ?_
                repeat (go_big_quiet_step ((go_at_call 45; exact Calls.grown_of (ref_before_b hbe _))))
                refine wpQuiet_nil ?_
                intro w5 hw'
                have HG5 := Lib.hid (show Gro w4 w5 by obtain ⟨pp, h⟩ := hw'; exact ⟨pp.n, pp.os, h⟩)
                clear hw'
                have HT5 := Lib.hid (HGT.out.trans HG5.out)
                have x0 := (HT5.out.below.cell (p := ⟨xb, 0, none⟩) HXB.out.2.2).trans HXB.out.1
                have x1 := (HT5.out.below.cell (p := ⟨xb, 1, none⟩) HXB.out.2.2).trans HXB.out.2.1
                have hxz : xb < w5.heap.size := Nat.lt_of_lt_of_le HXB.out.2.2 HT5.out.size
                have x0 := cell_grown (by simpa using hxz) x0
                have x1 := cell_grown (by simpa using hxz) x1
                have hqz : q < w5.heap.size := Nat.lt_of_lt_of_le hq1 HT5.out.size
                have o0 := (HT5.out.below.cell (p := ⟨q, a * 2, none⟩) hq1).trans HOO.out.1
                have o1 := (HT5.out.below.cell (p := ⟨q, a * 2 + 1, none⟩) hq1).trans HOO.out.2
                have o0 := cell_grown (by simpa using hqz) o0
                have o1 := cell_grown (by simpa using hqz) o1
                cases fv
                · have HFK := Lib.hid HFV.out
                  go_wp2_with fail
                  refine wp_region_quiet_grown mixed (by kernel_rfl) ?_
                  repeat (go_big_quiet_step (fail))
                  refine wpQuiet_nil ?_
                  intro w6 hw'
                  have HG6 := Lib.hid (show Gro w5 w6 by obtain ⟨pp, h⟩ := hw'; exact ⟨pp.n, pp.os, h⟩)
                  clear hw'
                  have HT6 := Lib.hid (HT5.out.trans HG6.out)
                  go_wp2
                  go_roundw
                  case rel => exact ⟨k + 1, out, by go_num, by omega, HP.out.skip (fun h => absurd h (by rw [HFK.out]; decide)), by omega, own_later HO1.out HT6.out.below, HB1.out.trans (HT6.out.below.mono HB1.out.size)⟩
                  case measure => simp [intOf]; omega
                by_cases hyx : y = (L k).2
                · have heq : ∀ W, (binOp .eql 43 (.agg #[.int .i64 y.1, .int .i64 y.2]) (.agg #[.int .i64 (L k).2.1, .int .i64 (L k).2.2])).run Try.prog W = .ok (.bool true) W := fun W => by rw [eqlId]; exact congrArg (fun x => Result.ok (Value.bool x) W) (decide_eq_true hyx)
                  have HMEM := Lib.hid (show (L k).2 ∈ out from hyx ▸ List.mem_of_getElem? HY.out)
                  clear hyx
                  go_wp2_with fail
                  refine wp_region_quiet_grown mixed (by kernel_rfl) ?_
                  repeat (go_big_quiet_step (fail))
                  refine wpQuiet_nil ?_
                  intro w6 hw'
                  have HG6 := Lib.hid (show Gro w5 w6 by obtain ⟨pp, h⟩ := hw'; exact ⟨pp.n, pp.os, h⟩)
                  clear hw'
                  have HT6 := Lib.hid (HT5.out.trans HG6.out)
                  go_wp2
                  go_roundw
                  case rel => exact ⟨k + 1, out, by go_num, by omega, HP.out.skip (fun h => HMEM.out), by omega, own_later HO1.out HT6.out.below, HB1.out.trans (HT6.out.below.mono HB1.out.size)⟩
                  case measure => simp [intOf]; omega
                · have heq : ∀ W, (binOp .eql 43 (.agg #[.int .i64 y.1, .int .i64 y.2]) (.agg #[.int .i64 (L k).2.1, .int .i64 (L k).2.2])).run Try.prog W = .ok (.bool false) W := fun W => by rw [eqlId]; exact congrArg (fun x => Result.ok (Value.bool x) W) (decide_eq_false hyx)
                  have HUP := Lib.hid (show ∀ x, out[a]? = some x → pLt (L k).2 x from fun x hx => by
                    rw [HY.out] at hx
                    injection hx with hx
                    subst hx
                    rcases pLt_tri y (L k).2 with g | g | g
                    · have := (pB_pLt _ _).2 g
                      rw [HBE.out] at this; cases this
                    · exact absurd g hyx
                    · exact g)
                  clear hyx
                  go_wp2_with fail
                  refine wp_region_quiet_grown mixed (by kernel_rfl) ?_
                  repeat (go_big_quiet_step (fail))
                  refine wpQuiet_nil ?_
                  intro w6 hw'
                  have HG6 := Lib.hid (show Gro w5 w6 by obtain ⟨pp, h⟩ := hw'; exact ⟨pp.n, pp.os, h⟩)
                  clear hw'
                  have HT6 := Lib.hid (HT5.out.trans HG6.out)
                  have x0 := (HT6.out.below.cell (p := ⟨xb, 0, none⟩) HXB.out.2.2).trans HXB.out.1
                  have x1 := (HT6.out.below.cell (p := ⟨xb, 1, none⟩) HXB.out.2.2).trans HXB.out.2.1
                  have hxz : xb < w6.heap.size := Nat.lt_of_lt_of_le HXB.out.2.2 HT6.out.size
                  have x0 := cell_grown (by simpa using hxz) x0
                  have x1 := cell_grown (by simpa using hxz) x1
                  clear o0 o1 x0 x1
                  have x0 := (HT6.out.below.cell (p := ⟨xb, 0, none⟩) HXB.out.2.2).trans HXB.out.1
                  have x1 := (HT6.out.below.cell (p := ⟨xb, 1, none⟩) HXB.out.2.2).trans HXB.out.2.1
                  have HO6 := Lib.hid (own_later HO1.out HT6.out.below)
                  have HZ := Lib.hid (show out.length ≤ 1000000 by omega)
                  have HLN := Lib.hid (show (out.take a ++ [(L k).2] ++ out.drop a).length ≤ k + 1 by simp; omega)
                  rcases own_form2d HO6.out with ⟨hpn, -, -⟩ | ⟨q', hpq, hzc, hcm, hqB, hql⟩
                  · cases hpn
                  · obtain rfl : q = q' := by injection hpq with h; injection h
                    have hac : a ≤ cap := by omega
                    have hac1 : (a : Int) ≤ (cap : Int) := by omega
                    have haz : (a : Int) ≤ (out.length : Int) := by omega
                    have hca : ¬ cap = a := by omega
                    go_wp2_with (first | (at_builtin; refine wpList_append_row rfl (.tmp 105) (.tmp 108) 39 rfl w6.heap.size 43 i0 (.agg #[.int .i64 0, .int .i64 0]) 2 16 Try.underlying39 hi0 hz0 hz1 hz2 rfl (by decide) (.slice none 0 0) 0 [] rfl (World.ownsRow_nil _ _ _ _) _ a _ (idCells (out.take a)) rfl ?c1 ?c2 ?c3 ?c4 ?c5 ?c6 ?c7 ?_; (case c1 => intro h; cases h); (case c2 => rw [idCells_len, List.length_take]; omega); (case c3 => intro ad had j u hu; cases had; exact HO6.out.cells (g := q) rfl j u (idtake_get hu)); (case c4 => exact id_one); (case c5 => have := HZ.out; unfold maxLen; omega); (case c6 => have := HZ.out; omega); (case c7 => exact Nat.le_refl _); intro v1 w7 hown6 hgrow6 hat6; have hb6 := (RowKit.Below.refl w6.heap.size w6).grown hgrow6 (Nat.le_refl _) (by simp [Value.ownBlock]); have y0 := (hb6.cell (p := ⟨xb, 0, none⟩) hxz).trans x0; have y1 := (hb6.cell (p := ⟨xb, 1, none⟩) hxz).trans x1; clear hb6; have H6 := Lib.hid (And.intro hown6 hgrow6); clear hown6 hgrow6 hat6) | (at_builtin; refine wpList_append_own_at _ rfl (.tmp 110) (.tmp 112) 39 rfl w6.heap.size 43 i0 (.agg #[.int .i64 0, .int .i64 0]) 2 16 Try.underlying39 hi0 hz0 hz1 hz2 rfl (by decide) _ _ _ rfl (H6.out.1.alloc _) ⟨w7.heap.size, 0, none⟩ 1 1 [.int .i64 (L k).2.1, .int .i64 (L k).2.2] rfl rfl ?d1 ?d2 ?d3 ?d4 ?d5 ?_; (case d1 => exact cell_two_new _ _ _ _); (case d2 => intro u hu; simp at hu; rcases hu with hu | hu <;> (subst hu; rfl)); (case d3 => have := HZ.out; unfold maxLen; omega); (case d4 => have := HZ.out; omega); (case d5 => have := H6.out.2.size; simp; omega); intro v2 w8 hown7 hgrow7 hnil7 hat7; have H7 := Lib.hid (And.intro hown7 hgrow7); have HB7 := Lib.hid ((((RowKit.Below.refl w6.heap.size w6).grown H6.out.2 (Nat.le_refl _) (by simp [Value.ownBlock])).alloc H6.out.2.size _).grown hgrow7 (by have := H6.out.2.size; simp; omega) (fun j hj => (H6.out.1.lt j hj).1)); clear hown7 hgrow7 hnil7 hat7) | (at_builtin; refine wpList_append_row rfl (.tmp 114) (.tmp 117) 39 rfl w6.heap.size 43 i0 (.agg #[.int .i64 0, .int .i64 0]) 2 16 Try.underlying39 hi0 hz0 hz1 hz2 rfl (by decide) _ _ _ rfl H7.out.1 _ (out.length - a) _ (idCells (out.drop a)) rfl ?e1 ?e2 ?e3 ?e4 ?e5 ?e6 ?e7 ?_; (case e1 => intro h; cases h); (case e2 => rw [idCells_len, List.length_drop]); (case e3 => intro ad had j u hu; cases had; exact idsrc_get HO6.out HB7.out hql ha hu); (case e4 => exact id_one); (case e5 => have := HZ.out; unfold maxLen; omega); (case e6 => have := HZ.out; omega); (case e7 => exact HB7.out.size); intro v3 w9 hown8 hgrow8 hat8; have H8 := Lib.hid (And.intro hown8 hgrow8); clear hown8 hgrow8 hat8))
                    have HB8 := Lib.hid (HB7.out.grown H8.out.2 HB7.out.size (fun j hj => (H7.out.1.lt j hj).1))
                    have HOW8 := Lib.hid (show w9.ownsRow w6.heap.size 43 2 v3 (out.take a ++ [(L k).2] ++ out.drop a).length (idCells (out.take a ++ [(L k).2] ++ out.drop a)) from own_cast H8.out.1 (by simp; omega) (by simp [idCells]))
                    go_roundw
                    case rel => exact ⟨k + 1, _, by go_num, by omega, HP.out.ins HFV.out ha hlo.out HUP.out, HLN.out, own_base HOW8.out (Nat.le_trans HB1.out.size HT6.out.size), HB1.out.trans ((HT6.out.below.mono HB1.out.size).trans (HB8.out.mono (Nat.le_trans HB1.out.size HT6.out.size)))⟩
                    case measure => simp [intOf]; omega
              · have HLO := Lib.hid (show ∀ j x, j < a + 1 → out[j]? = some x → pLt x (L k).2 from fun j x hj hx => by
                  rcases Nat.lt_succ_iff_lt_or_eq.1 hj with g | g
                  · exact hlo.out j x g hx
                  · subst g
                    rw [HY.out] at hx
                    injection hx with hx
                    subst hx
                    exact (pB_pLt _ _).1 hbe)
                go_wp2_with fail
                refine wp_region_quiet_grown mixed (by kernel_rfl) ?_
                repeat (go_big_quiet_step ((go_at_call 45; exact Calls.grown_of (ref_before_b hbe _))))
                refine wpQuiet_nil ?_
                intro _ hw'
                obtain ⟨⟨nq, osq⟩, hw''⟩ := hw'
                subst hw''
                go_wp2
                go_roundw
                case rel => exact ⟨a + 1, by go_num, by omega, HLO.out, HG4.out.trans ⟨nq, osq, rfl⟩⟩
                case measure => simp [intOf]; omega
            · have hg1 : decide ((a : Int) < (out.length : Int)) = false := decide_eq_false (by omega)
              have hg2 : decide (a < out.length) = false := decide_eq_false hal
              go_wp2_with fail
              refine wp_region_quiet_grown mixed (by kernel_rfl) ?_
              repeat (go_big_quiet_step (fail))
              refine wpQuiet_nil ?_
              intro w5 hw'
              have HG5 := Lib.hid (show Gro w4 w5 by obtain ⟨pp, h⟩ := hw'; exact ⟨pp.n, pp.os, h⟩)
              clear hw'
              have HT5 := Lib.hid (HGT.out.trans HG5.out)
              have x0 := (HT5.out.below.cell (p := ⟨xb, 0, none⟩) HXB.out.2.2).trans HXB.out.1
              have x1 := (HT5.out.below.cell (p := ⟨xb, 1, none⟩) HXB.out.2.2).trans HXB.out.2.1
              have hxz : xb < w5.heap.size := Nat.lt_of_lt_of_le HXB.out.2.2 HT5.out.size
              have x0 := cell_grown (by simpa using hxz) x0
              have x1 := cell_grown (by simpa using hxz) x1
              cases fv
              · have HFK := Lib.hid HFV.out
                go_wp2_with fail
                refine wp_region_quiet_grown mixed (by kernel_rfl) ?_
                repeat (go_big_quiet_step (fail))
                refine wpQuiet_nil ?_
                intro w6 hw'
                have HG6 := Lib.hid (show Gro w5 w6 by obtain ⟨pp, h⟩ := hw'; exact ⟨pp.n, pp.os, h⟩)
                clear hw'
                have HT6 := Lib.hid (HT5.out.trans HG6.out)
                go_wp2
                go_roundw
                case rel => exact ⟨k + 1, out, by go_num, by omega, HP.out.skip (fun h => absurd h (by rw [HFK.out]; decide)), by omega, own_later HO1.out HT6.out.below, HB1.out.trans (HT6.out.below.mono HB1.out.size)⟩
                case measure => simp [intOf]; omega
              have HUP := Lib.hid (show ∀ x, out[a]? = some x → pLt (L k).2 x from fun x hx => by rw [List.getElem?_eq_none (by omega)] at hx; cases hx)
              go_wp2_with fail
              refine wp_region_quiet_grown mixed (by kernel_rfl) ?_
              repeat (go_big_quiet_step (fail))
              refine wpQuiet_nil ?_
              intro w6 hw'
              have HG6 := Lib.hid (show Gro w5 w6 by obtain ⟨pp, h⟩ := hw'; exact ⟨pp.n, pp.os, h⟩)
              clear hw'
              have HT6 := Lib.hid (HT5.out.trans HG6.out)
              have x0 := (HT6.out.below.cell (p := ⟨xb, 0, none⟩) HXB.out.2.2).trans HXB.out.1
              have x1 := (HT6.out.below.cell (p := ⟨xb, 1, none⟩) HXB.out.2.2).trans HXB.out.2.1
              have hxz : xb < w6.heap.size := Nat.lt_of_lt_of_le HXB.out.2.2 HT6.out.size
              have x0 := cell_grown (by simpa using hxz) x0
              have x1 := cell_grown (by simpa using hxz) x1
              clear x0 x1
              have x0 := (HT6.out.below.cell (p := ⟨xb, 0, none⟩) HXB.out.2.2).trans HXB.out.1
              have x1 := (HT6.out.below.cell (p := ⟨xb, 1, none⟩) HXB.out.2.2).trans HXB.out.2.1
              have HO6 := Lib.hid (own_later HO1.out HT6.out.below)
              have HZ := Lib.hid (show out.length ≤ 1000000 by omega)
              have HLN := Lib.hid (show (out.take a ++ [(L k).2] ++ out.drop a).length ≤ k + 1 by simp; omega)
              rcases own_form2d HO6.out with ⟨rfl, hz, hcz⟩ | ⟨q, rfl, hzc, hcm, hqB, hql⟩
              · obtain rfl : out = [] := List.length_eq_zero_iff.1 hz
                subst hcz
                obtain rfl : a = 0 := by simpa using ha
                go_wp2_with (first | (at_builtin; refine wpList_append_own_at _ rfl (.tmp 110) (.tmp 112) 39 rfl w6.heap.size 43 i0 (.agg #[.int .i64 0, .int .i64 0]) 2 16 Try.underlying39 hi0 hz0 hz1 hz2 rfl (by decide) (.slice none 0 0) 0 [] rfl ((World.ownsRow_nil _ _ _ _).alloc _) ⟨w6.heap.size, 0, none⟩ 1 1 [.int .i64 (L k).2.1, .int .i64 (L k).2.2] rfl rfl ?d1 ?d2 ?d3 ?d4 ?d5 ?_; (case d1 => exact cell_two_new _ _ _ _); (case d2 => intro u hu; simp at hu; rcases hu with hu | hu <;> (subst hu; rfl)); (case d3 => unfold maxLen; omega); (case d4 => omega); (case d5 => simp); intro v3 w9 hown7 hgrow7 hnil7 hat7; have H7 := Lib.hid (And.intro hown7 hgrow7); clear hown7 hgrow7 hnil7 hat7) | (at_builtin; refine wpList_append_own_none rfl (.tmp 114) (.tmp 117) 39 rfl w6.heap.size 43 i0 2 Try.underlying39 hi0 _ _ _ rfl H7.out.1 rfl ?_))
                have HB8 := Lib.hid (((RowKit.Below.refl w6.heap.size w6).alloc (Nat.le_refl _) _).grown H7.out.2 (by simp) (fun j hj => by simp [Value.ownBlock] at hj))
                have HOW8 := Lib.hid (show w9.ownsRow w6.heap.size 43 2 v3 (([] : List (Int × Int)).take 0 ++ [(L k).2] ++ ([] : List (Int × Int)).drop 0).length (idCells (([] : List (Int × Int)).take 0 ++ [(L k).2] ++ ([] : List (Int × Int)).drop 0)) from own_cast H7.out.1 (by simp) (by simp [idCells]))
                go_roundw
                case rel => exact ⟨k + 1, _, by go_num, by omega, HP.out.ins HFV.out ha hlo.out HUP.out, HLN.out, own_base HOW8.out (Nat.le_trans HB1.out.size HT6.out.size), HB1.out.trans ((HT6.out.below.mono HB1.out.size).trans (HB8.out.mono (Nat.le_trans HB1.out.size HT6.out.size)))⟩
                case measure => simp [intOf]; omega
              · have hac : a ≤ cap := by omega
                have hac1 : (a : Int) ≤ (cap : Int) := by omega
                have haz : (a : Int) ≤ (out.length : Int) := by omega
                by_cases hca : cap = a
                · obtain rfl : a = cap := hca.symm
                  have HDR := Lib.hid (show out.drop a = [] from List.drop_eq_nil_of_le hzc)
                  go_wp2_with (first | (at_builtin; refine wpList_append_row rfl (.tmp 105) (.tmp 108) 39 rfl w6.heap.size 43 i0 (.agg #[.int .i64 0, .int .i64 0]) 2 16 Try.underlying39 hi0 hz0 hz1 hz2 rfl (by decide) (.slice none 0 0) 0 [] rfl (World.ownsRow_nil _ _ _ _) _ a _ (idCells (out.take a)) rfl ?c1 ?c2 ?c3 ?c4 ?c5 ?c6 ?c7 ?_; (case c1 => intro h; cases h); (case c2 => rw [idCells_len, List.length_take]; omega); (case c3 => intro ad had j u hu; cases had; exact HO6.out.cells (g := q) rfl j u (idtake_get hu)); (case c4 => exact id_one); (case c5 => have := HZ.out; unfold maxLen; omega); (case c6 => have := HZ.out; omega); (case c7 => exact Nat.le_refl _); intro v1 w7 hown6 hgrow6 hat6; have hb6 := (RowKit.Below.refl w6.heap.size w6).grown hgrow6 (Nat.le_refl _) (by simp [Value.ownBlock]); have y0 := (hb6.cell (p := ⟨xb, 0, none⟩) hxz).trans x0; have y1 := (hb6.cell (p := ⟨xb, 1, none⟩) hxz).trans x1; clear hb6; have H6 := Lib.hid (And.intro hown6 hgrow6); clear hown6 hgrow6 hat6) | (at_builtin; refine wpList_append_own_at _ rfl (.tmp 110) (.tmp 112) 39 rfl w6.heap.size 43 i0 (.agg #[.int .i64 0, .int .i64 0]) 2 16 Try.underlying39 hi0 hz0 hz1 hz2 rfl (by decide) _ _ _ rfl (H6.out.1.alloc _) ⟨w7.heap.size, 0, none⟩ 1 1 [.int .i64 (L k).2.1, .int .i64 (L k).2.2] rfl rfl ?d1 ?d2 ?d3 ?d4 ?d5 ?_; (case d1 => exact cell_two_new _ _ _ _); (case d2 => intro u hu; simp at hu; rcases hu with hu | hu <;> (subst hu; rfl)); (case d3 => have := HZ.out; unfold maxLen; omega); (case d4 => have := HZ.out; omega); (case d5 => have := H6.out.2.size; simp; omega); intro v2 w8 hown7 hgrow7 hnil7 hat7; have H7 := Lib.hid (And.intro hown7 hgrow7); have HB7 := Lib.hid ((((RowKit.Below.refl w6.heap.size w6).grown H6.out.2 (Nat.le_refl _) (by simp [Value.ownBlock])).alloc H6.out.2.size _).grown hgrow7 (by have := H6.out.2.size; simp; omega) (fun j hj => (H6.out.1.lt j hj).1)); clear hown7 hgrow7 hnil7 hat7) | (at_builtin; refine wpList_append_row rfl (.tmp 114) (.tmp 117) 39 rfl w6.heap.size 43 i0 (.agg #[.int .i64 0, .int .i64 0]) 2 16 Try.underlying39 hi0 hz0 hz1 hz2 rfl (by decide) _ _ _ rfl H7.out.1 _ 0 _ [] rfl ?e1 ?e2 ?e3 ?e4 ?e5 ?e6 ?e7 ?_; (case e1 => intro h; cases h); (case e2 => rfl); (case e3 => intro ad had j u hu; simp at hu); (case e4 => intro u hu; simp at hu); (case e5 => have := HZ.out; unfold maxLen; omega); (case e6 => have := HZ.out; omega); (case e7 => exact HB7.out.size); intro v3 w9 hown8 hgrow8 hat8; have H8 := Lib.hid (And.intro hown8 hgrow8); clear hown8 hgrow8 hat8))
                  have HB8 := Lib.hid (HB7.out.grown H8.out.2 HB7.out.size (fun j hj => (H7.out.1.lt j hj).1))
                  have HOW8 := Lib.hid (show w9.ownsRow w6.heap.size 43 2 v3 (out.take a ++ [(L k).2] ++ out.drop a).length (idCells (out.take a ++ [(L k).2] ++ out.drop a)) from own_cast H8.out.1 (by rw [HDR.out]; simp; omega) (by rw [HDR.out]; simp [idCells]))
                  go_roundw
                  case rel => exact ⟨k + 1, _, by go_num, by omega, HP.out.ins HFV.out ha hlo.out HUP.out, HLN.out, own_base HOW8.out (Nat.le_trans HB1.out.size HT6.out.size), HB1.out.trans ((HT6.out.below.mono HB1.out.size).trans (HB8.out.mono (Nat.le_trans HB1.out.size HT6.out.size)))⟩
                  case measure => simp [intOf]; omega
                · go_wp2_with (first | (at_builtin; refine wpList_append_row rfl (.tmp 105) (.tmp 108) 39 rfl w6.heap.size 43 i0 (.agg #[.int .i64 0, .int .i64 0]) 2 16 Try.underlying39 hi0 hz0 hz1 hz2 rfl (by decide) (.slice none 0 0) 0 [] rfl (World.ownsRow_nil _ _ _ _) _ a _ (idCells (out.take a)) rfl ?c1 ?c2 ?c3 ?c4 ?c5 ?c6 ?c7 ?_; (case c1 => intro h; cases h); (case c2 => rw [idCells_len, List.length_take]; omega); (case c3 => intro ad had j u hu; cases had; exact HO6.out.cells (g := q) rfl j u (idtake_get hu)); (case c4 => exact id_one); (case c5 => have := HZ.out; unfold maxLen; omega); (case c6 => have := HZ.out; omega); (case c7 => exact Nat.le_refl _); intro v1 w7 hown6 hgrow6 hat6; have hb6 := (RowKit.Below.refl w6.heap.size w6).grown hgrow6 (Nat.le_refl _) (by simp [Value.ownBlock]); have y0 := (hb6.cell (p := ⟨xb, 0, none⟩) hxz).trans x0; have y1 := (hb6.cell (p := ⟨xb, 1, none⟩) hxz).trans x1; clear hb6; have H6 := Lib.hid (And.intro hown6 hgrow6); clear hown6 hgrow6 hat6) | (at_builtin; refine wpList_append_own_at _ rfl (.tmp 110) (.tmp 112) 39 rfl w6.heap.size 43 i0 (.agg #[.int .i64 0, .int .i64 0]) 2 16 Try.underlying39 hi0 hz0 hz1 hz2 rfl (by decide) _ _ _ rfl (H6.out.1.alloc _) ⟨w7.heap.size, 0, none⟩ 1 1 [.int .i64 (L k).2.1, .int .i64 (L k).2.2] rfl rfl ?d1 ?d2 ?d3 ?d4 ?d5 ?_; (case d1 => exact cell_two_new _ _ _ _); (case d2 => intro u hu; simp at hu; rcases hu with hu | hu <;> (subst hu; rfl)); (case d3 => have := HZ.out; unfold maxLen; omega); (case d4 => have := HZ.out; omega); (case d5 => have := H6.out.2.size; simp; omega); intro v2 w8 hown7 hgrow7 hnil7 hat7; have H7 := Lib.hid (And.intro hown7 hgrow7); have HB7 := Lib.hid ((((RowKit.Below.refl w6.heap.size w6).grown H6.out.2 (Nat.le_refl _) (by simp [Value.ownBlock])).alloc H6.out.2.size _).grown hgrow7 (by have := H6.out.2.size; simp; omega) (fun j hj => (H6.out.1.lt j hj).1)); clear hown7 hgrow7 hnil7 hat7) | (at_builtin; refine wpList_append_row rfl (.tmp 114) (.tmp 117) 39 rfl w6.heap.size 43 i0 (.agg #[.int .i64 0, .int .i64 0]) 2 16 Try.underlying39 hi0 hz0 hz1 hz2 rfl (by decide) _ _ _ rfl H7.out.1 _ (out.length - a) _ (idCells (out.drop a)) rfl ?e1 ?e2 ?e3 ?e4 ?e5 ?e6 ?e7 ?_; (case e1 => intro h; cases h); (case e2 => rw [idCells_len, List.length_drop]); (case e3 => intro ad had j u hu; cases had; exact idsrc_get HO6.out HB7.out hql ha hu); (case e4 => exact id_one); (case e5 => have := HZ.out; unfold maxLen; omega); (case e6 => have := HZ.out; omega); (case e7 => exact HB7.out.size); intro v3 w9 hown8 hgrow8 hat8; have H8 := Lib.hid (And.intro hown8 hgrow8); clear hown8 hgrow8 hat8))
                  have HB8 := Lib.hid (HB7.out.grown H8.out.2 HB7.out.size (fun j hj => (H7.out.1.lt j hj).1))
                  have HOW8 := Lib.hid (show w9.ownsRow w6.heap.size 43 2 v3 (out.take a ++ [(L k).2] ++ out.drop a).length (idCells (out.take a ++ [(L k).2] ++ out.drop a)) from own_cast H8.out.1 (by simp; omega) (by simp [idCells]))
                  go_roundw
                  case rel => exact ⟨k + 1, _, by go_num, by omega, HP.out.ins HFV.out ha hlo.out HUP.out, HLN.out, own_base HOW8.out (Nat.le_trans HB1.out.size HT6.out.size), HB1.out.trans ((HT6.out.below.mono HB1.out.size).trans (HB8.out.mono (Nat.le_trans HB1.out.size HT6.out.size)))⟩
                  case measure => simp [intOf]; omega
    · have HX := Lib.hid (show ∀ v6, v6 = u6 → DisR L C n w (.returned (.tuple #[v6, .int .i64 0])) wr from fun v6 e => by
        subst e
        obtain rfl : n = k := by omega
        exact ⟨_, rfl, _, _, HP.out.fin, HB.out, HO.out, Nat.le_refl _, by omega⟩)
      clear HO
      go_wp2
      go_ret2
      exact HX.out _ rfl
end Go.Proofs.Ytdhjmnehjmoilaa
