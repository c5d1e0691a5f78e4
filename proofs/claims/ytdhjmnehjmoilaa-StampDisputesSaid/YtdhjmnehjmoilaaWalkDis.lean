/-
  The walk of the statement on StampDisputes.
-/
import Derived.Test.YtdhjmnehjmoilaaLawKit
import Derived.Test.YtdhjmnehjmoilaaWalkGrows
import Derived.Test.YtdhjmnehjmoilaaRefDisT
import Derived.Laws.StructEq
namespace Go.Proofs.Ytdhjmnehjmoilaa
open Go.RowKit
set_option linter.unusedSimpArgs false
set_option linter.unusedVariables false

theorem neqId (a b c d : Int) (w : World) : (binOp .neq 43 (.agg #[.int .i64 a, .int .i64 b]) (.agg #[.int .i64 c, .int .i64 d])).run Try.prog w = .ok (.bool (!decide ((a, b) = (c, d)))) w := by
  have h := eqlId a b c d w
  rw [run_eql_struct] at h
  rw [run_neq_struct]
  cases hr : ((Op.equalIn 10000 43 (.agg #[.int .i64 a, .int .i64 b]) (.agg #[.int .i64 c, .int .i64 d])).run Try.prog w) with
  | ok r w1 =>
    rw [hr] at h
    simp only [Result.andThen_ok, Result.ok.injEq, Value.bool.injEq] at h ⊢
    exact ⟨by rw [h.1], h.2⟩
  | halt x w1 => rw [hr] at h; simp [Result.andThen] at h
theorem rowD_below {w w' : World} {o : Option Addr} {d : List (Int × Int)} (h : RowD w o d) (hb : RowKit.Below w.heap.size w w') : RowD w' o d := fun i hi => by
  obtain ⟨b, h1, h2, h3, h4⟩ := h i hi
  exact ⟨b, h1, Nat.lt_of_lt_of_le h2 hb.size, (hb.cell (p := ⟨b, i * 2, none⟩) h2).trans h3, (hb.cell (p := ⟨b, i * 2 + 1, none⟩) h2).trans h4⟩
set_option maxRecDepth 100000 in
set_option maxHeartbeats 8000000 in
theorem walkStampDisputes (o : Option Addr) (n c : Nat) (zs : List Int) (w : World) (h0 : IsRow .i64 w o n c zs) :
    Calls Try.prog 5 #[.slice o n c] w fun e w' => e = .returned (.bool true) ∧ Below w.heap.size w w' := by
  obtain ⟨i0, hi0, hz0, hz1, hz2⟩ := info_parts int_info
  obtain ⟨hr, h1, h2, h3⟩ := row_of h0
  go_enter Try.func5, Try.ntmps5
  go_wp2_with fail
  refine (tape_new hr h1 h2 h3).mono ?_
  rintro e w1 ⟨g, n9, rfl, ht1, hb1, hg⟩
  have HB1 := Lib.hid hb1
  clear hb1 hr h1 h2 h3
  go_wp2_with fail
  refine (events_any 14 6 (by omega) (by omega) (by omega) (by omega) ht1).mono ?_
  rintro e w2 ⟨vl, vc, ls, cs, rfl, hev, hlm⟩
  have HEV := Lib.hid hev
  have HB2 := Lib.hid (HB1.out.trans (grown_below hev.gr hg HB1.out.size))
  obtain ⟨pl, capl, hvl, -⟩ := own_any hev.rl
  obtain ⟨pc, capc, hvc, -⟩ := own_any hev.rc
  rw [hev.len] at hvc
  subst hvl
  subst hvc
  clear hev ht1
  obtain ⟨hrs, -, hcl⟩ := rowS_own HEV.out.rl
  obtain ⟨hrc, -, hcc⟩ := rowI_own HEV.out.rc
  rw [HEV.out.len] at hrc
  have HRS := Lib.hid hrs
  have HRC := Lib.hid hrc
  have hl14 : ls.length ≤ 100 := by omega
  clear hrs hrc
  go_wp2_with fail
  refine (tape_one 10 (by omega) (by omega) HEV.out.tp).mono ?_
  rintro e w3 ⟨b10, rfl, ht3, hg3⟩
  have HEV3 := Lib.hid (HEV.out.on ht3 hg3)
  clear ht3 hg3 HRS HRC HEV HB2
  cases b10
  · obtain ⟨hrs, -, -⟩ := rowS_own HEV3.out.rl
    obtain ⟨hrc, -, -⟩ := rowI_own HEV3.out.rc
    rw [HEV3.out.len] at hrc
    have HRSA := Lib.hid hrs
    have HRCA := Lib.hid hrc
    have HBA := Lib.hid (HB1.out.trans (grown_below HEV3.out.gr hg HB1.out.size))
    clear hrs hrc
    go_wp2_with fail
    refine (dis_any pl pc ls.length capl capc (lsF ls) (csF cs) _ HRSA.out HRCA.out (by omega)).mono ?_
    rintro e w4 ⟨v, rfl, outd, B4, hod, hb4, hown4, -, hdl⟩
    obtain ⟨pd, cd, rfl, -⟩ := own_any hown4
    have HB4 := Lib.hid (HBA.out.trans (hb4.mono HBA.out.size))
    have HRS4 := Lib.hid ((HRSA.out.below hb4 (Nat.le_refl _)).more hb4.size)
    have HRC4 := Lib.hid ((HRCA.out.below hb4 (Nat.le_refl _)).more hb4.size)
    have HDD4 := Lib.hid (rowD_own hown4)
    have HOD := Lib.hid hod
    clear hb4 hown4 hod HRSA HRCA
    go_wp2_with fail
    refine (rdis_any pl pc ls.length capl capc (lsF ls) (csF cs) _ HRS4.out HRC4.out (by omega)).mono ?_
    rintro e w5 ⟨v, rfl, outr, B5, hor, hb5, hown5, -, hrl⟩
    obtain rfl := hor.unique HOD.out
    obtain ⟨pr, cr, rfl, -⟩ := own_any hown5
    have HB5 := Lib.hid (HB4.out.trans (hb5.mono HB4.out.size))
    have HDD5 := Lib.hid (rowD_below HDD4.out hb5)
    have HDR5 := Lib.hid (rowD_own hown5)
    have hld : outr.length ≤ 100 := by omega
    have hl2 : (((outr.length : Nat) : Int) != (outr.length : Int)) = false := by simp
    clear hb5 hown5 hor hrl HRS4 HRC4 HDD4 HBA HEV3
    go_wp2_with fail
    go_loopw [10] (fun i wr => ∃ k m : Nat, i = .int .i64 k ∧ k ≤ outr.length ∧ wr = w5.drewN m) (fun i _ => outr.length - (intOf i).toNat)
    case atStart => exact ⟨0, 0, rfl, Nat.zero_le _, by simp [World.drewN]⟩
    case round =>
      obtain ⟨i, mi, rfl, hi, rfl⟩ := hrel
      by_cases hin : i < outr.length
      · have hin' : (i : Int) < (outr.length : Int) := by omega
        obtain ⟨bd, rfl, -, gd0, gd1⟩ := HDD5.out i hin
        obtain ⟨br, rfl, -, gr0, gr1⟩ := HDR5.out i hin
        generalize outr.getD i (0, 0) = y at gd0 gd1 gr0 gr1
        have hne : ∀ W, (binOp .neq 43 (.agg #[.int .i64 y.1, .int .i64 y.2]) (.agg #[.int .i64 y.1, .int .i64 y.2])).run Try.prog W = .ok (.bool false) W := fun W => by rw [neqId, decide_eq_true rfl]; rfl
        go_wp2
        go_quiet (fail)
        go_wp2
        go_roundw
        case rel => exact ⟨i + 1, mi + nq, by go_num, by omega, by first | rfl | rw [World.drewN_drewN]⟩
        case measure => simp [intOf]; omega
      · have HB7 := Lib.hid (HB5.out.trans ((bDr (Below.refl _ _) mi).mono HB5.out.size))
        go_wp2_with fail
        refine (awake_any _).mono ?_
        rintro e w8 ⟨rfl, hb8⟩
        have HB8 := Lib.hid (HB7.out.trans (hb8.mono HB7.out.size))
        clear hb8
        go_wp2
        go_ret
        exact ⟨rfl, HB8.out⟩
  · have HW3 := Lib.hid (HB1.out.trans (grown_below HEV3.out.gr hg HB1.out.size))
    have HLEN := Lib.hid HEV3.out.len
    go_wp2_with (at_builtin; refine wpList_append_own_at _ rfl (.tmp 20) (.tmp 21) 28 rfl w1.heap.size 3 i0 (.int .i64 0) 1 8 Try.underlying28 hi0 hz0 hz1 hz2 rfl (by decide) _ _ _ rfl (HEV3.out.rc.alloc _) ⟨w3.heap.size, 0, none⟩ 1 1 [.int .i64 0] rfl rfl ?d1 ?d2 ?d3 ?d4 ?d5 ?_; (case d1 => exact cell_one_new _ _ _); (case d2 => intro u hu; simp at hu; subst hu; rfl); (case d3 => have := HLEN.out; unfold maxLen; omega); (case d4 => have := HLEN.out; omega); (case d5 => have := HEV3.out.gr.size; simp; omega); intro vc' wA hownA hgrowA hnilA hatA; have HA := Lib.hid (And.intro hownA hgrowA); clear hownA hgrowA hnilA hatA)
    have HBA := Lib.hid ((HW3.out.alloc (Nat.le_trans HB1.out.size HEV3.out.gr.size) _).grown HA.out.2 (by have h1 := HB1.out.size; have h2 := HEV3.out.gr.size; simp; omega) (fun j hj => Nat.le_trans HB1.out.size (HEV3.out.rc.lt j hj).1))
    obtain ⟨pa, capa, hva, -⟩ := own_any HA.out.1
    subst hva
    have hlen9 := HLEN.out
    have HNE := Lib.hid (show cs.length + 1 ≠ ls.length by omega)
    clear hlen9
    go_wp2_with fail
    refine (dis_bad pl pa ls.length (cs.length + 1) capl capa _ HNE.out).mono ?_
    rintro e w4 ⟨rfl, rfl⟩
    go_wp2_with fail
    refine (rdis_bad pl pa ls.length (cs.length + 1) capl capa _ HNE.out).mono ?_
    rintro e w5 ⟨rfl, rfl⟩
    go_wp2_with fail
    go_loopw [10] (fun i wr => i = .int .i64 0 ∧ wr = wA) (fun i _ => 0)
    case atStart => exact ⟨rfl, rfl⟩
    case round =>
      obtain ⟨rfl, rfl⟩ := hrel
      have HB7 := HBA
      go_wp2_with fail
      refine (awake_any _).mono ?_
      rintro e w8 ⟨rfl, hb8⟩
      have HB8 := Lib.hid (HB7.out.trans (hb8.mono HB7.out.size))
      clear hb8
      go_wp2
      go_ret
      exact ⟨rfl, HB8.out⟩
end Go.Proofs.Ytdhjmnehjmoilaa
