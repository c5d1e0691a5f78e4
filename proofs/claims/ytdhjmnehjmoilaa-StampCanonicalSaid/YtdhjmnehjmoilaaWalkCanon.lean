/-
  The walk of the statement on StampCanonical.
-/
import Derived.Test.YtdhjmnehjmoilaaLawKit
import Derived.Test.YtdhjmnehjmoilaaRefKnown
namespace Go.Proofs.Ytdhjmnehjmoilaa
open Go.RowKit
set_option linter.unusedSimpArgs false
set_option linter.unusedVariables false

theorem isRow_at {w w' : World} {o : Option Addr} {n c j : Nat} {zs : List Int} {u : Value} {ad : Addr} (h : IsRow .i64 w o n c zs) (hb : Below w.heap.size w w') (ho : o = some ad) (hu : ((zs.take n).map (Value.int .i64))[j]? = some u) : w'.cell? (ad.add j) = some u := by
  rcases h with ⟨rfl, _⟩ | ⟨x, rfl, hl, hm, hz, hc, hw⟩
  · cases ho
  · cases ho
    rw [List.getElem?_map, List.getElem?_take] at hu
    split at hu
    · rename_i hj
      have hjz : j < zs.length := by omega
      rw [List.getElem?_eq_getElem hjz] at hu
      simp at hu
      have hcj := hc j hjz
      have hbl := World.block_lt_of_cell? w _ hcj
      rw [hb.cell hbl, hcj, ← hu]
      simp [List.getD_eq_getElem?_getD, List.getElem?_eq_getElem hjz]
    · cases hu
theorem isRow_len {w : World} {o : Option Addr} {n c : Nat} {zs : List Int} (h : IsRow .i64 w o n c zs) : ((zs.take n).map (Value.int .i64)).length = n * 1 ∧ (o = none → n = 0 ∧ c = 0) ∧ n ≤ 9223372036854775807 := by
  rcases h with ⟨rfl, rfl, rfl, rfl⟩ | ⟨x, rfl, hl, hm, hz, hc, hw⟩
  · simp
  · refine ⟨by simp; omega, (fun h => by cases h), by unfold maxLen at hm; omega⟩
set_option maxRecDepth 100000 in
set_option maxHeartbeats 8000000 in
theorem walkStampCanonical (o : Option Addr) (n c : Nat) (zs : List Int) (o2 : Option Addr) (n2 c2' : Nat) (zs2 : List Int) (w : World) (h0 : IsRow .i64 w o n c zs) (k0 : IsRow .i64 w o2 n2 c2' zs2) :
    Calls Try.prog 4 #[.slice o n c, .slice o2 n2 c2'] w fun e w' => e = .returned (.bool true) ∧ Below w.heap.size w w' := by
  have HK := Lib.hid k0
  obtain ⟨hk1, hk2, hk3⟩ := isRow_len k0
  have HK1 := Lib.hid hk1
  have HK2 := Lib.hid hk2
  obtain ⟨i0, hi0, hz0, hz1, hz2⟩ := info_parts int_info
  clear k0 hk1 hk2
  obtain ⟨hr, h1, h2, h3⟩ := row_of h0
  go_enter Try.func4, Try.ntmps4
  go_wp2_with fail
  refine (tape_new hr h1 h2 h3).mono ?_
  rintro e w1 ⟨g, n9, rfl, ht1, hb1, hg⟩
  have HB1 := Lib.hid hb1
  clear hb1 hr h1 h2 h3
  go_wp2_with fail
  refine (events_any 14 6 (by omega) (by omega) (by omega) (by omega) ht1).mono ?_
  rintro e w2 ⟨vl, vc, ls, cs, rfl, hev, hlm⟩
  have HEV := Lib.hid hev
  have HB2 := Lib.hid (HB1.out.trans (grown_below hev.gr hg HB1.out.size))
  obtain ⟨pl, capl, hvl, -⟩ := own_any hev.rl
  obtain ⟨pc, capc, hvc, -⟩ := own_any hev.rc
  rw [hev.len] at hvc
  subst hvl
  subst hvc
  clear hev ht1
  obtain ⟨hrs, -, hcl⟩ := rowS_own HEV.out.rl
  obtain ⟨hrc, -, hcc⟩ := rowI_own HEV.out.rc
  rw [HEV.out.len] at hrc
  have HRS := Lib.hid hrs
  have HRC := Lib.hid hrc
  have hl14 : ls.length ≤ 100 := by omega
  clear hrs hrc
  go_wp2_with fail
  refine (tape_one 10 (by omega) (by omega) HEV.out.tp).mono ?_
  rintro e w3 ⟨b10, rfl, ht3, hg3⟩
  have HEV3 := Lib.hid (HEV.out.on ht3 hg3)
  clear ht3 hg3 HRS HRC HEV HB2
  cases b10
  · obtain ⟨hrs, -, -⟩ := rowS_own HEV3.out.rl
    obtain ⟨hrc, -, -⟩ := rowI_own HEV3.out.rc
    rw [HEV3.out.len] at hrc
    have HRSA := Lib.hid hrs
    have HRCA := Lib.hid hrc
    have HBA := Lib.hid (HB1.out.trans (grown_below HEV3.out.gr hg HB1.out.size))
    clear hrs hrc
    go_wp2_with fail
    refine (canon_any pl pc ls.length capl capc (lsF ls) (csF cs) _ HRSA.out HRCA.out (by omega)).mono ?_
    rintro e w4 ⟨v, code, rfl, hv⟩
    have HV := Lib.hid hv
    have HB4 := Lib.hid (HBA.out.trans (hv.below.mono HBA.out.size))
    have HRS4 := Lib.hid ((HRSA.out.below hv.below (Nat.le_refl _)).more hv.below.size)
    have HRC4 := Lib.hid ((HRCA.out.below hv.below (Nat.le_refl _)).more hv.below.size)
    clear hv
    go_wp2_with fail
    refine (rcanon_any pl pc ls.length capl capc (lsF ls) (csF cs) _ HRS4.out HRC4.out (by omega)).mono ?_
    rintro e w5 ⟨v', code', rfl, hv'⟩
    have HB5 := Lib.hid (HB4.out.trans (hv'.below.mono HB4.out.size))
    obtain ⟨rfl, p1, c1, p2, c2, m, D, rfl, rfl, hd1, hd2, hm3⟩ := HV.out.pair hv'
    have HD1 := Lib.hid ((hd1.below hv'.below (Nat.le_refl _)).more hv'.below.size)
    have HD2 := Lib.hid hd2
    clear hv' hd1 hd2 HV HRS4 HRC4
    go_wp2_with fail
    refine (same_yes p1 p2 m c1 c2 _ _ D _ HD1.out HD2.out (by omega)).mono ?_
    rintro e w7 ⟨rfl, k7, hk7⟩
    have HB7 := Lib.hid (HB5.out.trans ((show Below w5.heap.size w5 w7 by rw [hk7]; exact bDr (Below.refl _ _) k7).mono HB5.out.size))
    clear hk7
    go_wp2_with fail
    refine (awake_any _).mono ?_
    rintro e w8 ⟨rfl, hb8⟩
    have HB8 := Lib.hid (HB7.out.trans (hb8.mono HB7.out.size))
    clear hb8
    go_wp2
    go_ret
    exact ⟨rfl, HB8.out⟩
  · by_cases hs : (n2 : Int) < 20
    · have hs9 : n2 < 20 := by omega
      have HW3 := Lib.hid (HB1.out.trans (grown_below HEV3.out.gr hg HB1.out.size))
      have HLEN := Lib.hid HEV3.out.len
      go_wp2_with (at_builtin; refine wpList_append_row rfl (.tmp 26) (.tmp 27) 28 rfl w1.heap.size 3 i0 (.int .i64 0) 1 8 Try.underlying28 hi0 hz0 hz1 hz2 rfl (by decide) _ cs.length (cs.map (Value.int .i64)) rfl HEV3.out.rc _ n2 _ ((zs2.take n2).map (Value.int .i64)) rfl HK2.out HK1.out ?c3 ?c4 ?c5 ?c6 ?c7 ?_; (case c3 => intro ad had j u hu; exact isRow_at HK.out HW3.out had hu); (case c4 => intro u hu; obtain ⟨x, _, rfl⟩ := List.mem_map.1 hu; rfl); (case c5 => have := HLEN.out; unfold maxLen; omega); (case c6 => have := HLEN.out; omega); (case c7 => exact HEV3.out.gr.size); intro vc' wA hownA hgrowA hatA; have HA := Lib.hid (And.intro hownA hgrowA); clear hownA hgrowA hatA)
      obtain ⟨hrs, -, -⟩ := rowS_own (HEV3.out.rl.kept HA.out.2 (own_apart HEV3.out.rl HEV3.out.rc (by decide)))
      have HRSA := Lib.hid hrs
      have HBA := Lib.hid (HW3.out.grown HA.out.2 (Nat.le_trans HB1.out.size HEV3.out.gr.size) (fun j hj => Nat.le_trans HB1.out.size (HEV3.out.rc.lt j hj).1))
      clear hrs
      obtain ⟨pa, capa, hva, -⟩ := own_any HA.out.1
      by_cases hz : n2 = 0
      · have hcs : wA.ownsRow w1.heap.size 3 1 (.slice pa ls.length capa) cs.length (cs.map (Value.int .i64)) := by
          have := HA.out.1
          rw [hva, hz, HLEN.out] at this
          simpa [HLEN.out] using this
        rw [hz, Nat.add_zero, HLEN.out] at hva
        subst hva
        obtain ⟨hrc, -, -⟩ := rowI_own hcs
        rw [HLEN.out] at hrc
        have HRCA := Lib.hid hrc
        clear hrc hcs hz
        go_wp2_with fail
        refine (canon_any pl pa ls.length capl capa (lsF ls) (csF cs) _ HRSA.out HRCA.out (by omega)).mono ?_
        rintro e w4 ⟨v, code, rfl, hv⟩
        have HV := Lib.hid hv
        have HB4 := Lib.hid (HBA.out.trans (hv.below.mono HBA.out.size))
        have HRS4 := Lib.hid ((HRSA.out.below hv.below (Nat.le_refl _)).more hv.below.size)
        have HRC4 := Lib.hid ((HRCA.out.below hv.below (Nat.le_refl _)).more hv.below.size)
        clear hv
        go_wp2_with fail
        refine (rcanon_any pl pa ls.length capl capa (lsF ls) (csF cs) _ HRS4.out HRC4.out (by omega)).mono ?_
        rintro e w5 ⟨v', code', rfl, hv'⟩
        have HB5 := Lib.hid (HB4.out.trans (hv'.below.mono HB4.out.size))
        obtain ⟨rfl, p1, c1, p2, c2, m, D, rfl, rfl, hd1, hd2, hm3⟩ := HV.out.pair hv'
        have HD1 := Lib.hid ((hd1.below hv'.below (Nat.le_refl _)).more hv'.below.size)
        have HD2 := Lib.hid hd2
        clear hv' hd1 hd2 HV HRS4 HRC4
        go_wp2_with fail
        refine (same_yes p1 p2 m c1 c2 _ _ D _ HD1.out HD2.out (by omega)).mono ?_
        rintro e w7 ⟨rfl, k7, hk7⟩
        have HB7 := Lib.hid (HB5.out.trans ((show Below w5.heap.size w5 w7 by rw [hk7]; exact bDr (Below.refl _ _) k7).mono HB5.out.size))
        clear hk7
        go_wp2_with fail
        refine (awake_any _).mono ?_
        rintro e w8 ⟨rfl, hb8⟩
        have HB8 := Lib.hid (HB7.out.trans (hb8.mono HB7.out.size))
        clear hb8
        go_wp2
        go_ret
        exact ⟨rfl, HB8.out⟩
      · subst hva
        have hlen9 := HLEN.out
        have HNE := Lib.hid (show cs.length + n2 ≠ ls.length by omega)
        clear hlen9
        go_wp2_with fail
        refine (canon_bad pl pa ls.length (cs.length + n2) capl capa _ HNE.out).mono ?_
        rintro e w4 ⟨rfl, hb4⟩
        have HB4 := Lib.hid (HBA.out.trans (hb4.mono HBA.out.size))
        clear hb4
        go_wp2_with fail
        refine (rcanon_bad pl pa ls.length (cs.length + n2) capl capa _ HNE.out).mono ?_
        rintro e w5 ⟨rfl, rfl⟩
        go_wp2_with fail
        refine (same_yes none none 0 0 0 0 0 (fun _ => 0) _ (fun i hi => absurd hi (Nat.not_lt_zero _)) (fun i hi => absurd hi (Nat.not_lt_zero _)) (by omega)).mono ?_
        rintro e w7 ⟨rfl, k7, hk7⟩
        have HB7 := Lib.hid (HB4.out.trans ((show Below w4.heap.size w4 w7 by rw [hk7]; exact bDr (Below.refl _ _) k7).mono HB4.out.size))
        clear hk7
        go_wp2_with fail
        refine (awake_any _).mono ?_
        rintro e w8 ⟨rfl, hb8⟩
        have HB8 := Lib.hid (HB7.out.trans (hb8.mono HB7.out.size))
        clear hb8
        go_wp2
        go_ret
        exact ⟨rfl, HB8.out⟩
    · obtain ⟨hrs, -, -⟩ := rowS_own HEV3.out.rl
      obtain ⟨hrc, -, -⟩ := rowI_own HEV3.out.rc
      rw [HEV3.out.len] at hrc
      have HRSA := Lib.hid hrs
      have HRCA := Lib.hid hrc
      have HBA := Lib.hid (HB1.out.trans (grown_below HEV3.out.gr hg HB1.out.size))
      clear hrs hrc
      go_wp2_with fail
      refine (canon_any pl pc ls.length capl capc (lsF ls) (csF cs) _ HRSA.out HRCA.out (by omega)).mono ?_
      rintro e w4 ⟨v, code, rfl, hv⟩
      have HV := Lib.hid hv
      have HB4 := Lib.hid (HBA.out.trans (hv.below.mono HBA.out.size))
      have HRS4 := Lib.hid ((HRSA.out.below hv.below (Nat.le_refl _)).more hv.below.size)
      have HRC4 := Lib.hid ((HRCA.out.below hv.below (Nat.le_refl _)).more hv.below.size)
      clear hv
      go_wp2_with fail
      refine (rcanon_any pl pc ls.length capl capc (lsF ls) (csF cs) _ HRS4.out HRC4.out (by omega)).mono ?_
      rintro e w5 ⟨v', code', rfl, hv'⟩
      have HB5 := Lib.hid (HB4.out.trans (hv'.below.mono HB4.out.size))
      obtain ⟨rfl, p1, c1, p2, c2, m, D, rfl, rfl, hd1, hd2, hm3⟩ := HV.out.pair hv'
      have HD1 := Lib.hid ((hd1.below hv'.below (Nat.le_refl _)).more hv'.below.size)
      have HD2 := Lib.hid hd2
      clear hv' hd1 hd2 HV HRS4 HRC4
      go_wp2_with fail
      refine (same_yes p1 p2 m c1 c2 _ _ D _ HD1.out HD2.out (by omega)).mono ?_
      rintro e w7 ⟨rfl, k7, hk7⟩
      have HB7 := Lib.hid (HB5.out.trans ((show Below w5.heap.size w5 w7 by rw [hk7]; exact bDr (Below.refl _ _) k7).mono HB5.out.size))
      clear hk7
      go_wp2_with fail
      refine (awake_any _).mono ?_
      rintro e w8 ⟨rfl, hb8⟩
      have HB8 := Lib.hid (HB7.out.trans (hb8.mono HB7.out.size))
      clear hb8
      go_wp2
      go_ret
      exact ⟨rfl, HB8.out⟩
end Go.Proofs.Ytdhjmnehjmoilaa
