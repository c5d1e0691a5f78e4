/-
  The walk of the statement on StampKnows.
-/
import Derived.Test.YtdhjmnehjmoilaaLawKit
import Derived.Test.YtdhjmnehjmoilaaRefKnown
import Derived.Deep.RegionHeld3
namespace Go.Proofs.Ytdhjmnehjmoilaa
open Go.RowKit
set_option linter.unusedSimpArgs false
set_option linter.unusedVariables false

set_option maxRecDepth 100000 in
set_option maxHeartbeats 8000000 in
theorem walkStampKnows (o : Option Addr) (n c : Nat) (zs : List Int) (a1 : Int) (w : World) (h0 : IsRow .i64 w o n c zs) (l1 : -9223372036854775808 ≤ a1) (u1 : a1 < 9223372036854775808) :
    Calls Try.prog 7 #[.slice o n c, .int .i64 a1] w fun e w' => e = .returned (.bool true) ∧ Below w.heap.size w w' := by
  obtain ⟨hr, h1, h2, h3⟩ := row_of h0
  go_enter Try.func7, Try.ntmps7
  go_wp2_with fail
  refine (tape_new hr h1 h2 h3).mono ?_
  rintro e w1 ⟨g, n9, rfl, ht1, hb1, hg⟩
  have HB1 := Lib.hid hb1
  clear hb1 hr h1 h2 h3
  go_wp2_with fail
  refine (events_any 14 6 (by omega) (by omega) (by omega) (by omega) ht1).mono ?_
  rintro e w2 ⟨vl, vc, ls, cs, rfl, hev, hlm⟩
  have HEV := Lib.hid hev
  have HB2 := Lib.hid (HB1.out.trans (grown_below hev.gr hg HB1.out.size))
  obtain ⟨pl, capl, hvl, -⟩ := own_any hev.rl
  obtain ⟨pc, capc, hvc, -⟩ := own_any hev.rc
  rw [hev.len] at hvc
  subst hvl
  subst hvc
  clear hev ht1
  obtain ⟨hrs, -, hcl⟩ := rowS_own HEV.out.rl
  obtain ⟨hrc, -, hcc⟩ := rowI_own HEV.out.rc
  rw [HEV.out.len] at hrc
  have HRS := Lib.hid hrs
  have HRC := Lib.hid hrc
  have hl14 : ls.length ≤ 100 := by omega
  clear hrs hrc
  go_wp2_with fail
  refine (tape_range 0 (ls.length : Int) (by omega) (by omega) (by omega) HEV.out.tp).mono ?_
  rintro e w3 ⟨kk, ⟨hkk0, hkk1⟩, rfl, ht3, hg3⟩
  obtain ⟨kk, rfl⟩ := Int.eq_ofNat_of_zero_le hkk0
  have HEV3 := Lib.hid (HEV.out.on ht3 hg3)
  clear ht3 hg3 HRS HRC HEV HB2 hkk0
  obtain ⟨hrs, -, -⟩ := rowS_own HEV3.out.rl
  obtain ⟨hrc, -, -⟩ := rowI_own HEV3.out.rc
  rw [HEV3.out.len] at hrc
  have HRSA := Lib.hid hrs
  have HRCA := Lib.hid hrc
  have HBA := Lib.hid (HB1.out.trans (grown_below HEV3.out.gr hg HB1.out.size))
  clear hrs hrc
  by_cases hr : a1 < 0 ∨ (ls.length : Int) < a1
  · go_wp2_with fail
    refine (known_range pl pc ls.length capl capc a1 _ hr).mono ?_
    rintro e w4 ⟨rfl, rfl⟩
    go_wp2_with fail
    refine (rknown_range pl pc ls.length capl capc a1 _ hr).mono ?_
    rintro e w5 ⟨rfl, rfl⟩
    clear hr
    obtain ⟨p1, hp1⟩ : ∃ p : Option Addr, p = none := ⟨_, rfl⟩
    have HDA := Lib.hid (show RowI w3 w3.heap.size none 0 (fun _ => 0) from fun i hi => absurd hi (Nat.not_lt_zero _))
    have HDB := Lib.hid (show RowI w3 w3.heap.size none 0 (fun _ => 0) from fun i hi => absurd hi (Nat.not_lt_zero _))
    have HRSB := HRSA
    have HRCB := HRCA
    have HBB := HBA
    clear hp1 p1
    have hkl : (kk : Int) ≤ (ls.length : Int) := by omega
    go_wp2_with fail
    refine (known_any pl pc ls.length capl capc (lsF ls) (csF cs) kk _ HRSB.out HRCB.out (by omega) (by omega) (by omega) (by omega)).mono ?_
    rintro e w6 ⟨v, code3, rfl, hv⟩
    have HV6 := Lib.hid hv
    have HB6 := Lib.hid (HBB.out.trans (hv.below.mono HBB.out.size))
    have HRS6 := Lib.hid (((HRSB.out.below hv.below (Nat.le_refl _)).more hv.below.size).less (show kk ≤ ls.length by omega))
    have HRC6 := Lib.hid (((HRCB.out.below hv.below (Nat.le_refl _)).more hv.below.size).less (show kk ≤ ls.length by omega))
    have HDA6 := Lib.hid ((HDA.out.below hv.below (Nat.le_refl _)).more hv.below.size)
    have HDB6 := Lib.hid ((HDB.out.below hv.below (Nat.le_refl _)).more hv.below.size)
    have hkc : (kk : Int) ≤ (capl : Int) := by omega
    have hkc' : (kk : Int) ≤ (capc : Int) := by omega
    have HKN := Lib.hid (show kk ≤ 1000000 by omega)
    have hkk0 : (0 : Int) ≤ (kk : Int) := by omega
    clear hv HRSB HRCB HDA HDB
    go_wp2_with fail
    go_region_held3 (fun w' => 0 ≤ w'.heap.size) (exact Nat.zero_le _) ((go_at_call 20; refine (canon_any _ _ _ _ _ (lsF ls) (csF cs) _ (by first | exact HRS6.out) (by first | exact HRC6.out) HKN.out).mono ?_; rintro e w7 ⟨v7, code7, rfl, hv7⟩; have HV7 := Lib.hid hv7; clear hv7))
    have HW7 := Lib.hid (show CanonV (lsF ls) (csF cs) kk w6 w7 v7 code7 by first | exact HV7.out.ofDrew | exact HV7.out)
    clear HV7
    obtain ⟨hcode, p3, c3, p4, c4, m3, D3, hv3, hv4, hd3, hd4, hm4⟩ := HV6.out.pair HW7.out
    subst hcode
    subst hv3
    subst hv4
    have HB7 := Lib.hid (HB6.out.trans (HW7.out.below.mono HB6.out.size))
    have HD3 := Lib.hid ((hd3.below HW7.out.below (Nat.le_refl _)).more HW7.out.below.size)
    have HD4 := Lib.hid hd4
    have HDA7 := Lib.hid ((HDA6.out.below HW7.out.below (Nat.le_refl _)).more HW7.out.below.size)
    have HDB7 := Lib.hid ((HDB6.out.below HW7.out.below (Nat.le_refl _)).more HW7.out.below.size)
    clear hd3 hd4 HW7 HV6
    go_wp2_with fail
    refine (same_yes none none 0 0 0 _ _ (fun _ => 0) _ HDA7.out HDB7.out (by omega)).mono ?_
    rintro e w8 ⟨rfl, k8, hk8⟩
    have hb8 : Below w7.heap.size w7 w8 := by rw [hk8]; exact bDr (Below.refl _ _) k8
    have HB8 := Lib.hid (HB7.out.trans (hb8.mono HB7.out.size))
    have HD38 := Lib.hid ((HD3.out.below hb8 (Nat.le_refl _)).more hb8.size)
    have HD48 := Lib.hid ((HD4.out.below hb8 (Nat.le_refl _)).more hb8.size)
    clear hk8 hb8
    go_wp2_with fail
    refine (same_yes p3 p4 m3 c3 c4 _ _ D3 _ HD38.out HD48.out (by omega)).mono ?_
    rintro e w9 ⟨rfl, k9, hk9⟩
    have HB9 := Lib.hid (HB8.out.trans ((show Below w8.heap.size w8 w9 by rw [hk9]; exact bDr (Below.refl _ _) k9).mono HB8.out.size))
    clear hk9
    go_wp2_with fail
    refine (awake_any _).mono ?_
    rintro e w10 ⟨rfl, hb10⟩
    have HB10 := Lib.hid (HB9.out.trans (hb10.mono HB9.out.size))
    clear hb10
    go_wp2
    go_ret
    exact ⟨rfl, HB10.out⟩
  · obtain ⟨m1, rfl⟩ := Int.eq_ofNat_of_zero_le (show 0 ≤ a1 by omega)
    have hm1 : m1 ≤ ls.length := by omega
    clear hr
    go_wp2_with fail
    refine (known_any pl pc ls.length capl capc (lsF ls) (csF cs) m1 _ HRSA.out HRCA.out (by omega) (by omega) (by omega) (by omega)).mono ?_
    rintro e w4 ⟨v, code, rfl, hv⟩
    have HV := Lib.hid hv
    have HB4 := Lib.hid (HBA.out.trans (hv.below.mono HBA.out.size))
    have HRS4 := Lib.hid ((HRSA.out.below hv.below (Nat.le_refl _)).more hv.below.size)
    have HRC4 := Lib.hid ((HRCA.out.below hv.below (Nat.le_refl _)).more hv.below.size)
    clear hv
    go_wp2_with fail
    refine (rknown_any pl pc ls.length capl capc (lsF ls) (csF cs) m1 _ HRS4.out HRC4.out (by omega) (by omega) (by omega) (by omega)).mono ?_
    rintro e w5 ⟨v', code', rfl, hv'⟩
    have HBB := Lib.hid (HB4.out.trans (hv'.below.mono HB4.out.size))
    obtain ⟨rfl, p1, c1, p2, c2, m, D, rfl, rfl, hd1, hd2, hm3⟩ := HV.out.pair hv'
    have HDA := Lib.hid ((hd1.below hv'.below (Nat.le_refl _)).more hv'.below.size)
    have HDB := Lib.hid hd2
    have HRSB := Lib.hid ((HRS4.out.below hv'.below (Nat.le_refl _)).more hv'.below.size)
    have HRCB := Lib.hid ((HRC4.out.below hv'.below (Nat.le_refl _)).more hv'.below.size)
    clear hv' hd1 hd2 HV HRS4 HRC4
    have hkl : (kk : Int) ≤ (ls.length : Int) := by omega
    go_wp2_with fail
    refine (known_any pl pc ls.length capl capc (lsF ls) (csF cs) kk _ HRSB.out HRCB.out (by omega) (by omega) (by omega) (by omega)).mono ?_
    rintro e w6 ⟨v, code3, rfl, hv⟩
    have HV6 := Lib.hid hv
    have HB6 := Lib.hid (HBB.out.trans (hv.below.mono HBB.out.size))
    have HRS6 := Lib.hid (((HRSB.out.below hv.below (Nat.le_refl _)).more hv.below.size).less (show kk ≤ ls.length by omega))
    have HRC6 := Lib.hid (((HRCB.out.below hv.below (Nat.le_refl _)).more hv.below.size).less (show kk ≤ ls.length by omega))
    have HDA6 := Lib.hid ((HDA.out.below hv.below (Nat.le_refl _)).more hv.below.size)
    have HDB6 := Lib.hid ((HDB.out.below hv.below (Nat.le_refl _)).more hv.below.size)
    have hkc : (kk : Int) ≤ (capl : Int) := by omega
    have hkc' : (kk : Int) ≤ (capc : Int) := by omega
    have HKN := Lib.hid (show kk ≤ 1000000 by omega)
    have hkk0 : (0 : Int) ≤ (kk : Int) := by omega
    clear hv HRSB HRCB HDA HDB
    go_wp2_with fail
    go_region_held3 (fun w' => 0 ≤ w'.heap.size) (exact Nat.zero_le _) ((go_at_call 20; refine (canon_any _ _ _ _ _ (lsF ls) (csF cs) _ (by first | exact HRS6.out) (by first | exact HRC6.out) HKN.out).mono ?_; rintro e w7 ⟨v7, code7, rfl, hv7⟩; have HV7 := Lib.hid hv7; clear hv7))
    have HW7 := Lib.hid (show CanonV (lsF ls) (csF cs) kk w6 w7 v7 code7 by first | exact HV7.out.ofDrew | exact HV7.out)
    clear HV7
    obtain ⟨hcode, p3, c3, p4, c4, m3, D3, hv3, hv4, hd3, hd4, hm4⟩ := HV6.out.pair HW7.out
    subst hcode
    subst hv3
    subst hv4
    have HB7 := Lib.hid (HB6.out.trans (HW7.out.below.mono HB6.out.size))
    have HD3 := Lib.hid ((hd3.below HW7.out.below (Nat.le_refl _)).more HW7.out.below.size)
    have HD4 := Lib.hid hd4
    have HDA7 := Lib.hid ((HDA6.out.below HW7.out.below (Nat.le_refl _)).more HW7.out.below.size)
    have HDB7 := Lib.hid ((HDB6.out.below HW7.out.below (Nat.le_refl _)).more HW7.out.below.size)
    clear hd3 hd4 HW7 HV6
    go_wp2_with fail
    refine (same_yes p1 p2 m c1 c2 _ _ D _ HDA7.out HDB7.out (by omega)).mono ?_
    rintro e w8 ⟨rfl, k8, hk8⟩
    have hb8 : Below w7.heap.size w7 w8 := by rw [hk8]; exact bDr (Below.refl _ _) k8
    have HB8 := Lib.hid (HB7.out.trans (hb8.mono HB7.out.size))
    have HD38 := Lib.hid ((HD3.out.below hb8 (Nat.le_refl _)).more hb8.size)
    have HD48 := Lib.hid ((HD4.out.below hb8 (Nat.le_refl _)).more hb8.size)
    clear hk8 hb8
    go_wp2_with fail
    refine (same_yes p3 p4 m3 c3 c4 _ _ D3 _ HD38.out HD48.out (by omega)).mono ?_
    rintro e w9 ⟨rfl, k9, hk9⟩
    have HB9 := Lib.hid (HB8.out.trans ((show Below w8.heap.size w8 w9 by rw [hk9]; exact bDr (Below.refl _ _) k9).mono HB8.out.size))
    clear hk9
    go_wp2_with fail
    refine (awake_any _).mono ?_
    rintro e w10 ⟨rfl, hb10⟩
    have HB10 := Lib.hid (HB9.out.trans (hb10.mono HB9.out.size))
    clear hb10
    go_wp2
    go_ret
    exact ⟨rfl, HB10.out⟩
end Go.Proofs.Ytdhjmnehjmoilaa
