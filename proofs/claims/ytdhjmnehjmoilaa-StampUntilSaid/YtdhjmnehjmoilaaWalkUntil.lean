/-
  The walk of the statement on StampUntil.
-/
import Derived.Test.YtdhjmnehjmoilaaLawKit
namespace Go.Proofs.Ytdhjmnehjmoilaa
open Go.RowKit
set_option linter.unusedSimpArgs false
set_option linter.unusedVariables false

set_option maxRecDepth 100000 in
set_option maxHeartbeats 4000000 in
theorem walkStampUntil (o : Option Addr) (n c : Nat) (zs : List Int) (a1 : Int) (w : World) (h0 : IsRow .i64 w o n c zs) (l1 : -9223372036854775808 ≤ a1) (u1 : a1 < 9223372036854775808) :
    Calls Try.prog 6 #[.slice o n c, .int .i64 a1] w fun e w' => e = .returned (.bool true) ∧ Below w.heap.size w w' := by
  obtain ⟨hr, h1, h2, h3⟩ := row_of h0
  go_enter Try.func6, Try.ntmps6
  go_wp2_with fail
  refine (tape_new hr h1 h2 h3).mono ?_
  rintro e w1 ⟨g, n9, rfl, ht1, hb1, hg⟩
  have HB1 := Lib.hid hb1
  clear hb1 hr h1 h2 h3
  go_wp2_with fail
  refine (events_any 14 6 (by omega) (by omega) (by omega) (by omega) ht1).mono ?_
  rintro e w2 ⟨vl, vc, ls, cs, rfl, hev, hlm⟩
  have HEV := Lib.hid hev
  have HB2 := Lib.hid (HB1.out.trans (grown_below hev.gr hg HB1.out.size))
  obtain ⟨pl, capl, hvl, -⟩ := own_any hev.rl
  obtain ⟨pc, capc, hvc, -⟩ := own_any hev.rc
  rw [hev.len] at hvc
  subst hvl
  subst hvc
  clear hev ht1
  obtain ⟨hrs, -, hcl⟩ := rowS_own HEV.out.rl
  obtain ⟨hrc, -, hcc⟩ := rowI_own HEV.out.rc
  rw [HEV.out.len] at hrc
  have HRS := Lib.hid hrs
  have HRC := Lib.hid hrc
  have hl14 : ls.length ≤ 100 := by omega
  clear hrs hrc
  go_wp2_with fail
  refine (tape_range 0 30 (by omega) (by omega) (by omega) HEV.out.tp).mono ?_
  rintro e w3 ⟨small, -, rfl, ht3, hg3⟩
  have HEV3 := Lib.hid (HEV.out.on ht3 hg3)
  have HB3 := Lib.hid (HB1.out.trans (grown_below HEV3.out.gr hg HB1.out.size))
  obtain ⟨hrs, -, -⟩ := rowS_own HEV3.out.rl
  have HRS3 := Lib.hid hrs
  clear hrs ht3 hg3
  obtain ⟨r1, hu1⟩ := until_exists (lsF ls) ls.length a1
  obtain ⟨r2, hu2⟩ := until_exists (lsF ls) ls.length small
  have HU1 := Lib.hid hu1
  have HU2 := Lib.hid hu2
  clear hu1 hu2
  go_wp2_with fail
  refine (until_det HRS3.out (by omega) HU1.out).mono ?_
  rintro e w4 ⟨rfl, hb4⟩
  have HB4 := Lib.hid (HB3.out.trans (hb4.mono HB3.out.size))
  have HRS4 := Lib.hid ((HRS3.out.below hb4 (Nat.le_refl _)).more hb4.size)
  clear hb4
  go_wp2_with fail
  refine (runtil_det HRS4.out (by omega) HU1.out).mono ?_
  rintro e w5 ⟨rfl, hb5⟩
  have HB5 := Lib.hid (HB4.out.trans (hb5.mono HB4.out.size))
  have HRS5 := Lib.hid ((HRS4.out.below hb5 (Nat.le_refl _)).more hb5.size)
  clear hb5
  go_wp2_with fail
  refine (until_det HRS5.out (by omega) HU2.out).mono ?_
  rintro e w6 ⟨rfl, hb6⟩
  have HB6 := Lib.hid (HB5.out.trans (hb6.mono HB5.out.size))
  have HRS6 := Lib.hid ((HRS5.out.below hb6 (Nat.le_refl _)).more hb6.size)
  clear hb6
  go_wp2_with fail
  refine (runtil_det HRS6.out (by omega) HU2.out).mono ?_
  rintro e w7 ⟨rfl, hb7⟩
  have HB7 := Lib.hid (HB6.out.trans (hb7.mono HB6.out.size))
  clear hb7
  go_wp2_with fail
  refine (awake_any _).mono ?_
  rintro e w8 ⟨rfl, hb8⟩
  have HB8 := Lib.hid (HB7.out.trans (hb8.mono HB7.out.size))
  clear hb8
  go_wp2
  go_ret
  exact ⟨rfl, HB8.out⟩
end Go.Proofs.Ytdhjmnehjmoilaa
