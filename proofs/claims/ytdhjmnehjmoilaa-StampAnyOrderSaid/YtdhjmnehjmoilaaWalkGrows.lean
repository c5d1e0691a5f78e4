/-
  The walk of the statement on StampGrows.
-/
import Derived.Test.YtdhjmnehjmoilaaLawKit
import Derived.Test.YtdhjmnehjmoilaaRefKnown
import Derived.Laws.StructEq
namespace Go.Proofs.Ytdhjmnehjmoilaa
open Go.RowKit
set_option linter.unusedSimpArgs false
set_option linter.unusedVariables false

theorem grows_found {L : Nat → St} {C : Nat → Int} {k n : Nat} {a b : List Nat} {d : List (Int × Int)} (ha : IsCanon L C k a) (hb : IsCanon L C n b) (hd : IsDis L C n d) (hk : k ≤ n) {x : Nat} (hx : x ∈ a) : x ∈ b ∨ (L x).2 ∈ d := by
  have h1 := (ha.mem x).1 hx
  by_cases hc : cnts L C n x = true
  · exact .inl ((hb.mem x).2 ⟨by omega, hc⟩)
  · right
    have hv := ((cnts_iff L C k x).1 h1.2)
    have : ¬ ∀ j, j < n → bars L C x j = false := fun h => hc ((cnts_iff L C n x).2 ⟨hv.1, h⟩)
    have : ∃ j, j < n ∧ bars L C x j = true := by
      refine Classical.byContradiction fun hne => this fun j hj => ?_
      cases hb : bars L C x j
      · rfl
      · exact absurd ⟨j, hj, hb⟩ hne
    obtain ⟨j, hj, hbar⟩ := this
    rw [hd.mem]
    unfold bars at hbar
    simp only [Bool.and_eq_true, Bool.or_eq_true, decide_eq_true_eq] at hbar
    rcases hbar.2 with hdis | ⟨hlt, he⟩
    · exact ⟨x, by omega, hv.1, rfl, j, hj, hbar.1, hdis⟩
    · have := hv.2 j (by omega)
      rw [bars_copy hbar.1 hlt he] at this
      cases this
theorem eqlId (a b c d : Int) (w : World) : (binOp .eql 43 (.agg #[.int .i64 a, .int .i64 b]) (.agg #[.int .i64 c, .int .i64 d])).run Try.prog w = .ok (.bool (decide ((a, b) = (c, d)))) w := by
  have u3 := Try.underlying3
  have a3 := Try.isAgg3
  have z3 := Try.sizeOf3
  have hS : Try.prog.underlying 43 = some (.struct (Try.prog.fieldsOf 43)) := by kernel_rfl
  have hp : Try.prog.stoodInHeld 43 = false := by kernel_rfl
  rw [run_eql_struct, show (10000 : Nat) = 9999 + 1 from rfl, run_equalIn_agg w 9999 43 _ _ hS hp]
  simp only [Program.fieldsOf, Try.underlying43]
  go_simp
  by_cases h1 : a = c <;> by_cases h2 : b = d <;> simp [h1, h2]
theorem take_mem {α : Type} {l : List α} {k : Nat} {x y : α} [Decidable (x ∈ l.take (k + 1))] [Decidable (x ∈ l.take k)] [Decidable (x = y)] (h : l[k]? = some y) : decide (x ∈ l.take (k + 1)) = (decide (x ∈ l.take k) || decide (x = y)) := by
  have e : x ∈ l.take (k + 1) ↔ x ∈ l.take k ∨ x = y := by rw [List.take_add_one, h]; simp
  rw [Bool.eq_iff_iff, Bool.or_eq_true, decide_eq_true_eq, decide_eq_true_eq, decide_eq_true_eq, e]
theorem idCells_at : ∀ (l : List (Int × Int)) (j : Nat) (x : Int × Int), l[j]? = some x → (idCells l)[j * 2]? = some (.int .i64 x.1) ∧ (idCells l)[j * 2 + 1]? = some (.int .i64 x.2)
  | [], j, x, h => by simp at h
  | a :: t, 0, x, h => by simp at h; subst h; simp [idCells]
  | a :: t, j + 1, x, h => by
    have ih := idCells_at t j x (by simpa using h)
    have e : idCells (a :: t) = .int .i64 a.1 :: .int .i64 a.2 :: idCells t := by simp [idCells]
    rw [e, show (j + 1) * 2 = j * 2 + 1 + 1 by omega]
    simp only [List.getElem?_cons_succ]
    exact ih
def RowD (w : World) (o : Option Addr) (d : List (Int × Int)) : Prop :=
  ∀ i, i < d.length → ∃ b, o = some ⟨b, 0, none⟩ ∧ b < w.heap.size ∧ w.cell? ⟨b, i * 2, none⟩ = some (.int .i64 (d.getD i (0, 0)).1) ∧ w.cell? ⟨b, i * 2 + 1, none⟩ = some (.int .i64 (d.getD i (0, 0)).2)
theorem rowD_own {w : World} {B m cap : Nat} {p : Option Addr} {d : List (Int × Int)} (h : w.ownsRow B 43 2 (.slice p m cap) d.length (idCells d)) : RowD w p d := by
  rcases h.2 with ⟨hv, h0⟩ | ⟨g, cap', cur, hv, hb, hc, hmc, _⟩
  · exact fun i hi => by omega
  · injection hv with h1 h2 h3
    subst h1; subst h2; subst h3
    intro i hi
    have hx : d[i]? = some (d.getD i (0, 0)) := by rw [List.getD_eq_getElem?_getD, List.getElem?_eq_getElem hi]; rfl
    obtain ⟨e0, e1⟩ := idCells_at d i _ hx
    exact ⟨g, rfl, (Array.getElem?_eq_some_iff.1 hc).1, (h.cellAt (i * 2) (by omega)).trans e0, (h.cellAt (i * 2 + 1) (by omega)).trans e1⟩
set_option maxRecDepth 100000 in
set_option maxHeartbeats 8000000 in
theorem walkStampGrows (o : Option Addr) (n c : Nat) (zs : List Int) (w : World) (h0 : IsRow .i64 w o n c zs) :
    Calls Try.prog 11 #[.slice o n c] w fun e w' => e = .returned (.bool true) ∧ Below w.heap.size w w' := by
  obtain ⟨hr, h1, h2, h3⟩ := row_of h0
  go_enter Try.func11, Try.ntmps11
  go_wp2_with fail
  refine (tape_new hr h1 h2 h3).mono ?_
  rintro e w1 ⟨g, n9, rfl, ht1, hb1, hg⟩
  have HB1 := Lib.hid hb1
  clear hb1 hr h1 h2 h3
  go_wp2_with fail
  refine (events_any 12 8 (by omega) (by omega) (by omega) (by omega) ht1).mono ?_
  rintro e w2 ⟨vl, vc, ls, cs, rfl, hev, hlm⟩
  have HEV := Lib.hid hev
  have HB2 := Lib.hid (HB1.out.trans (grown_below hev.gr hg HB1.out.size))
  obtain ⟨pl, capl, hvl, -⟩ := own_any hev.rl
  obtain ⟨pc, capc, hvc, -⟩ := own_any hev.rc
  rw [hev.len] at hvc
  subst hvl
  subst hvc
  clear hev ht1
  obtain ⟨hrs, -, hcl⟩ := rowS_own HEV.out.rl
  obtain ⟨hrc, -, hcc⟩ := rowI_own HEV.out.rc
  rw [HEV.out.len] at hrc
  have HRS := Lib.hid hrs
  have HRC := Lib.hid hrc
  have hl14 : ls.length ≤ 100 := by omega
  clear hrs hrc
  go_wp2_with fail
  refine (tape_range 0 (ls.length : Int) (by omega) (by omega) (by omega) HEV.out.tp).mono ?_
  rintro e w3 ⟨kk, ⟨hkk0, hkk1⟩, rfl, ht3, hg3⟩
  obtain ⟨kk, rfl⟩ := Int.eq_ofNat_of_zero_le hkk0
  have HEV3 := Lib.hid (HEV.out.on ht3 hg3)
  have hkl : kk ≤ ls.length := by omega
  clear ht3 hg3 HRS HRC HEV HB2 hkk0
  obtain ⟨hrs, -, -⟩ := rowS_own HEV3.out.rl
  obtain ⟨hrc, -, -⟩ := rowI_own HEV3.out.rc
  rw [HEV3.out.len] at hrc
  have HRSA := Lib.hid hrs
  have HRCA := Lib.hid hrc
  have HBA := Lib.hid (HB1.out.trans (grown_below HEV3.out.gr hg HB1.out.size))
  clear hrs hrc
  go_wp2_with fail
  refine (known_any pl pc ls.length capl capc (lsF ls) (csF cs) kk _ HRSA.out HRCA.out (by omega) (by omega) (by omega) (by omega)).mono ?_
  rintro e w4 ⟨v, code, rfl, hv⟩
  have hv0 := hv
  obtain ⟨outa, hoa, -, -⟩ := hv0
  obtain ⟨rfl, pa, ca, rfl, hda⟩ := hv.eq outa hoa (by have := hoa.len; omega)
  have HB4 := Lib.hid (HBA.out.trans (hv.below.mono HBA.out.size))
  have HRS4 := Lib.hid ((HRSA.out.below hv.below (Nat.le_refl _)).more hv.below.size)
  have HRC4 := Lib.hid ((HRCA.out.below hv.below (Nat.le_refl _)).more hv.below.size)
  have HDA4 := Lib.hid hda
  have HOA := Lib.hid hoa
  clear hv hda hoa
  go_wp2_with fail
  refine (canon_any pl pc ls.length capl capc (lsF ls) (csF cs) _ HRS4.out HRC4.out (by omega)).mono ?_
  rintro e w5 ⟨v, code, rfl, hv⟩
  have hv0 := hv
  obtain ⟨outb, hob, -, -⟩ := hv0
  obtain ⟨rfl, pb, cb, rfl, hdb⟩ := hv.eq outb hob (by have := hob.len; omega)
  have HB5 := Lib.hid (HB4.out.trans (hv.below.mono HB4.out.size))
  have HRS5 := Lib.hid ((HRS4.out.below hv.below (Nat.le_refl _)).more hv.below.size)
  have HRC5 := Lib.hid ((HRC4.out.below hv.below (Nat.le_refl _)).more hv.below.size)
  have HDA5 := Lib.hid ((HDA4.out.below hv.below (Nat.le_refl _)).more hv.below.size)
  have HDB5 := Lib.hid hdb
  have HOB := Lib.hid hob
  clear hv hdb hob HRS4 HRC4 HDA4
  go_wp2_with fail
  refine (dis_any pl pc ls.length capl capc (lsF ls) (csF cs) _ HRS5.out HRC5.out (by omega)).mono ?_
  rintro e w6 ⟨v, rfl, outd, B6, hod, hb6, hown6, -, hdl⟩
  obtain ⟨pd, cd, rfl, -⟩ := own_any hown6
  have HB6 := Lib.hid (HB5.out.trans (hb6.mono HB5.out.size))
  have HRS6 := Lib.hid ((HRS5.out.below hb6 (Nat.le_refl _)).more hb6.size)
  have HDA6 := Lib.hid ((HDA5.out.below hb6 (Nat.le_refl _)).more hb6.size)
  have HDB6 := Lib.hid ((HDB5.out.below hb6 (Nat.le_refl _)).more hb6.size)
  have HDD6 := Lib.hid (rowD_own hown6)
  have HOD := Lib.hid hod
  have hla : outa.length ≤ 100 := by have := HOA.out.len; omega
  have hlb : outb.length ≤ 100 := by have := HOB.out.len; omega
  have hld : outd.length ≤ 100 := by omega
  clear hb6 hown6 hod HRS5 HRC5 HDA5 HDB5 HB1 HBA HB4 HB5 HRSA HRCA HEV3
  go_wp2_with fail
  go_loopw [12] (fun i wr => ∃ k m : Nat, i = .int .i64 k ∧ k ≤ outa.length ∧ wr = w6.drewN m) (fun i _ => outa.length - (intOf i).toNat)
  case atStart => exact ⟨0, 0, rfl, Nat.zero_le _, by simp [World.drewN]⟩
  case round =>
    obtain ⟨i, mi, rfl, hi, rfl⟩ := hrel
    by_cases hin : i < outa.length
    · have hin' : (i : Int) < (outa.length : Int) := by omega
      obtain ⟨ba, oa, rfl, -, ga⟩ := HDA6.out i hin
      have HX := Lib.hid (show outa.getD i 0 ∈ outa by rw [List.getD_eq_getElem?_getD, List.getElem?_eq_getElem hin]; exact List.getElem_mem _)
      have ga2 : w6.cell? ⟨ba, oa + i, none⟩ = some (.int .i64 ((outa.getD i 0 : Nat) : Int)) := ga
      clear ga
      generalize outa.getD i 0 = x at ga2 HX
      have hxn : x < ls.length := by have := (HOA.out.mem x).1 HX.out; omega
      have hx1 : (x : Int) < (ls.length : Int) := by omega
      have hx0 : decide ((x : Int) < 0) = false := decide_eq_false (by omega)
      have hx2 : decide ((ls.length : Int) ≤ (x : Int)) = false := decide_eq_false (by omega)
      have hx3 : decide (ls.length ≤ x) = false := decide_eq_false (by omega)
      obtain ⟨bl, ol, rfl, -, g0, g1, g2⟩ := HRS6.out x hxn
      go_wp2_with fail
      go_loopw [13, 14] (fun fv kv wr => ∃ (k m : Nat) (f : Bool), kv = .int .i64 k ∧ k ≤ outb.length ∧ fv = .bool f ∧ Hid (f = decide (x ∈ outb.take k)) ∧ wr = w6.drewN m) (fun _ kv _ => outb.length - (intOf kv).toNat)
      case atStart => exact ⟨0, mi, false, rfl, Nat.zero_le _, rfl, (show false = decide (x ∈ outb.take 0) by simp), rfl⟩
      case round =>
        obtain ⟨k, m, f, rfl, hk, rfl, hf, rfl⟩ := hrel
        by_cases hkn : k < outb.length
        · have hkn' : (k : Int) < (outb.length : Int) := by omega
          obtain ⟨bb, ob, rfl, -, gb⟩ := HDB6.out k hkn
          have gb2 : w6.cell? ⟨bb, ob + k, none⟩ = some (.int .i64 ((outb.getD k 0 : Nat) : Int)) := gb
          have HY := Lib.hid (show outb[k]? = some (outb.getD k 0) by rw [List.getD_eq_getElem?_getD, List.getElem?_eq_getElem hkn]; rfl)
          clear gb
          generalize outb.getD k 0 = y at gb2 HY
          cases f
          · go_wp2
            go_quiet (fail)
            go_wp2
            go_roundw
            case rel => exact ⟨k + 1, m + nq, ((x : Int) == (y : Int)), by go_num, by omega, rfl, (show ((x : Int) == (y : Int)) = decide (x ∈ outb.take (k + 1)) by rw [take_mem HY.out, ← hf.out, Bool.false_or, Bool.eq_iff_iff]; simp; omega), by first | rfl | rw [World.drewN_drewN]⟩
            case measure => simp [intOf]; omega
          · go_wp2
            go_quiet (fail)
            go_wp2
            go_roundw
            case rel => exact ⟨k + 1, m + nq, true, by go_num, by omega, rfl, (show true = decide (x ∈ outb.take (k + 1)) by rw [take_mem HY.out, ← hf.out, Bool.true_or]), by first | rfl | rw [World.drewN_drewN]⟩
            case measure => simp [intOf]; omega
        · obtain rfl : outb.length = k := by omega
          have HF0 := Lib.hid (show f = decide (x ∈ outb) by have := hf.out; rw [List.take_length] at this; exact this)
          clear hf
          go_wp2_with fail
          go_loopw [13, 15] (fun fv kv wr => ∃ (k m : Nat) (f : Bool), kv = .int .i64 k ∧ k ≤ outd.length ∧ fv = .bool f ∧ Hid (f = (decide (x ∈ outb) || decide ((lsF ls x).2 ∈ outd.take k))) ∧ wr = w6.drewN m) (fun _ kv _ => outd.length - (intOf kv).toNat)
          case atStart => exact ⟨0, m, f, rfl, Nat.zero_le _, rfl, (show f = (decide (x ∈ outb) || decide ((lsF ls x).2 ∈ outd.take 0)) by rw [HF0.out]; simp), rfl⟩
          case round =>
            obtain ⟨k, m, f, rfl, hk, rfl, hf, rfl⟩ := hrel
            by_cases hkn : k < outd.length
            · have hkn' : (k : Int) < (outd.length : Int) := by omega
              obtain ⟨bd, rfl, -, gd0, gd1⟩ := HDD6.out k hkn
              have HY := Lib.hid (show outd[k]? = some (outd.getD k (0, 0)) by rw [List.getD_eq_getElem?_getD, List.getElem?_eq_getElem hkn]; rfl)
              generalize outd.getD k (0, 0) = y at gd0 gd1 HY
              have heq : ∀ W, (binOp .eql 43 (.agg #[.int .i64 y.1, .int .i64 y.2]) (.agg #[.int .i64 (lsF ls x).2.1, .int .i64 (lsF ls x).2.2])).run Try.prog W = .ok (.bool (decide (y = (lsF ls x).2))) W := fun W => eqlId _ _ _ _ W
              cases f
              · go_wp2
                go_quiet (fail)
                go_wp2
                go_roundw
                case rel => exact ⟨k + 1, m + nq, decide (y = (lsF ls x).2), by go_num, by omega, rfl, (show decide (y = (lsF ls x).2) = (decide (x ∈ outb) || decide ((lsF ls x).2 ∈ outd.take (k + 1))) by rw [take_mem HY.out, ← Bool.or_assoc, ← hf.out, Bool.false_or, Bool.eq_iff_iff]; simp [eq_comm]), by first | rfl | rw [World.drewN_drewN]⟩
                case measure => simp [intOf]; omega
              · go_wp2
                go_quiet (fail)
                go_wp2
                go_roundw
                case rel => exact ⟨k + 1, m + nq, true, by go_num, by omega, rfl, (show true = (decide (x ∈ outb) || decide ((lsF ls x).2 ∈ outd.take (k + 1))) by rw [take_mem HY.out, ← Bool.or_assoc, ← hf.out, Bool.true_or]), by first | rfl | rw [World.drewN_drewN]⟩
                case measure => simp [intOf]; omega
            · obtain rfl : outd.length = k := by omega
              obtain rfl : f = true := by
                have := hf.out
                rw [List.take_length] at this
                rw [this]
                rcases grows_found HOA.out HOB.out HOD.out hkl HX.out with h | h
                · rw [decide_eq_true h]; rfl
                · rw [decide_eq_true h]; simp
              clear hf
              go_wp2
              go_roundw
              case rel => exact ⟨i + 1, m, by go_num, by omega, rfl⟩
              case measure => simp [intOf]; omega
    · go_wp2_with fail
      refine (awake_any _).mono ?_
      rintro e w8 ⟨rfl, hb8⟩
      have HB8 := Lib.hid (HB6.out.trans ((bTr (bDr (Below.refl _ _) mi) hb8).mono HB6.out.size))
      clear hb8
      go_wp2
      go_ret
      exact ⟨rfl, HB8.out⟩
end Go.Proofs.Ytdhjmnehjmoilaa
