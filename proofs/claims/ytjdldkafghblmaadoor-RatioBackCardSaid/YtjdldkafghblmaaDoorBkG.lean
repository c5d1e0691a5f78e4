/-
  The program's Format.
-/
import Derived.Test.YtjdldkafghblmaaDoorBkF
import Derived.Test.YtjdldkafghblmaaDoorBkC
import Derived.Test.YtjdldkafghblmaaDoorQuietB
namespace Go.Proofs.YtjdldkafghblmaaDoor
open Go.RowKit Go.Lib
set_option linter.unusedSimpArgs false
set_option linter.unusedVariables false

theorem tab_later {P : Program} {w w' : World} {name : String} {k : IntKind} {zs : List Int} {B : Nat} (h : TabIs P w name k zs) (hb : Below B w w') (hB : w.heap.size ≤ B) : TabIs P w' name k zs := by
  unfold TabIs World.var? at h ⊢
  cases hg : P.globalNamed name with
  | none => rw [hg] at h; cases h
  | some g =>
    rw [hg] at h
    simp only [Option.bind_some] at h ⊢
    have hlt : g < w.heap.size := by
      rcases Nat.lt_or_ge g w.heap.size with h' | h'
      · exact h'
      · rw [Array.getElem?_eq_none h'] at h; cases h
    rw [hb.block g (by omega)]
    exact h
def Tab (w : World) : Prop := TabIs Tryd.prog w "internal/strconv.uint64pow10" .u64 Lib.pow10Tab
theorem Tab.later {w w' : World} (h : Tab w) (hb : Below w.heap.size w w') : Tab w' := tab_later h hb (Nat.le_refl _)
theorem itoa_any (M : Int) (hM : I64 M) {w : World} (HT : Tab w) : Calls Tryd.prog 20 #[.int .i64 M] w fun e w' => e = .returned (.string ⟨(itoa M).toArray⟩) ∧ Below w.heap.size w w' := by
  have h : Calls Tryd.prog 20 _ _ _ := Any.strconv_Itoa Tryd.laysM171 M hM.1 (by have := hM.2; omega) w HT
  refine h.mono ?_
  rintro e w' ⟨rfl, k, os, rfl⟩
  exact ⟨rfl, below_grow _ _ (Nat.le_refl _) _ _⟩
theorem itoa_len (M : Int) (hM : I64 M) : (itoa M).length ≤ 20 := by
  obtain ⟨a, b⟩ := hM
  have e : (10 : Nat) ^ 19 = 10000000000000000000 := by decide
  unfold itoa
  split
  · have := decD_len 19 M.natAbs (by omega) (by omega)
    rw [List.length_cons]; omega
  · have := decD_len 19 M.toNat (by omega) (by omega)
    omega
theorem itoa_dec (N : Int) : itoa N = (if N < 0 then [45] else []) ++ decDigits N.natAbs := by
  unfold itoa
  by_cases h : N < 0
  · rw [if_pos h, if_pos h]; rfl
  · rw [if_neg h, if_neg h, List.nil_append, show N.natAbs = N.toNat by omega]
def fmtX (N D : Int) : List UInt8 := itoa N ++ (if D = 1 then [] else 47 :: itoa D)
def fmtT (N D : Int) : List UInt8 := if Frac.valid N D = true then fmtX N D else []

set_option maxRecDepth 100000 in
set_option maxHeartbeats 4000000 in
theorem format_any (N D : Int) (hN : I64 N) (hD : I64 D) {w : World} (HT : Tab w) :
    Calls Tryd.prog 7 #[.agg #[.int .i64 N, .int .i64 D]] w fun e w' => e = .returned (.string ⟨(fmtT N D).toArray⟩) ∧ Below w.heap.size w w' := by
  have HV := Lib.hid (fun w => valid_any N D hN.1 hN.2 hD.1 hD.2 w)
  have P0 := Lib.hid (Blk.new w 24 #[.int .i64 N, .int .i64 D])
  have B0 := Lib.hid (bAl (Below.refl w.heap.size w) (.cells #[.int .i64 N, .int .i64 D] 24))
  by_cases hv : Frac.valid N D = true
  · have HR := Lib.hid (show fmtT N D = fmtX N D from if_pos hv)
    rw [hv] at HV
    clear hv
    go_enter Tryd.func7, Tryd.ntmps7
    go_wp2_with fail
    refine (HV.out _).mono ?_
    rintro e w1 ⟨rfl, hb⟩
    have P1 := Lib.hid (P0.out.later hb)
    have B1 := Lib.hid (bTr B0.out hb)
    have HT1 := Lib.hid (HT.later B1.out)
    clear hb P0 B0 HT HV
    obtain ⟨⟨c0, c1⟩, -, hlt⟩ := P1.out.two
    by_cases h1 : D = 1
    · subst h1
      have HI := Lib.hid (itoa_any N hN HT1.out)
      have HX := Lib.hid (show fmtX N 1 = itoa N by unfold fmtX; rw [if_pos rfl, List.append_nil])
      go_wp2_with fail
      refine HI.out.mono ?_
      rintro e w2 ⟨rfl, hb⟩
      have B2 := Lib.hid (bTr B1.out hb)
      clear hb HI
      go_wp2
      go_ret
      exact ⟨ret_str (by rw [HR.out, HX.out]), B2.out⟩
    · have HX := Lib.hid (show fmtX N D = itoa N ++ 47 :: itoa D by unfold fmtX; rw [if_neg h1])
      have q0 := bq_cell (w := w1) P1.out.lt c0
      have q1 := bq_cell (w := w1) P1.out.lt c1
      have HI := Lib.hid (fun (M : Int) (hM : I64 M) (p : BelowOf w1) => itoa_any M hM (HT1.out.later p.h))
      have l1 := itoa_len N hN
      have l2 := itoa_len D hD
      have z1 : ¬ 9223372036854775807 < (itoa N).length + 1 := by omega
      have z2 : ¬ 9223372036854775807 < (itoa N).length + 1 + (itoa D).length := by omega
      have HN' := hN
      have HD' := hD
      clear hN hD
      go_wp2_with fail
      refine wp_region_below (by kernel_rfl) (by kernel_rfl) ?_
      repeat (go_big_quiet_step ((go_at_call 20; exact bq_call (HI.out _ (by assumption) _))))
      have HTX := Lib.hid (show (⟨(itoa N).toArray⟩ : ByteArray) ++ ⟨#[47]⟩ ++ ⟨(itoa D).toArray⟩ = ⟨(fmtT N D).toArray⟩ by
        rw [HR.out, HX.out, show (⟨#[47]⟩ : ByteArray) = ⟨[47].toArray⟩ from rfl, text_app, text_app, List.append_assoc]
        rfl)
      refine wpQuiet_nil ?_
      rintro w2 ⟨p, rfl⟩
      have B2 := Lib.hid (bTr B1.out p.h)
      go_wp2
      go_ret
      exact ⟨ret_str HTX.out, B2.out⟩
  · have HR := Lib.hid (show fmtT N D = [] from if_neg hv)
    rw [show Frac.valid N D = false by simpa using hv] at HV
    clear hv
    go_enter Tryd.func7, Tryd.ntmps7
    go_wp2_with fail
    refine (HV.out _).mono ?_
    rintro e w1 ⟨rfl, hb⟩
    have B1 := Lib.hid (bTr B0.out hb)
    clear hb
    go_wp2
    go_ret
    exact ⟨ret_str (by rw [HR.out]), B1.out⟩

set_option maxRecDepth 100000 in
set_option maxHeartbeats 4000000 in
theorem rformat_any (N D : Int) (hN : I64 N) (hD : I64 D) (w : World) :
    Calls Tryd.prog 8 #[.agg #[.int .i64 N, .int .i64 D]] w fun e w' => e = .returned (.string ⟨(fmtT N D).toArray⟩) ∧ Below w.heap.size w w' := by
  have HV := Lib.hid (fun w => r_valid N D hN.1 hN.2 hD.1 hD.2 w)
  have P0 := Lib.hid (Blk.new w 24 #[.int .i64 N, .int .i64 D])
  have B0 := Lib.hid (bAl (Below.refl w.heap.size w) (.cells #[.int .i64 N, .int .i64 D] 24))
  by_cases hv : Frac.valid N D = true
  · have HR := Lib.hid (show fmtT N D = fmtX N D from if_pos hv)
    rw [hv] at HV
    obtain ⟨b1, -, -, -, -⟩ := (valid_iff N D).1 hv
    clear hv
    have hNu : (N.natAbs : Int) < 18446744073709551616 := by have := hN.1; have := hN.2; omega
    have hDu : (D.natAbs : Int) < 18446744073709551616 := by have := hD.1; have := hD.2; omega
    have HSN := Lib.hid (fun w => size_any N hN.1 hN.2 w)
    have HSD := Lib.hid (fun w => size_any D hD.1 hD.2 w)
    have HDN := Lib.hid (fun w => digits_any (W2.mkLow (x := N.natAbs) (by omega)) w)
    have HDD := Lib.hid (fun w => digits_any (W2.mkLow (x := D.natAbs) (by omega)) w)
    have HIN := Lib.hid (show itoa N = (if N < 0 then [45] else []) ++ decDigits N.natAbs from itoa_dec N)
    have HID := Lib.hid (show itoa D = decDigits D.natAbs by rw [itoa_dec D, if_neg (by omega), List.nil_append])
    have e19 : (10 : Nat) ^ 19 = 10000000000000000000 := by decide
    have l1 := (decD_len 19 N.natAbs (by omega) (by have := hN.1; have := hN.2; omega)).2
    have l2 := (decD_len 19 D.natAbs (by omega) (by have := hD.1; have := hD.2; omega)).2
    clear hN hD e19 hNu hDu
    generalize decDigits N.natAbs = dn at *
    generalize decDigits D.natAbs = dd at *
    generalize (N.natAbs : Int) = un at *
    generalize (D.natAbs : Int) = ud at *
    go_enter Tryd.func8, Tryd.ntmps8
    go_wp2_with fail
    refine (HV.out _).mono ?_
    rintro e w1 ⟨rfl, hb⟩
    have P1 := Lib.hid (P0.out.later hb)
    have B1 := Lib.hid (bTr B0.out hb)
    clear hb P0 B0 HV
    obtain ⟨⟨c0, c1⟩, -, hlt⟩ := P1.out.two
    go_wp2_with fail
    refine (HSN.out _).mono ?_
    rintro e w2 ⟨rfl, hw⟩
    obtain rfl := hw
    go_wp2_with fail
    refine (HDN.out _).mono ?_
    rintro e w3 ⟨rfl, hb⟩
    have P3 := Lib.hid (P1.out.later hb)
    have B3 := Lib.hid (bTr B1.out hb)
    clear hb P1 B1 HDN c0 c1 hlt HSN
    obtain ⟨⟨c0, c1⟩, -, hlt⟩ := P3.out.two
    by_cases hn : N < 0
    · have HX := Lib.hid (show itoa N = [45] ++ dn by rw [HIN.out, if_pos hn])
      have z0 : ¬ 9223372036854775807 < 1 + dn.length := by omega
      clear HIN
      by_cases h1 : D = 1
      · subst h1
        have HY := Lib.hid (show (⟨#[45]⟩ : ByteArray) ++ ⟨dn.toArray⟩ = ⟨(fmtT N 1).toArray⟩ by
          rw [HR.out, show (⟨#[45]⟩ : ByteArray) = ⟨[45].toArray⟩ from rfl, text_app]
          unfold fmtX
          rw [HX.out, if_pos rfl, List.append_nil])
        go_wp2
        go_ret
        exact ⟨ret_str HY.out, B3.out⟩
      · have HY := Lib.hid (show (⟨#[45]⟩ : ByteArray) ++ ⟨dn.toArray⟩ ++ ⟨#[47]⟩ ++ ⟨dd.toArray⟩ = ⟨(fmtT N D).toArray⟩ by
          rw [HR.out, show (⟨#[45]⟩ : ByteArray) = ⟨[45].toArray⟩ from rfl, show (⟨#[47]⟩ : ByteArray) = ⟨[47].toArray⟩ from rfl, text_app, text_app, text_app]
          unfold fmtX
          rw [HX.out, if_neg h1, HID.out, List.append_assoc]
          rfl)
        have z1 : ¬ 9223372036854775807 < 1 + dn.length + 1 := by omega
        have z2 : ¬ 9223372036854775807 < 1 + dn.length + 1 + dd.length := by omega
        go_wp2_with fail
        refine (HSD.out _).mono ?_
        rintro e w4 ⟨rfl, hw⟩
        obtain rfl := hw
        go_wp2_with fail
        refine (HDD.out _).mono ?_
        rintro e w5 ⟨rfl, hb⟩
        have B5 := Lib.hid (bTr B3.out hb)
        clear hb
        go_wp2
        go_ret
        exact ⟨ret_str HY.out, B5.out⟩
    · have HX := Lib.hid (show itoa N = dn by rw [HIN.out, if_neg hn, List.nil_append])
      clear HIN
      by_cases h1 : D = 1
      · subst h1
        have HY := Lib.hid (show (⟨dn.toArray⟩ : ByteArray) = ⟨(fmtT N 1).toArray⟩ by
          rw [HR.out]
          unfold fmtX
          rw [HX.out, if_pos rfl, List.append_nil])
        go_wp2
        go_ret
        exact ⟨ret_str HY.out, B3.out⟩
      · have HY := Lib.hid (show (⟨dn.toArray⟩ : ByteArray) ++ ⟨#[47]⟩ ++ ⟨dd.toArray⟩ = ⟨(fmtT N D).toArray⟩ by
          rw [HR.out, show (⟨#[47]⟩ : ByteArray) = ⟨[47].toArray⟩ from rfl, text_app, text_app]
          unfold fmtX
          rw [HX.out, if_neg h1, HID.out, List.append_assoc]
          rfl)
        have z1 : ¬ 9223372036854775807 < dn.length + 1 := by omega
        have z2 : ¬ 9223372036854775807 < dn.length + 1 + dd.length := by omega
        go_wp2_with fail
        refine (HSD.out _).mono ?_
        rintro e w4 ⟨rfl, hw⟩
        obtain rfl := hw
        go_wp2_with fail
        refine (HDD.out _).mono ?_
        rintro e w5 ⟨rfl, hb⟩
        have B5 := Lib.hid (bTr B3.out hb)
        clear hb
        go_wp2
        go_ret
        exact ⟨ret_str HY.out, B5.out⟩
  · have HR := Lib.hid (show fmtT N D = [] from if_neg hv)
    rw [show Frac.valid N D = false by simpa using hv] at HV
    clear hv
    go_enter Tryd.func8, Tryd.ntmps8
    go_wp2_with fail
    refine (HV.out _).mono ?_
    rintro e w1 ⟨rfl, hb⟩
    have B1 := Lib.hid (bTr B0.out hb)
    clear hb
    go_wp2
    go_ret
    exact ⟨ret_str (by rw [HR.out]), B1.out⟩
end Go.Proofs.YtjdldkafghblmaaDoor
