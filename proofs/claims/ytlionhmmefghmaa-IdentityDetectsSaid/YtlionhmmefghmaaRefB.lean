/-
  The reference of layer 4: Shape, Padded, Format, Parse.
-/
import Derived.Test.YtlionhmmefghmaaRef
import Derived.Test.YtlionhmmefghmaaQuietB
namespace Go.Proofs.Ytlionhmmefghmaa
open Go.RowKit
set_option linter.unusedSimpArgs false
set_option linter.unusedVariables false
set_option maxRecDepth 100000

theorem shape_any (s : ByteArray) (w : World) :
    Calls Try.prog 37 #[.string s] w fun e w' => e = .returned (.bool (shp s)) ∧ Below w.heap.size w w' := by
  have HSh : Hid (shp s = (decide (s.size = 9) && (digs (byteAt s) 8 && isLet (byteAt s 8)))) := Lib.hid rfl
  by_cases h9 : s.size = 9
  · go_enter Try.func37, Try.ntmps37
    go_wp2
    go_loopw [3] (fun i wr => ∃ (k : Nat), i = .int .i64 k ∧ k ≤ 9 ∧ Hid (∀ j, j < k → plc j (byteAt s j) = true) ∧ Hid (Below w.heap.size w wr)) (fun i _ => 9 - (intOf i).toNat)
    case atStart => exact ⟨0, rfl, by omega, Lib.hid (fun j hj => by omega), Lib.hid (Below.refl _ _)⟩
    case round =>
      obtain ⟨k, rfl, hk, HJ, HB⟩ := hrel
      by_cases hk9 : k < 9
      · have hx := byteAt_at s k (by omega)
        have hxb := byteAt_bd s k
        have hks : k < s.size := by omega
        go_wp2_with fail
        refine (place_any k _ hxb.1 hxb.2 _).mono ?_
        rintro e w2 ⟨rfl, hb⟩
        have HB2 := Lib.hid (bTr HB.out hb)
        clear hb HB
        cases hp : plc k (byteAt s k)
        · have HN : Hid (shp s = false) := Lib.hid (by
            rw [HSh.out]
            by_cases h8 : k < 8
            · unfold plc at hp
              rw [if_pos h8] at hp
              rw [digs_no (c := byteAt s) h8 (of_decide_eq_false hp)]
              simp
            · obtain rfl : k = 8 := by omega
              unfold plc at hp
              rw [if_neg h8] at hp
              simp [hp])
          go_wp2
          exact bodyPost_ret (v := .bool false) (by simp [results, Try.results37, go_sem]) rfl ⟨ret_bool HN.out.symm, HB2.out⟩
        · go_wp2
          case roundEnd =>
            refine ⟨⟨k + 1, by simp, by omega, Lib.hid (fun j hj => ?_), HB2⟩, by simp [intOf]; omega⟩
            rcases Nat.lt_or_ge j k with g | g
            · exact HJ.out j g
            · obtain rfl : j = k := by omega
              exact hp
      · obtain rfl : k = 9 := by omega
        have HN : Hid (shp s = true) := Lib.hid (by
          have h8 := HJ.out 8 (by omega)
          unfold plc at h8
          rw [if_neg (by omega)] at h8
          rw [HSh.out, h8, (digs_iff _ _).2 fun i hi => ?_]
          · simp [h9]
          · have := HJ.out i (by omega)
            unfold plc at this
            rw [if_pos hi] at this
            exact of_decide_eq_true this)
        go_wp2
        exact bodyPost_ret (v := .bool true) (by simp [results, Try.results37, go_sem]) rfl ⟨ret_bool HN.out.symm, HB.out⟩
  · have HN : Hid (shp s = false) := Lib.hid (by rw [HSh.out]; simp [h9])
    go_enter Try.func37, Try.ntmps37
    go_wp2
    exact bodyPost_ret (v := .bool false) (by simp [results, Try.results37, go_sem]) rfl ⟨ret_bool HN.out.symm, Below.refl _ _⟩
/-- string([]byte(of one byte)) -/
theorem text_one (w : World) (x : Int) (hx : 0 ≤ x ∧ x < 256) :
    (convert 36 9 (.slice (some ⟨w.heap.size, 0, none⟩) 1 1)).run Try.prog (w.alloc (.cells #[.int .u8 x] 5)) = .ok (.string ⟨[UInt8.ofNat x.toNat].toArray⟩) (w.alloc (.cells #[.int .u8 x] 5)) := by
  refine run_convert_bytes_back (P := Try.prog) _ 36 9 5 ⟨w.heap.size, 0, none⟩ 1 [UInt8.ofNat x.toNat] Try.underlying36 Try.underlying5 Try.underlying9 (fun j hj => ?_)
  obtain rfl : j = 0 := by have : j < 1 := hj; omega
  have e : (⟨w.heap.size, 0, none⟩ : Addr).add 0 = ⟨w.heap.size, 0, none⟩ := by unfold Addr.add; simp
  have PB := Blk.newAt (w := w) (n := w.heap.size) (t := 5) (cs := #[.int .u8 x]) rfl
  rw [e, PB.cell]
  show some (Value.int .u8 x) = some (Value.int .u8 ((UInt8.ofNat x.toNat).toNat : Int))
  rw [u8_back hx]
/-- the last k digits of x -/
def padL (x : Nat) : Nat → List UInt8
  | 0 => []
  | k + 1 => UInt8.ofNat (48 + x / 10 ^ k % 10) :: padL x k
theorem padL_len (x k : Nat) : (padL x k).length = k := by
  induction k with
  | zero => rfl
  | succ k ih => simp [padL, ih]
theorem padded_any (x n : Nat) (hx : x < 1000000) (hn : n ≤ 9) (w : World) :
    Calls Try.prog 29 #[.int .i64 x, .int .i64 n] w fun e w' => e = .returned (.string ⟨(padL x n).toArray⟩) ∧ Below w.heap.size w w' := by
  go_enter Try.func29, Try.ntmps29
  go_wp2
  go_loopw [0, 5, 6] (fun v t i wr => ∃ (k : Nat), i = .int .i64 k ∧ k ≤ n ∧ v = .int .i64 ((x / 10 ^ k : Nat) : Int) ∧ t = .string ⟨(padL x k).toArray⟩ ∧ Hid (Below w.heap.size w wr)) (fun _ _ i _ => n - (intOf i).toNat)
  case atStart => exact ⟨0, rfl, by omega, by simp, rfl, Lib.hid (Below.refl _ _)⟩
  case round =>
    obtain ⟨k, rfl, hk, rfl, rfl, HB⟩ := hrel
    by_cases hkn : k < n
    · have hkn' : (k : Int) < (n : Int) := by omega
      obtain ⟨d, hd⟩ : ∃ d, x / 10 ^ k % 10 = d := ⟨_, rfl⟩
      have hd10 : d < 10 := by rw [← hd]; exact Nat.mod_lt _ (by omega)
      have HS : Hid (padL x (k + 1) = UInt8.ofNat (48 + d) :: padL x k) := Lib.hid (by rw [← hd]; rfl)
      have HX : Hid (x / 10 ^ (k + 1) = x / 10 ^ k / 10) := Lib.hid (by rw [Nat.pow_succ, Nat.div_div_eq_div_mul])
      have hX : x / 10 ^ k < 1000000 := Nat.lt_of_le_of_lt (Nat.div_le_self _ _) hx
      generalize x / 10 ^ k = X at hd hX HX ⊢
      have t1 : (X : Int) % 10 = (d : Int) := by omega
      have t2 : -9223372036854775808 ≤ (X : Int) / 10 ∧ (X : Int) / 10 ≤ 9223372036854775807 := by omega
      have hconv := text_one wr (48 + (d : Int)) (by omega)
      rw [show ((48 + (d : Int)).toNat) = 48 + d by omega] at hconv
      have hlen : ¬ 9223372036854775807 < 1 + (padL x k).length := by rw [padL_len]; omega
      clear hd
      go_wp2
      case roundEnd =>
        refine ⟨⟨k + 1, by simp, by omega, by rw [HX.out]; simp, ?_, Lib.hid (bAl HB.out _)⟩, by simp [intOf]; omega⟩
        rw [HS.out]
        simp [ByteArray.mk_append_mk]
    · obtain rfl : k = n := by omega
      go_wp2
      exact bodyPost_ret (v := .string ⟨(padL x k).toArray⟩) (by simp [results, Try.results29, go_sem]) rfl ⟨rfl, HB.out⟩
theorem mixed : Try.prog.follows .mixedOrders = true := by kernel_rfl
/-- n digits of x as a text -/
def padI (x n : Int) : ByteArray := ⟨(padL x.toNat n.toNat).toArray⟩
theorem padI_size (x n : Int) : (padI x n).size = n.toNat := by
  show (padL x.toNat n.toNat).toArray.size = _
  rw [List.size_toArray, padL_len]
theorem padded_i (x n : Int) (hx : 0 ≤ x ∧ x < 1000000) (hn : n = 2 ∨ n = 4) (w : World) :
    Calls Try.prog 29 #[.int .i64 x, .int .i64 n] w fun e w' => e = .returned (.string (padI x n)) ∧ Below w.heap.size w w' := by
  obtain ⟨x, rfl⟩ := Int.eq_ofNat_of_zero_le hx.1
  rcases hn with rfl | rfl
  · exact padded_any x 2 (by omega) (by omega) w
  · exact padded_any x 4 (by omega) (by omega) w
theorem wsum_ext {c d : Nat → Int} (n : Nat) (h : ∀ i, i < n → c i = d i) : wsum c n = wsum d n := by
  induction n with
  | zero => rfl
  | succ n ih => simp only [wsum]; rw [ih fun i hi => h i (by omega), h n (by omega)]
theorem u8_nat {d : Nat} (h : d < 10) : (UInt8.ofNat (48 + d)).toNat = 48 + d := by
  rw [UInt8.toNat_ofNat']
  omega
/-- the eight digits as the reference writes them -/
theorem pads_eq (a b d N : Nat) (ha : a ≤ 99) (hb : b ≤ 99) (hd : d ≤ 9999) (hN : N = a * 1000000 + b * 10000 + d) :
    padI a 2 ++ padI b 2 ++ padI d 4 = ⟨[UInt8.ofNat (48 + digN N 0), UInt8.ofNat (48 + digN N 1), UInt8.ofNat (48 + digN N 2), UInt8.ofNat (48 + digN N 3), UInt8.ofNat (48 + digN N 4), UInt8.ofNat (48 + digN N 5), UInt8.ofNat (48 + digN N 6), UInt8.ofNat (48 + digN N 7)].toArray⟩ := by
  have e0 : digN N 0 = a / 10 ^ 1 % 10 := by show N / 10000000 % 10 = a / 10 % 10; omega
  have e1 : digN N 1 = a / 10 ^ 0 % 10 := by show N / 1000000 % 10 = a / 1 % 10; omega
  have e2 : digN N 2 = b / 10 ^ 1 % 10 := by show N / 100000 % 10 = b / 10 % 10; omega
  have e3 : digN N 3 = b / 10 ^ 0 % 10 := by show N / 10000 % 10 = b / 1 % 10; omega
  have e4 : digN N 4 = d / 10 ^ 3 % 10 := by show N / 1000 % 10 = d / 1000 % 10; omega
  have e5 : digN N 5 = d / 10 ^ 2 % 10 := by show N / 100 % 10 = d / 100 % 10; omega
  have e6 : digN N 6 = d / 10 ^ 1 % 10 := by show N / 10 % 10 = d / 10 % 10; omega
  have e7 : digN N 7 = d / 10 ^ 0 % 10 := by show N / 1 % 10 = d / 1 % 10; omega
  rw [e0, e1, e2, e3, e4, e5, e6, e7]
  show (⟨(padL a 2).toArray⟩ : ByteArray) ++ ⟨(padL b 2).toArray⟩ ++ ⟨(padL d 4).toArray⟩ = _
  rw [ByteArray.mk_append_mk, ByteArray.mk_append_mk]
  simp only [padL, List.append_toArray]
  rfl
theorem byteAt_digits (N : Nat) {i : Nat} (hi : i < 8) : byteAt ⟨[UInt8.ofNat (48 + digN N 0), UInt8.ofNat (48 + digN N 1), UInt8.ofNat (48 + digN N 2), UInt8.ofNat (48 + digN N 3), UInt8.ofNat (48 + digN N 4), UInt8.ofNat (48 + digN N 5), UInt8.ofNat (48 + digN N 6), UInt8.ofNat (48 + digN N 7)].toArray⟩ i = 48 + (digN N i : Int) := by
  have h := u8_nat (digN_lt N i)
  unfold byteAt
  obtain rfl | rfl | rfl | rfl | rfl | rfl | rfl | rfl : i = 0 ∨ i = 1 ∨ i = 2 ∨ i = 3 ∨ i = 4 ∨ i = 5 ∨ i = 6 ∨ i = 7 := by omega
  all_goals (show (((UInt8.ofNat (48 + digN N _)).toNat : Nat) : Int) = _; rw [h]; omega)
theorem numC_lo (N : Nat) {i : Nat} (hi : i < 8) : (numC N i).toNat = 48 + digN N i := by
  unfold numC
  rw [if_pos hi]
  omega
theorem fmt_eq (a b d : Nat) (ha : a ≤ 99) (hb : b ≤ 99) (hd : d ≤ 9999) :
    (padI a 2 ++ padI b 2 ++ padI d 4) ++ letS (padI a 2 ++ padI b 2 ++ padI d 4) = tx9 (numC (idN a b d)) ∧ (letS (padI a 2 ++ padI b 2 ++ padI d 4)).size = 1 := by
  obtain ⟨N, hN⟩ : ∃ N, idN a b d = N := ⟨_, rfl⟩
  have hN' : N = a * 1000000 + b * 10000 + d := by rw [← hN]; unfold idN; omega
  rw [hN, pads_eq a b d N ha hb hd hN']
  have hb := fun i (hi : i < 8) => byteAt_digits N hi
  generalize hS : (⟨[UInt8.ofNat (48 + digN N 0), UInt8.ofNat (48 + digN N 1), UInt8.ofNat (48 + digN N 2), UInt8.ofNat (48 + digN N 3), UInt8.ofNat (48 + digN N 4), UInt8.ofNat (48 + digN N 5), UInt8.ofNat (48 + digN N 6), UInt8.ofNat (48 + digN N 7)].toArray⟩ : ByteArray) = S at hb
  have hz : S.size = 8 := by rw [← hS]; rfl
  have hdg : digs (byteAt S) 8 = true := (digs_iff _ _).2 fun i hi => by rw [hb i hi]; have := digN_lt N i; omega
  have hw : wsum (byteAt S) 8 = wsum (partC N 0) 8 := wsum_ext 8 fun i hi => by rw [hb i hi]; unfold partC; rw [if_pos ⟨by omega, hi⟩]
  have hl : letS S = ⟨[UInt8.ofNat (lett ((wsum (partC N 0) 8) % 23).toNat).toNat].toArray⟩ := by unfold letS; rw [if_pos ⟨hz, hdg⟩, hw]
  refine ⟨?_, by rw [hl]; rfl⟩
  rw [hl, ← hS, ByteArray.mk_append_mk]
  unfold tx9
  rw [numC_lo N (by omega), numC_lo N (by omega), numC_lo N (by omega), numC_lo N (by omega), numC_lo N (by omega), numC_lo N (by omega), numC_lo N (by omega), numC_lo N (by omega)]
  rfl
attribute [local irreducible] padI in
set_option maxHeartbeats 2000000 in
theorem rformat_any (a b d : Int) (w : World) :
    Calls Try.prog 14 #[.agg #[.int .i64 a, .int .i64 b, .int .i64 d]] w fun e w' => e = .returned (.tuple #[.string (fmtS a b d), .int .i64 (fmtE a b d)]) ∧ Below w.heap.size w w' := by
  go_enter Try.func14, Try.ntmps14
  go_wp2_with fail
  have P0 : Hid (Blk (w.alloc (.cells #[.int .i64 a, .int .i64 b, .int .i64 d] 23)) w.heap.size 23 #[.int .i64 a, .int .i64 b, .int .i64 d]) := Lib.hid (Blk.newAt rfl)
  refine (rvalid_any a b d _).mono ?_
  rintro e w1 ⟨rfl, hb⟩
  have HB := Lib.hid (bTr (bAl (Below.refl _ w) _) hb)
  have PX := Lib.hid (P0.out.later hb)
  clear P0 hb
  by_cases hv : okID a b d = true
  · obtain ⟨⟨a0, a1⟩, ⟨b0, b1⟩, d0, d1⟩ := (okID_iff a b d).1 hv
    rw [hv]
    obtain ⟨na, rfl⟩ := Int.eq_ofNat_of_zero_le a0
    obtain ⟨nb, rfl⟩ := Int.eq_ofNat_of_zero_le b0
    obtain ⟨nd, rfl⟩ := Int.eq_ofNat_of_zero_le d0
    have x0 : w1.cell? ⟨w.heap.size, 0, none⟩ = some (.int .i64 (na : Int)) := PX.out.cell 0
    have x1 : w1.cell? ⟨w.heap.size, 1, none⟩ = some (.int .i64 (nb : Int)) := PX.out.cell 1
    have x2 : w1.cell? ⟨w.heap.size, 2, none⟩ = some (.int .i64 (nd : Int)) := PX.out.cell 2
    go_wp2_with fail
    have c0 : (0 : Int) ≤ na ∧ (na : Int) < 1000000 := by omega
    have c1 : (0 : Int) ≤ nb ∧ (nb : Int) < 1000000 := by omega
    have c2 : (0 : Int) ≤ nd ∧ (nd : Int) < 1000000 := by omega
    have s0 : (padI na 2).size = 2 := padI_size _ _
    have s1 : (padI nb 2).size = 2 := padI_size _ _
    have s2 : (padI nd 4).size = 4 := padI_size _ _
    have q0 := bq_cell (w := w1) PX.out.lt x0
    have q1 := bq_cell (w := w1) PX.out.lt x1
    have q2 := bq_cell (w := w1) PX.out.lt x2
    refine wp_region_below mixed (by kernel_rfl) ?_
    repeat (go_big_quiet_step ((go_at_call 29; exact bq_call (padded_i _ _ (by assumption) (by first | exact .inl rfl | exact .inr rfl) _))))
    refine wpQuiet_nil ?_
    intro w5 hw'
    have HB5 := Lib.hid (show Below w1.heap.size w1 w5 by obtain ⟨p, h⟩ := hw'; exact h ▸ p.h)
    clear hw' q0 q1 q2 x0 x1 x2
    obtain ⟨hF, hL⟩ := fmt_eq na nb nd (by omega) (by omega) (by omega)
    have HS : Hid (tx9 (numC (idN na nb nd)) = fmtS na nb nd ∧ (0 : Int) = fmtE na nb nd) := Lib.hid ⟨by unfold fmtS; rw [if_pos hv], by unfold fmtE; rw [if_pos hv]⟩
    go_wp2_with fail
    refine (rletter_any _ _).mono ?_
    rintro e w6 ⟨rfl, hb⟩
    have HB6 := Lib.hid (bTr HB.out (bTr HB5.out hb))
    clear hb
    go_wp2_with fail
    exact bodyPost_ret (v := .tuple #[.string (tx9 (numC (idN na nb nd))), .int .i64 0]) (by simp [results, Try.results14, go_sem]) rfl ⟨ret_text HS.out.1 HS.out.2, HB6.out⟩
  · have HS : Hid (ByteArray.empty = fmtS a b d ∧ (2 : Int) = fmtE a b d) := Lib.hid ⟨by unfold fmtS; rw [if_neg hv], by unfold fmtE; rw [if_neg hv]⟩
    rw [eq_false_of_ne_true hv]
    go_wp2_with fail
    exact bodyPost_ret (v := .tuple #[.string .empty, .int .i64 2]) (by simp [results, Try.results14, go_sem]; rfl) rfl ⟨ret_text HS.out.1 HS.out.2, HB.out⟩
theorem byteAt_cut (s : ByteArray) (h : s.size = 9) {i : Nat} (hi : i < 8) : byteAt (s.extract 0 8) i = byteAt s i := by
  obtain ⟨⟨l⟩⟩ := s
  have hl : l.length = 9 := h
  unfold byteAt
  rw [ByteArray.extract_mk]
  simp [List.getD_eq_getElem?_getD, hi]
theorem letS_cut (s : ByteArray) (h : s.size = 9) (hd : digs (byteAt s) 8 = true) : letS (s.extract 0 8) = ⟨[UInt8.ofNat (lett ((wsum (byteAt s) 8) % 23).toNat).toNat].toArray⟩ := by
  have hz : (s.extract 0 8).size = 8 := by rw [ByteArray.size_extract]; omega
  have hd' : digs (byteAt (s.extract 0 8)) 8 = true := (digs_iff _ _).2 fun i hi => by rw [byteAt_cut s h hi]; exact (digs_iff _ _).1 hd i hi
  unfold letS
  rw [if_pos ⟨hz, hd'⟩, wsum_ext 8 fun i hi => byteAt_cut s h hi]
theorem last_eq (s : ByteArray) (h : s.size = 9) (L : Int) (hL : 0 ≤ L ∧ L < 256) : ([UInt8.ofNat L.toNat] == (s.extract 8 9).toList) = (byteAt s 8 == L) := by
  have e : (s.extract 8 9).toList = [s.data.toList.getD 8 0] := by
    obtain ⟨⟨l⟩⟩ := s
    have hl : l.length = 9 := h
    obtain ⟨x0, x1, x2, x3, x4, x5, x6, x7, x8, rfl⟩ : ∃ x0 x1 x2 x3 x4 x5 x6 x7 x8, l = [x0, x1, x2, x3, x4, x5, x6, x7, x8] := by
      match l, hl with
      | [x0, x1, x2, x3, x4, x5, x6, x7, x8], _ => exact ⟨x0, x1, x2, x3, x4, x5, x6, x7, x8, rfl⟩
    rw [ByteArray.extract_mk]
    simp
  rw [e]
  unfold byteAt
  have h1 := u8_back hL
  by_cases g : (s.data.toList.getD 8 0) = UInt8.ofNat L.toNat
  · rw [g, h1]; simp
  · have g2 : ¬ ((s.data.toList.getD 8 0).toNat : Int) = L := fun h2 => g (by rw [← h1] at h2; exact UInt8.toNat_inj.1 (Int.ofNat.inj h2))
    rw [beq_eq_false_iff_ne.2 g2]
    exact beq_eq_false_iff_ne.2 (fun h3 => g (List.cons.inj h3).1.symm)
set_option maxHeartbeats 2000000 in
theorem rparse_any (s : ByteArray) (w : World) :
    Calls Try.prog 22 #[.string s] w fun e w' => e = .returned (.tuple #[.agg #[.int .i64 (prV s / 1000000), .int .i64 (prV s % 1000000 / 10000), .int .i64 (prV s % 10000)], .int .i64 (prE s)]) ∧ Below w.heap.size w w' := by
  have HS : Hid (prE s = (if shp s = true then (if rgt s = true then 0 else 24) else 7) ∧ prV s = (if shp s = true then (if rgt s = true then valD (byteAt s) 8 else 0) else 0)) := Lib.hid ⟨rfl, rfl⟩
  go_enter Try.func22, Try.ntmps22
  go_wp2_with fail
  have P0 : Hid (Blk (w.alloc (.cells #[.int .i64 0, .int .i64 0, .int .i64 0] 23)) w.heap.size 23 #[.int .i64 0, .int .i64 0, .int .i64 0]) := Lib.hid (Blk.newAt rfl)
  refine (shape_any s _).mono ?_
  rintro e w1 ⟨rfl, hb⟩
  have HB := Lib.hid (bTr (bAl (Below.refl _ w) _) hb)
  have PR := Lib.hid (P0.out.later hb)
  clear P0 hb
  cases hs : shp s
  · have PV : prV s = 0 := by rw [HS.out.2, hs, if_neg (by simp)]
    have PE : prE s = 7 := by rw [HS.out.1, hs, if_neg (by simp)]
    have x0 := PR.out.cell 0
    have x1 := PR.out.cell 1
    have x2 := PR.out.cell 2
    have f0 := PR.out.frozen 0
    have f1 := PR.out.frozen 1
    have f2 := PR.out.frozen 2
    simp at x0 x1 x2
    go_wp2_with fail
    refine bodyPost_ret (v := .tuple #[.agg #[.int .i64 0, .int .i64 0, .int .i64 0], .int .i64 7]) (by simp [results, Try.results22, go_sem, x0, x1, x2]) rfl ⟨ret_id (by rw [PV]; try rfl) (by rw [PV]; try rfl) (by rw [PV]; try rfl) PE.symm, ?_⟩
    exact bSt (bSt (bSt HB.out (by simp) _) (by simp) _) (by simp) _
  · have h9 : s.size = 9 := by unfold shp at hs; simp at hs; exact hs.1
    have hd : digs (byteAt s) 8 = true := by unfold shp at hs; simp at hs; exact hs.2.1
    have HD := Lib.hid hd
    go_wp2_with fail
    refine (rletter_any _ _).mono ?_
    rintro e w2 ⟨rfl, hb⟩
    have HB2 := Lib.hid (bTr HB.out hb)
    have PR2 := Lib.hid (PR.out.later hb)
    clear hb HB PR
    rw [letS_cut s h9 hd]
    have x0 := PR2.out.cell 0
    have x1 := PR2.out.cell 1
    have x2 := PR2.out.cell 2
    have f0 := PR2.out.frozen 0
    have f1 := PR2.out.frozen 1
    have f2 := PR2.out.frozen 2
    simp at x0 x1 x2
    have hq := last_eq s h9 _ (lett_bd ((wsum (byteAt s) 8) % 23).toNat)
    cases hr : rgt s
    · have PV : prV s = 0 := by rw [HS.out.2, hs, if_pos rfl, hr, if_neg (by simp)]
      have PE : prE s = 24 := by rw [HS.out.1, hs, if_pos rfl, hr, if_neg (by simp)]
      rw [show (byteAt s 8 == lett ((wsum (byteAt s) 8) % 23).toNat) = false from hr] at hq
      go_wp2_with fail
      refine bodyPost_ret (v := .tuple #[.agg #[.int .i64 0, .int .i64 0, .int .i64 0], .int .i64 24]) (by simp [results, Try.results22, go_sem, x0, x1, x2]) rfl ⟨ret_id (by rw [PV]; try rfl) (by rw [PV]; try rfl) (by rw [PV]; try rfl) PE.symm, ?_⟩
      exact bSt (bSt (bSt HB2.out (by simp) _) (by simp) _) (by simp) _
    · have PV : prV s = valD (byteAt s) 8 := by rw [HS.out.2, hs, if_pos rfl, hr, if_pos rfl]
      have PE : prE s = 0 := by rw [HS.out.1, hs, if_pos rfl, hr, if_pos rfl]
      rw [show (byteAt s 8 == lett ((wsum (byteAt s) 8) % 23).toNat) = true from hr] at hq
      go_wp2_with fail
      go_loopw [6, 7] (fun v i wr => ∃ (k : Nat), i = .int .i64 k ∧ k ≤ 8 ∧ v = .int .i64 (valD (byteAt s) k) ∧ wr = w2) (fun _ i _ => 8 - (intOf i).toNat)
      case atStart => exact ⟨0, rfl, by omega, rfl, rfl⟩
      case round =>
        obtain ⟨k, rfl, hk, rfl, rfl⟩ := hrel
        have hb := valD_bd (byteAt s) HD.out hk
        by_cases hk8 : k < 8
        · have hx := byteAt_at s k (by omega)
          have h1 := (digs_iff _ _).1 HD.out k hk8
          have hks : k < s.size := by omega
          have HX : Hid (valD (byteAt s) (k + 1) = 10 * valD (byteAt s) k + dg (byteAt s k)) := Lib.hid rfl
          have hdg : dg (byteAt s k) = byteAt s k - 48 := by unfold dg; omega
          rw [hdg] at HX
          obtain ⟨h1, h2⟩ := h1
          generalize byteAt s k = x at hx h1 h2 HX
          go_wp2
          case roundEnd => exact ⟨⟨k + 1, by simp, by omega, by rw [HX.out], trivial⟩, by simp [intOf]; omega⟩
        · obtain rfl : k = 8 := by omega
          have hm : valD (byteAt s) 8 / 10000 % 100 = valD (byteAt s) 8 % 1000000 / 10000 := by omega
          go_wp2
          refine bodyPost_ret (v := .tuple #[.agg #[.int .i64 (valD (byteAt s) 8 / 1000000), .int .i64 (valD (byteAt s) 8 % 1000000 / 10000), .int .i64 (valD (byteAt s) 8 % 10000)], .int .i64 0]) (by simp [results, Try.results22, go_sem, x0, x1, x2]) rfl ⟨ret_id (by rw [PV]; try rfl) (by rw [PV]; try rfl) (by rw [PV]; try rfl) PE.symm, ?_⟩
          exact bSt (bSt (bSt HB2.out (by simp) _) (by simp) _) (by simp) _
end Go.Proofs.Ytlionhmmefghmaa
