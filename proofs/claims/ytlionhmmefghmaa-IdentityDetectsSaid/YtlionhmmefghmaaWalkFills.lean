/-
  The walk of the statement on Fill.
-/
import Derived.Test.YtlionhmmefghmaaFill
import Derived.Test.YtlionhmmefghmaaQuietB
namespace Go.Proofs.Ytlionhmmefghmaa
open Go.RowKit
set_option linter.unusedSimpArgs false
set_option linter.unusedVariables false
set_option maxRecDepth 100000

theorem good_ext {c d : Nat → Int} (h : ∀ i, i < 9 → c i = d i) : good c = good d := by
  have hd : digs c 8 = digs d 8 := by
    cases e : digs d 8
    · cases e2 : digs c 8
      · rfl
      · rw [(digs_iff d 8).2 fun i hi => by rw [← h i (by omega)]; exact (digs_iff _ _).1 e2 i hi] at e
        cases e
    · exact (digs_iff _ _).2 fun i hi => by rw [h i (by omega)]; exact (digs_iff _ _).1 e i hi
  unfold good lsum
  rw [hd, h 8 (by omega), wsum_ext 8 fun i hi => h i (by omega)]
theorem upd_ext {c d : Nat → Int} (h : ∀ i, i < 9 → c i = d i) (p : Nat) (x : Int) : ∀ i, i < 9 → upd c p x i = upd d p x i := fun i hi => by
  unfold upd
  split
  · rfl
  · exact h i hi
theorem tL_ext {c d : Nat → Int} (h : ∀ i, i < 9 → c i = d i) : tL c = tL d := by
  unfold tL
  rw [h 0 (by omega), h 1 (by omega), h 2 (by omega), h 3 (by omega), h 4 (by omega), h 5 (by omega), h 6 (by omega), h 7 (by omega), h 8 (by omega)]
theorem rep_ext {c d : Nat → Int} (h : ∀ i, i < 9 → c i = d i) {p : Nat} (hp : p < 9) (l : List Int) : rep c p l = rep d p l := by
  unfold rep
  rw [h p hp, List.filter_congr (q := fun x => !(x == d p) && good (upd d p x)) fun x _ => by rw [good_ext (upd_ext h p x)]]
  exact List.map_congr_left fun x _ => tL_ext (upd_ext h p x)
theorem splice_num (N p : Nat) (hp : p < 9) (x : Int) (hx : 0 ≤ x ∧ x < 256) : (tx9 (numC N)).extract 0 p ++ ⟨#[UInt8.ofNat x.toNat]⟩ ++ (tx9 (numC N)).extract (p + 1) 9 = tx9 (upd (numC N) p x) := by
  rw [splice (tx9 (numC N)) rfl p hp x hx]
  exact tx9_ext (upd_ext (fun i hi => byteAt_tx9 _ (numC_bd N) hi) p x)
theorem fillL_len (s : ByteArray) : (fillL s).length ≤ 100000 := by
  unfold fillL
  split
  · refine Nat.le_trans (rep_len _ _ _) ?_
    unfold sy
    split <;> decide
  · decide
theorem letter_not_mark (N : Nat) {i : Nat} (hi : i < 9) : numC N i ≠ 63 := fun e => by
  have := good_place (good_num N) hi
  rw [e, plc_mark] at this
  cases this
/-- the number with a mark in place of one byte -/
theorem fill_mark (N p : Nat) (hp : p < 9) : fillL (tx9 (upd (numC N) p 63)) = [tL (numC N)] := by
  have hc := upd_bd (numC_bd N) p (show (0 : Int) ≤ 63 ∧ (63 : Int) < 256 by omega)
  have hb : ∀ i, i < 9 → byteAt (tx9 (upd (numC N) p 63)) i = upd (numC N) p 63 i := fun i hi => byteAt_tx9 _ hc hi
  have hz : (tx9 (upd (numC N) p 63)).size = 9 := rfl
  rcases mark_cases (tx9 (upd (numC N) p 63)) with ⟨-, hn⟩ | ⟨i, hi, hm, hmi⟩
  · exact absurd (by rw [hb p hp, upd_same]) (hn p (by omega))
  · rw [hz] at hi
    have hip : i = p := by
      by_cases e : i = p
      · exact e
      · rw [hb i hi, upd_other _ _ e] at hmi
        exact absurd hmi (letter_not_mark N hi)
    subst hip
    unfold fillL
    rw [if_pos ⟨hz, by omega⟩, hm]
    show rep (byteAt (tx9 (upd (numC N) i 63))) i (sy i) = _
    rw [← rep_fill N hi (plc_mark i)]
    exact rep_ext hb hi _
theorem texts_one (w : World) (B : Nat) (hB : B ≤ w.heap.size) (l : List UInt8) : Texts (w.alloc (.cells #[encStr l] 9)) B (.slice (some ⟨w.heap.size, 0, none⟩) 1 1) [l] :=
  ⟨rfl, .inr ⟨w.heap.size, 1, #[encStr l], rfl, hB, heap_alloc_new w _, by simp, by simp [maxLen], rfl, rfl⟩⟩
set_option maxHeartbeats 4000000 in
theorem walkIdentityFills (s : ByteArray) (a1 a2 a3 : Int) (hs : s.size ≤ maxLen) (l1 : -9223372036854775808 ≤ a1) (u1 : a1 < 9223372036854775808) (l2 : -9223372036854775808 ≤ a2) (u2 : a2 < 9223372036854775808) (l3 : 0 ≤ a3) (u3 : a3 < 256) (w : World) :
    Calls Try.prog 7 #[.string s, .int .i64 a1, .int .i64 a2, .int .u8 a3] w fun e w' => e = .returned (.bool true) ∧ Below w.heap.size w w' := by
  go_enter Try.func7, Try.ntmps7
  go_wp2_with fail
  refine (number_any a1 (by omega) _).mono ?_
  rintro e w1 ⟨rfl, hb⟩
  have HB := Lib.hid hb
  clear hb
  obtain ⟨N, hN, hNN⟩ : ∃ N : Nat, N < 100000000 ∧ numS a1 = tx9 (numC N) := ⟨_, by omega, rfl⟩
  rw [hNN]
  have hz : (tx9 (numC N)).size = 9 := rfl
  go_wp2_with fail
  refine (cut_any a2 9 (by omega) (by omega) _).mono ?_
  rintro e w' ⟨rfl, rfl⟩
  have hm0 : 0 ≤ a2 % 9 ∧ a2 % 9 < 9 := by omega
  generalize a2 % 9 = m0 at hm0 ⊢
  obtain ⟨m, rfl⟩ := Int.eq_ofNat_of_zero_le hm0.1
  have hY := fill_mark N m (by omega)
  have hm9 : m < 9 := by omega
  have hsp : (tx9 (numC N)).extract 0 m ++ ⟨#[63]⟩ ++ (tx9 (numC N)).extract (m + 1) 9 = tx9 (upd (numC N) m 63) := splice_num N m hm9 63 (by omega)
  have hz1 : ((tx9 (numC N)).extract 0 m).size = m := by rw [ByteArray.size_extract]; omega
  have hz2 : ((tx9 (numC N)).extract (m + 1) 9).size = 8 - m := by rw [ByteArray.size_extract]; omega
  have hm1 : (m : Int) ≤ 9 := by omega
  have hm2 : (m : Int) + 1 ≤ 9 := by omega
  go_wp2_with fail
  go_region
  clear hz1 hz2 hm1 hm2 hsp
  have HB1 := Lib.hid (bD1 HB.out)
  generalize w'.drew = w1 at HB1 ⊢
  clear HB
  have hzY : (tx9 (upd (numC N) m 63)).size = 9 := rfl
  generalize tx9 (upd (numC N) m 63) = Y at hY hzY ⊢
  go_wp2_with fail
  refine (cut_any a3 9 (by omega) (by omega) _).mono ?_
  rintro e w' ⟨rfl, rfl⟩
  have hk0 : 0 ≤ a3 % 9 ∧ a3 % 9 < 9 := by omega
  generalize a3 % 9 = k0 at hk0 ⊢
  obtain ⟨k, rfl⟩ := Int.eq_ofNat_of_zero_le hk0.1
  have hcv1 := text_one w' a3 (by omega)
  have hcv2 := text_blk (w'.alloc (.cells #[.int .u8 a3] 5)).drew w'.heap.size a3 (by omega) (Blk.newAt rfl)
  have hz1 : (Y.extract 0 k).size = k := by rw [ByteArray.size_extract]; omega
  have hz2 : (Y.extract (k + 1) 9).size = 8 - k := by rw [ByteArray.size_extract]; omega
  have hm1 : (k : Int) ≤ 9 := by omega
  have hm2 : (k : Int) + 1 ≤ 9 := by omega
  go_wp2_with fail
  go_region
  clear hcv1 hcv2 hz1 hz2 hm1 hm2
  have HB2 := Lib.hid (bD1 (bAl HB1.out (.cells #[.int .u8 a3] 5)))
  generalize (w'.alloc (.cells #[.int .u8 a3] 5)).drew = w2 at HB2 ⊢
  clear HB1
  generalize (Y.extract 0 k ++ { data := #[UInt8.ofNat a3.toNat] } ++ Y.extract (k + 1) 9) = Z
  go_wp2_with fail
  refine (fill_any s _).mono ?_
  rintro e w3 ⟨va3, rfl, hta, hb⟩
  have HTA := Lib.hid hta
  have HB3 := Lib.hid (bTr HB2.out hb)
  clear hb hta HB2
  go_wp2_with fail
  refine (rfill_any s _).mono ?_
  rintro e w4 ⟨vb3, rfl, htb, hb⟩
  have HTB := Lib.hid htb
  have HTA2 := Lib.hid (own_later HTA.out hb)
  have HB4 := Lib.hid (bTr HB3.out hb)
  clear hb htb HTA HB3
  go_wp2_with fail
  refine (texts_any _ _ _ _ _ _ _ HTA2.out HTB.out (fillL_len s) (fillL_len s)).mono ?_
  rintro e w5 ⟨rfl, hb⟩
  have HB5 := Lib.hid (bTr HB4.out hb)
  rw [decide_eq_true (rfl : fillL s = fillL s)]
  clear hb HTA2 HTB HB4
  go_wp2_with fail
  refine (fill_any Z _).mono ?_
  rintro e w6 ⟨va6, rfl, hta, hb⟩
  have HTA := Lib.hid hta
  have HB6 := Lib.hid (bTr HB5.out hb)
  clear hb hta HB5
  go_wp2_with fail
  refine (rfill_any Z _).mono ?_
  rintro e w7 ⟨vb6, rfl, htb, hb⟩
  have HTB := Lib.hid htb
  have HTA2 := Lib.hid (own_later HTA.out hb)
  have HB7 := Lib.hid (bTr HB6.out hb)
  clear hb htb HTA HB6
  go_wp2_with fail
  refine (texts_any _ _ _ _ _ _ _ HTA2.out HTB.out (fillL_len Z) (fillL_len Z)).mono ?_
  rintro e w8 ⟨rfl, hb⟩
  have HB8 := Lib.hid (bTr HB7.out hb)
  rw [decide_eq_true (rfl : fillL Z = fillL Z)]
  clear hb HTA2 HTB HB7
  go_wp2_with fail
  refine (fill_any Y _).mono ?_
  rintro e w9 ⟨va9, rfl, hta, hb⟩
  rw [hY] at hta
  have HTA := Lib.hid (own_later (hta.alloc (.cells #[encStr (tL (numC N))] 9)) (Below.refl _ _))
  have HB9 := Lib.hid (bTr HB8.out hb)
  have HTB := Lib.hid (texts_one w9 w.heap.size HB9.out.size (tL (numC N)))
  clear hb hta HB8
  go_wp2_with fail
  refine (texts_any _ _ _ _ _ _ _ HTA.out HTB.out (by simp) (by simp)).mono ?_
  rintro e w10 ⟨rfl, hb⟩
  have HB10 := Lib.hid (bTr (bAl HB9.out _) hb)
  rw [decide_eq_true (rfl : [tL (numC N)] = [tL (numC N)])]
  clear hb HTA HTB HB9
  go_wp2_with fail
  refine (awake_any _).mono ?_
  rintro e w11 ⟨rfl, hb⟩
  go_wp2_with fail
  go_ret
  exact ⟨rfl, bTr HB10.out hb⟩
end Go.Proofs.Ytlionhmmefghmaa
