/-
  The reference's Near: the numbers put into an ascending list one by one.
-/
import Derived.Test.YtlionhmmefghmaaInsert
namespace Go.Proofs.Ytlionhmmefghmaa
open Go.RowKit
set_option linter.unusedSimpArgs false
set_option linter.unusedVariables false
set_option maxRecDepth 100000

/-- a text's bytes -/
abbrev bytesL (s : ByteArray) : List UInt8 := s.data.toList
theorem insL_len (l : List (List UInt8)) (s : List UInt8) : (insL l s).length ≤ l.length + 1 := by
  unfold insL
  split
  · omega
  · rw [List.length_append, List.length_append, List.length_take, List.length_drop]
    simp
    omega
/-- all but the text itself, put in -/
def putL (t : List UInt8) (acc : List (List UInt8)) (l : List (List UInt8)) : List (List UInt8) := (l.filter fun x => !(x == t)).foldl insL acc
theorem putL_len (t : List UInt8) (l : List (List UInt8)) : ∀ acc, (putL t acc l).length ≤ acc.length + l.length := by
  unfold putL
  induction l with
  | nil => intro acc; simp
  | cons x l ih =>
    intro acc
    cases hx : !(x == t)
    · rw [List.filter_cons_of_neg (by simp [hx])]
      have := ih acc
      simp only [List.length_cons]
      omega
    · rw [List.filter_cons_of_pos (by simp [hx]), List.foldl_cons]
      have := ih (insL acc x)
      have := insL_len acc x
      simp only [List.length_cons]
      omega
theorem putL_next (t : List UInt8) (acc l : List (List UInt8)) (x : List UInt8) : putL t acc (l ++ [x]) = if x = t then putL t acc l else insL (putL t acc l) x := by
  unfold putL
  rw [List.filter_append, List.foldl_append]
  by_cases h : x = t
  · rw [if_pos h]; simp [h]
  · rw [if_neg h]
    have : (!(x == t)) = true := by simp [h]
    simp [h]
/-- the list behind k places -/
def nearK (s : ByteArray) : Nat → List (List UInt8)
  | 0 => []
  | k + 1 => putL (bytesL s) (nearK s k) (wth (byteAt s) k allB)
theorem nearK_len (s : ByteArray) (k : Nat) : (nearK s k).length ≤ 43 * k := by
  induction k with
  | zero => simp [nearK]
  | succ k ih =>
    have h1 := putL_len (bytesL s) (wth (byteAt s) k allB) (nearK s k)
    have h2 := wth_len (byteAt s) k allB
    have h3 : allB.length = 43 := by decide
    show (putL (bytesL s) (nearK s k) (wth (byteAt s) k allB)).length ≤ _
    omega
def rnearL (s : ByteArray) : List (List UInt8) := if shp s = true then nearK s 9 else []
set_option maxHeartbeats 4000000 in
theorem rnear_list (t : List UInt8) (w : World) :
    Calls Try.prog 27 #[.string ⟨t.toArray⟩] w fun e w' => ∃ v, e = .returned v ∧ Texts w' w.heap.size v (rnearL ⟨t.toArray⟩) ∧ Below w.heap.size w w' := by
  have hc := byteAt_bd ⟨t.toArray⟩
  have HF := Lib.hid (show rnearL ⟨t.toArray⟩ = if shp ⟨t.toArray⟩ = true then nearK ⟨t.toArray⟩ 9 else [] from rfl)
  go_enter Try.func27, Try.ntmps27
  go_wp2_with fail
  refine (shape_any ⟨t.toArray⟩ _).mono ?_
  rintro e w1 ⟨rfl, hb⟩
  have HB := Lib.hid hb
  clear hb
  cases hs : shp ⟨t.toArray⟩
  · rw [hs, if_neg (by simp)] at HF
    go_wp2_with fail
    exact bodyPost_ret (v := .slice none 0 0) (by simp [results, Try.results27, go_sem]) rfl ⟨_, rfl, by rw [HF.out]; exact Texts.nil _ _, HB.out⟩
  · rw [hs, if_pos rfl] at HF
    have h9 : (⟨t.toArray⟩ : ByteArray).size = 9 := by unfold shp at hs; simp at hs; exact hs.1
    have HN := Lib.hid (fun k => nearK_len ⟨t.toArray⟩ k)
    have HK := Lib.hid (show ∀ k, nearK ⟨t.toArray⟩ (k + 1) = putL t (nearK ⟨t.toArray⟩ k) (wth (byteAt ⟨t.toArray⟩) k allB) from fun k => rfl)
    have HWL := Lib.hid (fun k => wth_len (byteAt ⟨t.toArray⟩) k allB)
    have H43 := Lib.hid (show allB.length = 43 by decide)
    go_wp2_with fail
    go_loopw [3, 4] (fun f i wr => ∃ (k : Nat), i = .int .i64 k ∧ k ≤ 9 ∧ Texts wr w.heap.size f (nearK ⟨t.toArray⟩ k) ∧ Hid (Below w.heap.size w wr)) (fun _ i _ => 9 - (intOf i).toNat)
    case atStart => exact ⟨0, rfl, by omega, Texts.nil _ _, HB⟩
    case round =>
      obtain ⟨k, rfl, hk, hown, HBr⟩ := hrel
      have HO := Lib.hid hown
      clear hown
      by_cases hk9 : k < 9
      · go_wp2_with fail
        refine (with_any ⟨t.toArray⟩ h9 k hk9 _).mono ?_
        rintro e w2 ⟨v, rfl, hl, hb⟩
        have HL := Lib.hid (show Texts w2 w.heap.size v (wth (byteAt ⟨t.toArray⟩) k allB) from own_up hl HBr.out.size)
        have HO2 := Lib.hid (own_later HO.out hb)
        have HB2 := Lib.hid (bTr HBr.out hb)
        clear hl hb HO HBr
        obtain ⟨L, hL⟩ : ∃ L, wth (byteAt ⟨t.toArray⟩) k allB = L := ⟨_, rfl⟩
        have HLL := Lib.hid (show L.length ≤ 43 by rw [← hL, ← H43.out]; exact HWL.out k)
        have HKk := HK.out k
        rw [hL] at HL HKk
        have HKK := Lib.hid HKk
        have HNk := Lib.hid (show (nearK ⟨t.toArray⟩ k).length ≤ 500 from Nat.le_trans (HN.out k) (by omega))
        generalize nearK ⟨t.toArray⟩ k = acc at HO2 HKK HNk
        clear hL HKk
        obtain ⟨o, cap, rfl, hcells⟩ := texts_shape HL.out
        clear hcells
        go_wp2_with fail
        go_loopw [3, 6] (fun f i wr => ∃ (j : Nat), i = .int .i64 j ∧ j ≤ L.length ∧ Texts wr w.heap.size f (putL t acc (L.take j)) ∧ Hid (Texts wr w.heap.size (.slice o L.length cap) L) ∧ Hid (Below w.heap.size w wr)) (fun _ i _ => L.length - (intOf i).toNat)
        case atStart => exact ⟨0, rfl, by omega, HO2.out, HL, HB2⟩
        case round =>
          obtain ⟨j, rfl, hj, hown, HL3, HB3⟩ := hrel
          have HO3 := Lib.hid hown
          clear hown HO2 HL HB2
          by_cases hjL : j < L.length
          · have hjL' : (j : Int) < (L.length : Int) := by omega
            obtain ⟨o', c', e', hce⟩ := texts_shape HL3.out
            obtain ⟨g, rfl, hgl, y0⟩ := hce j hjL
            injection e' with e1 e2 e3
            subst e1
            subst e3
            clear e2
            have hL43 := HLL.out
            have HQ := Lib.hid (show L[j]? = some (L.getD j []) by rw [List.getD_eq_getElem?_getD, List.getElem?_eq_getElem hjL]; rfl)
            have HTk := Lib.hid (show L.take (j + 1) = L.take j ++ [L.getD j []] by rw [List.take_add_one, HQ.out]; rfl)
            have HPn := Lib.hid (putL_next t acc (L.take j) (L.getD j []))
            have HPL := Lib.hid (show (putL t acc (L.take j)).length ≤ 1000 from Nat.le_trans (putL_len _ _ _) (by rw [List.length_take]; have := HLL.out; have := HNk.out; omega))
            by_cases hes : L.getD j [] = t
            · rw [if_pos hes, ← HTk.out] at HPn
              rw [hes] at y0
              rw [← HPn.out] at HO3
              go_wp2_with fail
              case roundEnd => exact ⟨⟨j + 1, by simp, by omega, HO3.out, HL3, HB3⟩, by simp [intOf]; omega⟩
            · rw [if_neg hes, ← HTk.out] at HPn
              have hbf : (L.getD j [] == t) = false := beq_eq_false_iff_ne.2 hes
              clear hes
              generalize L.getD j [] = u at y0 hbf HPn
              go_wp2_with fail
              refine (insert_any u3 _ u wr w.heap.size HB3.out.size HO3.out HPL.out).mono ?_
              rintro e w4 ⟨v', rfl, ht, hb⟩
              rw [← HPn.out] at ht
              have HO4 := Lib.hid ht
              have HL4 : Hid (Texts w4 w.heap.size _ L) := Lib.hid (own_later HL3.out hb)
              have HB4 := Lib.hid (bTr HB3.out hb)
              clear ht hb HO3
              go_wp2_with fail
              case roundEnd => exact ⟨⟨j + 1, by simp, by omega, HO4.out, HL4, HB4⟩, by simp [intOf]; omega⟩
          · obtain rfl : j = L.length := by omega
            rw [List.take_length, ← HKK.out] at HO3
            go_wp2_with fail
            case roundEnd => exact ⟨⟨k + 1, by simp, by omega, HO3.out, HB3⟩, by simp [intOf]; omega⟩
      · obtain rfl : k = 9 := by omega
        have HX := Lib.hid (show ∀ v, v = u3 → ∃ v', Ending.returned v = .returned v' ∧ Texts wr w.heap.size v' (rnearL ⟨t.toArray⟩) ∧ Below w.heap.size w wr from fun v e => by subst e; exact ⟨_, rfl, by rw [HF.out]; exact HO.out, HBr.out⟩)
        go_wp2_with fail
        exact bodyPost_ret (v := u3) (by simp [results, Try.results27, go_sem]) rfl (HX.out _ rfl)
theorem rnear_any (s : ByteArray) (w : World) :
    Calls Try.prog 27 #[.string s] w fun e w' => ∃ v, e = .returned v ∧ Texts w' w.heap.size v (rnearL s) ∧ Below w.heap.size w w' := by
  obtain ⟨⟨t⟩⟩ := s
  exact rnear_list t w
end Go.Proofs.Ytlionhmmefghmaa
