/-
  The reference's With: the candidate numbers that result from other bytes at a place.
-/
import Derived.Test.YtlionhmmefghmaaRepl
namespace Go.Proofs.Ytlionhmmefghmaa
open Go.RowKit
set_option linter.unusedSimpArgs false
set_option linter.unusedVariables false
set_option maxRecDepth 100000

theorem wth_next_yes {c : Nat → Int} {p : Nat} {l : List Int} {x : Int} (h : good (upd c p x) = true) : wth c p (l ++ [x]) = wth c p l ++ [tL (upd c p x)] := by
  unfold wth
  rw [List.filter_append, List.map_append]
  congr 1
  simp only [List.filter_cons, h, if_true, List.filter_nil, List.map_cons, List.map_nil]
theorem wth_next_no {c : Nat → Int} {p : Nat} {l : List Int} {x : Int} (h : good (upd c p x) = false) : wth c p (l ++ [x]) = wth c p l := by
  unfold wth
  rw [List.filter_append, List.map_append]
  simp only [List.filter_cons, h, List.filter_nil, List.map_nil, List.append_nil]
  simp
theorem wth_len (c : Nat → Int) (p : Nat) (l : List Int) : (wth c p l).length ≤ l.length := by
  unfold wth
  rw [List.length_map]
  exact List.length_filter_le _ _
theorem prE_good (c : Nat → Int) (hc : ∀ i, 0 ≤ c i ∧ c i < 256) : prE (tx9 c) = 0 ↔ good c = true := by
  have hb : ∀ i, i < 9 → byteAt (tx9 c) i = c i := fun i hi => byteAt_tx9 _ hc hi
  have hd : digs (byteAt (tx9 c)) 8 = digs c 8 := by
    cases e : digs c 8
    · cases e2 : digs (byteAt (tx9 c)) 8
      · rfl
      · rw [(digs_iff c 8).2 fun i hi => by rw [← hb i (by omega)]; exact (digs_iff _ _).1 e2 i hi] at e
        cases e
    · exact (digs_iff _ _).2 fun i hi => by rw [hb i (by omega)]; exact (digs_iff _ _).1 e i hi
  have hw : wsum (byteAt (tx9 c)) 8 = wsum c 8 := wsum_ext 8 fun i hi => hb i (by omega)
  have hs : shp (tx9 c) = (digs c 8 && isLet (c 8)) := by
    unfold shp
    rw [hd, hb 8 (by omega)]
    rfl
  have hr : rgt (tx9 c) = (c 8 == lsum c) := by
    unfold rgt lsum
    rw [hb 8 (by omega), hw]
  unfold prE good
  rw [hs, hr]
  cases digs c 8 && isLet (c 8) <;> cases c 8 == lsum c <;> simp
theorem splice (s : ByteArray) (h9 : s.size = 9) (p : Nat) (hp : p < 9) (x : Int) (hx : 0 ≤ x ∧ x < 256) :
    s.extract 0 p ++ ⟨#[UInt8.ofNat x.toNat]⟩ ++ s.extract (p + 1) 9 = tx9 (upd (byteAt s) p x) := by
  obtain ⟨⟨l⟩⟩ := s
  have hl : l.length = 9 := h9
  obtain ⟨x0, x1, x2, x3, x4, x5, x6, x7, x8, rfl⟩ : ∃ x0 x1 x2 x3 x4 x5 x6 x7 x8, l = [x0, x1, x2, x3, x4, x5, x6, x7, x8] := by
    match l, hl with
    | [x0, x1, x2, x3, x4, x5, x6, x7, x8], _ => exact ⟨x0, x1, x2, x3, x4, x5, x6, x7, x8, rfl⟩
  have e : ∀ x : UInt8, UInt8.ofNat ((x.toNat : Int).toNat) = x := fun x => by simp
  have k : ∀ i, i < 9 → ∀ y, byteAt ⟨[x0, x1, x2, x3, x4, x5, x6, x7, x8].toArray⟩ i = (y : UInt8).toNat → UInt8.ofNat (byteAt ⟨[x0, x1, x2, x3, x4, x5, x6, x7, x8].toArray⟩ i).toNat = y := fun i _ y h => by rw [h]; exact e y
  rw [ByteArray.extract_mk, ByteArray.extract_mk, ByteArray.mk_append_mk, ByteArray.mk_append_mk]
  unfold tx9
  obtain rfl | rfl | rfl | rfl | rfl | rfl | rfl | rfl | rfl : p = 0 ∨ p = 1 ∨ p = 2 ∨ p = 3 ∨ p = 4 ∨ p = 5 ∨ p = 6 ∨ p = 7 ∨ p = 8 := by omega
  all_goals simp [upd, byteAt]
theorem allB_at {k : Nat} (h : k < 43) : allB[k]? = some (48 + (k : Int)) := by
  have : ∀ k : Fin 43, allB[k.val]? = some (48 + (k.val : Int)) := by decide +kernel
  exact this ⟨k, h⟩
theorem cell_one_new' (w : World) {g : Nat} (hg : g = w.heap.size) (x : Value) (t : TypeId) : ∀ j u, [x][j]? = some u → (w.alloc (.cells #[x] t)).cell? ((⟨g, 0, none⟩ : Addr).add j) = some u := by
  subst hg
  exact cell_one_new w x t
theorem with_any (s : ByteArray) (h9 : s.size = 9) (p : Nat) (hp : p < 9) (w : World) :
    Calls Try.prog 41 #[.string s, .int .i64 p] w fun e w' => ∃ v, e = .returned v ∧ w'.ownsRow w.heap.size 9 1 v (wth (byteAt s) p allB).length ((wth (byteAt s) p allB).map encStr) ∧ Below w.heap.size w w' := by
  obtain ⟨j0, hj0, hy0, hy1, hy2⟩ := info_parts str_info
  have hal : allB.length = 43 := by decide
  go_enter Try.func41, Try.ntmps41
  go_wp2
  go_loopw [5, 6] (fun f i wr => ∃ (k : Nat), i = .int .i64 (48 + (k : Int)) ∧ k ≤ 43 ∧ wr.ownsRow w.heap.size 9 1 f (wth (byteAt s) p (allB.take k)).length ((wth (byteAt s) p (allB.take k)).map encStr) ∧ Hid (Below w.heap.size w wr)) (fun _ i _ => 91 - (intOf i).toNat)
  case atStart => exact ⟨0, rfl, by omega, World.ownsRow_nil _ _ _ _, Lib.hid (Below.refl _ _)⟩
  case round =>
    obtain ⟨k, rfl, hk, hown, HB⟩ := hrel
    have HO := Lib.hid hown
    clear hown
    by_cases hkM : k < 43
    · obtain ⟨x, hx⟩ : ∃ x : Int, x = 48 + (k : Int) := ⟨_, rfl⟩
      have hxb : 48 ≤ x ∧ x < 91 := by omega
      have HT := Lib.hid (take_next (l := allB) (by omega) (allB_at hkM))
      rw [← hx] at HT ⊢
      have HX0 := Lib.hid hx
      clear hx
      have hcU := upd_bd (byteAt_bd s) p (show 0 ≤ x ∧ x < 256 by omega)
      have hsp := splice s h9 p hp x (by omega)
      have hz1 : (s.extract 0 p).size = p := by rw [ByteArray.size_extract]; omega
      have hz2 : (s.extract (p + 1) 9).size = 8 - p := by rw [ByteArray.size_extract]; omega
      have hm1 : (p : Int) ≤ 9 := by omega
      have hm2 : (p : Int) + 1 ≤ 9 := by omega
      have hcv := text_one wr x (by omega)
      have hcv2 := text_blk (wr.alloc (.cells #[.int .u8 x] 5)).drew wr.heap.size x (by omega) (Blk.newAt rfl)
      have hmod : x % 256 = x := by omega
      go_wp2_with fail
      go_region
      have HO1 : Hid ((wr.alloc (.cells #[.int .u8 x] 5)).drew.ownsRow w.heap.size 9 1 u5 (wth (byteAt s) p (allB.take k)).length ((wth (byteAt s) p (allB.take k)).map encStr)) := Lib.hid (HO.out.alloc _)
      have HB1 := Lib.hid (bD1 (bAl HB.out (.cells #[.int .u8 x] 5)))
      generalize (wr.alloc (.cells #[.int .u8 x] 5)).drew = w1 at HO1 HB1 ⊢
      clear HO HB hcv hcv2 hz1 hz2 hsp
      have hpg := prE_good (upd (byteAt s) p x) hcU
      go_wp2_with fail
      refine (rparse_any _ _).mono ?_
      rintro e w2 ⟨rfl, hb⟩
      have HO2 := Lib.hid (own_later HO1.out hb)
      have HB2 := Lib.hid (bTr HB1.out hb)
      clear hb HO1 HB1
      cases hgd : good (upd (byteAt s) p x)
      · have hne : ¬ prE (tx9 (upd (byteAt s) p x)) = 0 := fun e => by rw [hpg.1 e] at hgd; cases hgd
        have HR := Lib.hid (wth_next_no (c := byteAt s) (p := p) (l := allB.take k) (x := x) hgd)
        rw [← HT.out] at HR
        rw [← HR.out] at HO2
        have hbf : (prE (tx9 (upd (byteAt s) p x)) == 0) = false := beq_eq_false_iff_ne.2 hne
        go_wp2_with fail
        case roundEnd => exact ⟨⟨k + 1, by have := HX0.out; simp; omega, by omega, HO2.out.alloc _, Lib.hid (bAl HB2.out _)⟩, by simp [intOf]; omega⟩
      · have h0 := hpg.2 hgd
        have HR := Lib.hid (wth_next_yes (c := byteAt s) (p := p) (l := allB.take k) (x := x) hgd)
        rw [← HT.out] at HR
        rw [h0]
        have HL : Hid ((wth (byteAt s) p (allB.take k)).length ≤ 43) := Lib.hid (Nat.le_trans (wth_len _ _ _) (by rw [List.length_take]; omega))
        have HSZ := Lib.hid HB2.out.size
        go_wp2_with (at_builtin; refine wpList_append_own_at _ rfl (.tmp 34) (.tmp 36) 40 rfl w.heap.size 9 j0 (.string ⟨#[]⟩) 1 16 Try.underlying40 hj0 hy0 hy1 hy2 rfl (by decide) _ _ _ rfl ((HO2.out.alloc _).alloc _) ⟨w2.heap.size + 1, 0, none⟩ 1 1 [encStr (tL (upd (byteAt s) p x))] rfl rfl ?c1 ?c2 ?c3 ?c4 ?c5 ?_; (case c1 => exact cell_one_new' _ (by simp) _ _); (case c2 => intro u hu; simp at hu; subst hu; rfl); (case c3 => have := HL.out; unfold maxLen; omega); (case c4 => have := HL.out; omega); (case c5 => have := HSZ.out; simp; omega); intro v10 w10 hown10 hgrow10 hnil10 hat10; have H10 := Lib.hid (And.intro hown10 hgrow10); clear hown10 hgrow10 hnil10 hat10)
        case roundEnd =>
          obtain ⟨hown10, hgrow10⟩ := H10.out
          refine ⟨⟨k + 1, by have := HX0.out; simp; omega, by omega, ?_, Lib.hid ((bAl (bAl HB2.out _) _).grown hgrow10 (by have := HSZ.out; simp; omega) ?_)⟩, by simp [intOf]; omega⟩
          · rw [HR.out, List.length_append, List.map_append]
            exact hown10
          · intro j e
            exact (HO2.out.lt _ e).1
    · obtain rfl : k = 43 := by omega
      have HE := Lib.hid (show allB.take 43 = allB from List.take_of_length_le (by omega))
      rw [HE.out] at HO
      have HX := Lib.hid (show ∀ v, v = u5 → ∃ v', Ending.returned v = .returned v' ∧ wr.ownsRow w.heap.size 9 1 v' (wth (byteAt s) p allB).length ((wth (byteAt s) p allB).map encStr) ∧ Below w.heap.size w wr from fun v e => by subst e; exact ⟨_, rfl, HO.out, HB.out⟩)
      go_wp2_with fail
      refine bodyPost_ret (v := u5) (by simp [results, Try.results41, go_sem]) rfl (HX.out _ rfl)
end Go.Proofs.Ytlionhmmefghmaa
