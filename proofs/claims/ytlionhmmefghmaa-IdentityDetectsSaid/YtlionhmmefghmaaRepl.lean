/-
  The program's replacements: the list of the numbers that differ at one place.
-/
import Derived.Test.YtlionhmmefghmaaNeq
import Derived.Sort.EncStr
import Derived.Laws.AppendOwn
import Derived.Laws.OwnMore
import Derived.Maps.Own
import Derived.Maps.AppendAt
import Derived.Deep.RegionWith
namespace Go.Proofs.Ytlionhmmefghmaa
open Go.RowKit
set_option linter.unusedSimpArgs false
set_option linter.unusedVariables false
set_option maxRecDepth 100000

theorem str_info : (Try.prog.info? 9).map (fun i => (i.zero, i.size, i.bytes)) = some (some (.string ⟨#[]⟩), 1, 16) := by kernel_rfl
theorem own_up {w : World} {B C size n : Nat} {e : TypeId} {v : Value} {xs : List Value} (h : w.ownsRow B e size v n xs) (hC : C ≤ B) : w.ownsRow C e size v n xs := by
  refine ⟨h.1, ?_⟩
  rcases h.2 with h0 | ⟨g, cap, cur, rfl, hb, hr⟩
  · exact .inl h0
  · exact .inr ⟨g, cap, cur, rfl, Nat.le_trans hC hb, hr⟩
theorem own_later {w w' : World} {base : Nat} {e : TypeId} {size n : Nat} {v : Value} {xs : List Value} (h : w.ownsRow base e size v n xs) (hb : RowKit.Below w.heap.size w w') : w'.ownsRow base e size v n xs := by
  have hg : w.grownBy w' none := ⟨hb.os, hb.tape, hb.output, hb.size, fun j hj _ => hb.block j hj⟩
  refine h.kept hg ?_
  cases v.ownBlock with
  | none => exact .inl rfl
  | some k => exact .inr (by simp)
theorem take_next {l : List Int} {k : Nat} (h : k < l.length) {x : Int} (hx : l[k]? = some x) : l.take (k + 1) = l.take k ++ [x] := by
  rw [List.take_add_one, hx]
  rfl
theorem rep_next_yes {c : Nat → Int} {p : Nat} {l : List Int} {x : Int} (h : (!(x == c p) && good (upd c p x)) = true) : rep c p (l ++ [x]) = rep c p l ++ [tL (upd c p x)] := by
  unfold rep
  rw [List.filter_append, List.map_append]
  congr 1
  simp only [List.filter_cons, h, if_true, List.filter_nil, List.map_cons, List.map_nil]
theorem rep_next_no {c : Nat → Int} {p : Nat} {l : List Int} {x : Int} (h : (!(x == c p) && good (upd c p x)) = false) : rep c p (l ++ [x]) = rep c p l := by
  unfold rep
  rw [List.filter_append, List.map_append]
  simp only [List.filter_cons, h, List.filter_nil, List.map_nil, List.append_nil]
  simp
theorem rep_len (c : Nat → Int) (p : Nat) (l : List Int) : (rep c p l).length ≤ l.length := by
  unfold rep
  rw [List.length_map]
  exact List.length_filter_le _ _

theorem cell_one_new (w : World) (x : Value) (t : TypeId) : ∀ j u, [x][j]? = some u → (w.alloc (.cells #[x] t)).cell? ((⟨w.heap.size, 0, none⟩ : Addr).add j) = some u := by
  intro j u hj
  match j, hj with
  | 0, hj => simp at hj; subst hj; exact (Blk.new w t #[x]).cell 0
theorem sy_bd {p : Nat} {k : Nat} {x : Int} (hx : (sy p)[k]? = some x) : 0 ≤ x ∧ x < 256 := by
  have hm := List.mem_of_getElem? hx
  unfold sy at hm
  split at hm
  · simp at hm; omega
  · simp at hm; omega
theorem sy8_at {k : Nat} (h : k < 23) {x : Int} (hx : (sy 8)[k]? = some x) : (((⟨letA⟩ : ByteArray)[k]).toNat : Int) = x := by
  have : ∀ k : Fin 23, (sy 8)[k.val]? = some (lett k.val) := by decide +kernel
  rw [this ⟨k, h⟩] at hx
  injection hx with hx
  rw [← hx]
  exact lett_at k h
theorem syd_at {p : Nat} (hp : ¬ p = 8) {k : Nat} (h : k < 10) {x : Int} (hx : (sy p)[k]? = some x) : ((({ data := #[48, 49, 50, 51, 52, 53, 54, 55, 56, 57] } : ByteArray)[k]).toNat : Int) = x := by
  unfold sy at hx
  rw [if_neg hp] at hx
  have : ∀ k : Fin 10, ([48, 49, 50, 51, 52, 53, 54, 55, 56, 57] : List Int)[k.val]? = some (48 + (k.val : Int)) := by decide +kernel
  rw [this ⟨k, h⟩] at hx
  injection hx with hx
  rw [← hx]
  exact digA_at k h
set_option maxHeartbeats 4000000 in
theorem repl_0 (c : Nat → Int) (hc : ∀ i, 0 ≤ c i ∧ c i < 256) (w : World) :
    Calls Try.prog 39 #[.agg (nine c), .int .i64 0] w fun e w' => ∃ v, e = .returned v ∧ w'.ownsRow w.heap.size 9 1 v (rep c 0 (sy 0)).length ((rep c 0 (sy 0)).map encStr) ∧ Below w.heap.size w w' := by
  go_enter Try.func39, Try.ntmps39
  obtain ⟨j0, hj0, hy0, hy1, hy2⟩ := info_parts str_info
  obtain ⟨w1, hw1, PB, HB⟩ := argWorld w c
  have hsy : (sy 0).length = 10 := rfl
  go_wp2_with fail
  clear hw1
  go_loopw [6, 13] (fun f i wr => ∃ (k : Nat), i = .int .i64 k ∧ k ≤ 10 ∧ wr.ownsRow (w.heap.size + 1) 9 1 f (rep c 0 ((sy 0).take k)).length ((rep c 0 ((sy 0).take k)).map encStr) ∧ Hid (Blk wr w.heap.size 43 (nine c)) ∧ Hid (Below w.heap.size w wr)) (fun _ i _ => 10 - (intOf i).toNat)
  case atStart => exact ⟨0, rfl, by omega, World.ownsRow_nil _ _ _ _, PB, HB⟩
  case round =>
    obtain ⟨k, rfl, hk, hown, PB, HB⟩ := hrel
    have HO := Lib.hid hown
    clear hown
    by_cases hkM : k < 10
    · obtain ⟨x, hx⟩ : ∃ x, (sy 0)[k]? = some x := ⟨_, List.getElem?_eq_getElem (by omega)⟩
      have hxk := syd_at (p := 0) (by omega) hkM hx
      have hxb := sy_bd hx
      have HT := Lib.hid (take_next (by omega) hx)
      have hcU := upd_bd hc 0 hxb
      obtain ⟨z0, z1, z2, z3, z4, z5, z6, z7, z8⟩ := PB.out.nine
      have klt : w.heap.size < wr.heap.size := PB.out.lt
      have hneq := neq9
      by_cases hxc : x = c 0
      · have HR := Lib.hid (rep_next_no (c := c) (p := 0) (l := (sy 0).take k) (x := x) (by simp [hxc]))
        rw [← HT.out] at HR
        rw [← HR.out] at HO
        subst hxc
        go_wp2_with fail
        case roundEnd => exact ⟨⟨k + 1, by simp, by omega, HO.out.alloc _, Lib.hid (PB.out.alloc _), Lib.hid (bAl HB.out _)⟩, by simp [intOf]; omega⟩
      · have hxf : (x == c 0) = false := beq_eq_false_iff_ne.2 hxc
        go_wp2_with fail
        refine (wellFormed_any (upd c 0 x) hcU _).mono ?_
        rintro e w2 ⟨rfl, hb⟩
        have PO2 : Hid (Blk w2 wr.heap.size 43 (nine (upd c 0 x))) := Lib.hid (Blk.later (Blk.newAt (w := wr) (t := 43) (cs := nine (upd c 0 x)) rfl) hb)
        have PB2 := Lib.hid ((PB.out.alloc _).later hb)
        have HO2 := Lib.hid (own_later (HO.out.alloc _) hb)
        have HB2 := Lib.hid (bTr (bAl HB.out _) hb)
        clear hb PB HO HB z0 z1 z2 z3 z4 z5 z6 z7 z8
        have hlt2 := PO2.out.lt
        generalize hg : wr.heap.size = g at PO2 hlt2 ⊢
        have hgk : w.heap.size + 1 ≤ g := by omega
        clear hg klt
        cases hwf : (digs (upd c 0 x) 8 && isLet (upd c 0 x 8))
        · have HR := Lib.hid (rep_next_no (c := c) (p := 0) (l := (sy 0).take k) (x := x) (by unfold good; rw [hwf]; simp))
          rw [← HT.out] at HR
          rw [← HR.out] at HO2
          go_wp2_with fail
          case roundEnd => exact ⟨⟨k + 1, by simp, by omega, HO2.out, PB2, HB2⟩, by simp [intOf]; omega⟩
        obtain ⟨z0, z1, z2, z3, z4, z5, z6, z7, z8⟩ := PO2.out.nine
        go_wp2_with fail
        refine (correct_any (upd c 0 x) hcU _).mono ?_
        rintro e w3 ⟨rfl, hb⟩
        have PO3 := Lib.hid (PO2.out.later hb)
        have PB3 := Lib.hid (PB2.out.later hb)
        have HO3 := Lib.hid (own_later HO2.out hb)
        have HB3 := Lib.hid (bTr HB2.out hb)
        clear hb PB2 HO2 HB2 z0 z1 z2 z3 z4 z5 z6 z7 z8
        cases hcr : (upd c 0 x 8 == lett ((wsum (upd c 0 x) 8) % 23).toNat)
        · have HR := Lib.hid (rep_next_no (c := c) (p := 0) (l := (sy 0).take k) (x := x) (by unfold good lsum; rw [hcr]; simp))
          rw [← HT.out] at HR
          rw [← HR.out] at HO3
          go_wp2_with fail
          case roundEnd => exact ⟨⟨k + 1, by simp, by omega, HO3.out, PB3, HB3⟩, by simp [intOf]; omega⟩
        have HR := Lib.hid (rep_next_yes (c := c) (p := 0) (l := (sy 0).take k) (x := x) (by unfold good lsum; rw [hwf, hcr, hxf]; rfl))
        rw [← HT.out] at HR
        have hrun := text_nine _ hcU _ _ PO3.out
        have HL : Hid ((rep c 0 ((sy 0).take k)).length ≤ 23) := Lib.hid (Nat.le_trans (rep_len _ _ _) (by rw [List.length_take]; omega))
        have HSZ := Lib.hid PB3.out.lt
        go_wp2_with (at_builtin; refine wpList_append_own_at _ rfl (.tmp 33) (.tmp 36) 40 rfl (w.heap.size + 1) 9 j0 (.string ⟨#[]⟩) 1 16 Try.underlying40 hj0 hy0 hy1 hy2 rfl (by decide) _ _ _ rfl (HO3.out.alloc _) ⟨w3.heap.size, 0, none⟩ 1 1 [encStr (tL (upd c 0 x))] rfl rfl ?c1 ?c2 ?c3 ?c4 ?c5 ?_; (case c1 => exact cell_one_new _ _ _); (case c2 => intro u hu; simp at hu; subst hu; rfl); (case c3 => have := HL.out; unfold maxLen; omega); (case c4 => have := HL.out; omega); (case c5 => have := HSZ.out; simp; omega); intro v10 w10 hown10 hgrow10 hnil10 hat10; have H10 := Lib.hid (And.intro hown10 hgrow10); clear hown10 hgrow10 hnil10 hat10)
        case roundEnd =>
          obtain ⟨hown10, hgrow10⟩ := H10.out
          refine ⟨⟨k + 1, by simp, by omega, ?_, Lib.hid ((PB3.out.alloc _).grown hgrow10 ?_), Lib.hid ((bAl HB3.out _).grown hgrow10 (by have := HSZ.out; simp; omega) ?_)⟩, by simp [intOf]; omega⟩
          · rw [HR.out, List.length_append, List.map_append]
            exact hown10
          · intro e
            have := (HO3.out.lt _ e.symm).1
            omega
          · intro j e
            have := (HO3.out.lt _ e).1
            omega
    · obtain rfl : k = 10 := by omega
      have HE := Lib.hid (show (sy 0).take 10 = sy 0 from List.take_of_length_le (by omega))
      rw [HE.out] at HO
      have HX := Lib.hid (show ∀ v, v = u6 → ∃ v', Ending.returned v = .returned v' ∧ wr.ownsRow w.heap.size 9 1 v' (rep c 0 (sy 0)).length ((rep c 0 (sy 0)).map encStr) ∧ Below w.heap.size w wr from fun v e => by subst e; exact ⟨_, rfl, own_up HO.out (by omega), HB.out⟩)
      go_wp2_with fail
      refine bodyPost_ret (v := u6) (by simp [results, Try.results39, go_sem]) rfl (HX.out _ rfl)
set_option maxHeartbeats 4000000 in
theorem repl_1 (c : Nat → Int) (hc : ∀ i, 0 ≤ c i ∧ c i < 256) (w : World) :
    Calls Try.prog 39 #[.agg (nine c), .int .i64 1] w fun e w' => ∃ v, e = .returned v ∧ w'.ownsRow w.heap.size 9 1 v (rep c 1 (sy 1)).length ((rep c 1 (sy 1)).map encStr) ∧ Below w.heap.size w w' := by
  go_enter Try.func39, Try.ntmps39
  obtain ⟨j0, hj0, hy0, hy1, hy2⟩ := info_parts str_info
  obtain ⟨w1, hw1, PB, HB⟩ := argWorld w c
  have hsy : (sy 1).length = 10 := rfl
  go_wp2_with fail
  clear hw1
  go_loopw [6, 13] (fun f i wr => ∃ (k : Nat), i = .int .i64 k ∧ k ≤ 10 ∧ wr.ownsRow (w.heap.size + 1) 9 1 f (rep c 1 ((sy 1).take k)).length ((rep c 1 ((sy 1).take k)).map encStr) ∧ Hid (Blk wr w.heap.size 43 (nine c)) ∧ Hid (Below w.heap.size w wr)) (fun _ i _ => 10 - (intOf i).toNat)
  case atStart => exact ⟨0, rfl, by omega, World.ownsRow_nil _ _ _ _, PB, HB⟩
  case round =>
    obtain ⟨k, rfl, hk, hown, PB, HB⟩ := hrel
    have HO := Lib.hid hown
    clear hown
    by_cases hkM : k < 10
    · obtain ⟨x, hx⟩ : ∃ x, (sy 1)[k]? = some x := ⟨_, List.getElem?_eq_getElem (by omega)⟩
      have hxk := syd_at (p := 1) (by omega) hkM hx
      have hxb := sy_bd hx
      have HT := Lib.hid (take_next (by omega) hx)
      have hcU := upd_bd hc 1 hxb
      obtain ⟨z0, z1, z2, z3, z4, z5, z6, z7, z8⟩ := PB.out.nine
      have klt : w.heap.size < wr.heap.size := PB.out.lt
      have hneq := neq9
      by_cases hxc : x = c 1
      · have HR := Lib.hid (rep_next_no (c := c) (p := 1) (l := (sy 1).take k) (x := x) (by simp [hxc]))
        rw [← HT.out] at HR
        rw [← HR.out] at HO
        subst hxc
        go_wp2_with fail
        case roundEnd => exact ⟨⟨k + 1, by simp, by omega, HO.out.alloc _, Lib.hid (PB.out.alloc _), Lib.hid (bAl HB.out _)⟩, by simp [intOf]; omega⟩
      · have hxf : (x == c 1) = false := beq_eq_false_iff_ne.2 hxc
        go_wp2_with fail
        refine (wellFormed_any (upd c 1 x) hcU _).mono ?_
        rintro e w2 ⟨rfl, hb⟩
        have PO2 : Hid (Blk w2 wr.heap.size 43 (nine (upd c 1 x))) := Lib.hid (Blk.later (Blk.newAt (w := wr) (t := 43) (cs := nine (upd c 1 x)) rfl) hb)
        have PB2 := Lib.hid ((PB.out.alloc _).later hb)
        have HO2 := Lib.hid (own_later (HO.out.alloc _) hb)
        have HB2 := Lib.hid (bTr (bAl HB.out _) hb)
        clear hb PB HO HB z0 z1 z2 z3 z4 z5 z6 z7 z8
        have hlt2 := PO2.out.lt
        generalize hg : wr.heap.size = g at PO2 hlt2 ⊢
        have hgk : w.heap.size + 1 ≤ g := by omega
        clear hg klt
        cases hwf : (digs (upd c 1 x) 8 && isLet (upd c 1 x 8))
        · have HR := Lib.hid (rep_next_no (c := c) (p := 1) (l := (sy 1).take k) (x := x) (by unfold good; rw [hwf]; simp))
          rw [← HT.out] at HR
          rw [← HR.out] at HO2
          go_wp2_with fail
          case roundEnd => exact ⟨⟨k + 1, by simp, by omega, HO2.out, PB2, HB2⟩, by simp [intOf]; omega⟩
        obtain ⟨z0, z1, z2, z3, z4, z5, z6, z7, z8⟩ := PO2.out.nine
        go_wp2_with fail
        refine (correct_any (upd c 1 x) hcU _).mono ?_
        rintro e w3 ⟨rfl, hb⟩
        have PO3 := Lib.hid (PO2.out.later hb)
        have PB3 := Lib.hid (PB2.out.later hb)
        have HO3 := Lib.hid (own_later HO2.out hb)
        have HB3 := Lib.hid (bTr HB2.out hb)
        clear hb PB2 HO2 HB2 z0 z1 z2 z3 z4 z5 z6 z7 z8
        cases hcr : (upd c 1 x 8 == lett ((wsum (upd c 1 x) 8) % 23).toNat)
        · have HR := Lib.hid (rep_next_no (c := c) (p := 1) (l := (sy 1).take k) (x := x) (by unfold good lsum; rw [hcr]; simp))
          rw [← HT.out] at HR
          rw [← HR.out] at HO3
          go_wp2_with fail
          case roundEnd => exact ⟨⟨k + 1, by simp, by omega, HO3.out, PB3, HB3⟩, by simp [intOf]; omega⟩
        have HR := Lib.hid (rep_next_yes (c := c) (p := 1) (l := (sy 1).take k) (x := x) (by unfold good lsum; rw [hwf, hcr, hxf]; rfl))
        rw [← HT.out] at HR
        have hrun := text_nine _ hcU _ _ PO3.out
        have HL : Hid ((rep c 1 ((sy 1).take k)).length ≤ 23) := Lib.hid (Nat.le_trans (rep_len _ _ _) (by rw [List.length_take]; omega))
        have HSZ := Lib.hid PB3.out.lt
        go_wp2_with (at_builtin; refine wpList_append_own_at _ rfl (.tmp 33) (.tmp 36) 40 rfl (w.heap.size + 1) 9 j0 (.string ⟨#[]⟩) 1 16 Try.underlying40 hj0 hy0 hy1 hy2 rfl (by decide) _ _ _ rfl (HO3.out.alloc _) ⟨w3.heap.size, 0, none⟩ 1 1 [encStr (tL (upd c 1 x))] rfl rfl ?c1 ?c2 ?c3 ?c4 ?c5 ?_; (case c1 => exact cell_one_new _ _ _); (case c2 => intro u hu; simp at hu; subst hu; rfl); (case c3 => have := HL.out; unfold maxLen; omega); (case c4 => have := HL.out; omega); (case c5 => have := HSZ.out; simp; omega); intro v10 w10 hown10 hgrow10 hnil10 hat10; have H10 := Lib.hid (And.intro hown10 hgrow10); clear hown10 hgrow10 hnil10 hat10)
        case roundEnd =>
          obtain ⟨hown10, hgrow10⟩ := H10.out
          refine ⟨⟨k + 1, by simp, by omega, ?_, Lib.hid ((PB3.out.alloc _).grown hgrow10 ?_), Lib.hid ((bAl HB3.out _).grown hgrow10 (by have := HSZ.out; simp; omega) ?_)⟩, by simp [intOf]; omega⟩
          · rw [HR.out, List.length_append, List.map_append]
            exact hown10
          · intro e
            have := (HO3.out.lt _ e.symm).1
            omega
          · intro j e
            have := (HO3.out.lt _ e).1
            omega
    · obtain rfl : k = 10 := by omega
      have HE := Lib.hid (show (sy 1).take 10 = sy 1 from List.take_of_length_le (by omega))
      rw [HE.out] at HO
      have HX := Lib.hid (show ∀ v, v = u6 → ∃ v', Ending.returned v = .returned v' ∧ wr.ownsRow w.heap.size 9 1 v' (rep c 1 (sy 1)).length ((rep c 1 (sy 1)).map encStr) ∧ Below w.heap.size w wr from fun v e => by subst e; exact ⟨_, rfl, own_up HO.out (by omega), HB.out⟩)
      go_wp2_with fail
      refine bodyPost_ret (v := u6) (by simp [results, Try.results39, go_sem]) rfl (HX.out _ rfl)
set_option maxHeartbeats 4000000 in
theorem repl_2 (c : Nat → Int) (hc : ∀ i, 0 ≤ c i ∧ c i < 256) (w : World) :
    Calls Try.prog 39 #[.agg (nine c), .int .i64 2] w fun e w' => ∃ v, e = .returned v ∧ w'.ownsRow w.heap.size 9 1 v (rep c 2 (sy 2)).length ((rep c 2 (sy 2)).map encStr) ∧ Below w.heap.size w w' := by
  go_enter Try.func39, Try.ntmps39
  obtain ⟨j0, hj0, hy0, hy1, hy2⟩ := info_parts str_info
  obtain ⟨w1, hw1, PB, HB⟩ := argWorld w c
  have hsy : (sy 2).length = 10 := rfl
  go_wp2_with fail
  clear hw1
  go_loopw [6, 13] (fun f i wr => ∃ (k : Nat), i = .int .i64 k ∧ k ≤ 10 ∧ wr.ownsRow (w.heap.size + 1) 9 1 f (rep c 2 ((sy 2).take k)).length ((rep c 2 ((sy 2).take k)).map encStr) ∧ Hid (Blk wr w.heap.size 43 (nine c)) ∧ Hid (Below w.heap.size w wr)) (fun _ i _ => 10 - (intOf i).toNat)
  case atStart => exact ⟨0, rfl, by omega, World.ownsRow_nil _ _ _ _, PB, HB⟩
  case round =>
    obtain ⟨k, rfl, hk, hown, PB, HB⟩ := hrel
    have HO := Lib.hid hown
    clear hown
    by_cases hkM : k < 10
    · obtain ⟨x, hx⟩ : ∃ x, (sy 2)[k]? = some x := ⟨_, List.getElem?_eq_getElem (by omega)⟩
      have hxk := syd_at (p := 2) (by omega) hkM hx
      have hxb := sy_bd hx
      have HT := Lib.hid (take_next (by omega) hx)
      have hcU := upd_bd hc 2 hxb
      obtain ⟨z0, z1, z2, z3, z4, z5, z6, z7, z8⟩ := PB.out.nine
      have klt : w.heap.size < wr.heap.size := PB.out.lt
      have hneq := neq9
      by_cases hxc : x = c 2
      · have HR := Lib.hid (rep_next_no (c := c) (p := 2) (l := (sy 2).take k) (x := x) (by simp [hxc]))
        rw [← HT.out] at HR
        rw [← HR.out] at HO
        subst hxc
        go_wp2_with fail
        case roundEnd => exact ⟨⟨k + 1, by simp, by omega, HO.out.alloc _, Lib.hid (PB.out.alloc _), Lib.hid (bAl HB.out _)⟩, by simp [intOf]; omega⟩
      · have hxf : (x == c 2) = false := beq_eq_false_iff_ne.2 hxc
        go_wp2_with fail
        refine (wellFormed_any (upd c 2 x) hcU _).mono ?_
        rintro e w2 ⟨rfl, hb⟩
        have PO2 : Hid (Blk w2 wr.heap.size 43 (nine (upd c 2 x))) := Lib.hid (Blk.later (Blk.newAt (w := wr) (t := 43) (cs := nine (upd c 2 x)) rfl) hb)
        have PB2 := Lib.hid ((PB.out.alloc _).later hb)
        have HO2 := Lib.hid (own_later (HO.out.alloc _) hb)
        have HB2 := Lib.hid (bTr (bAl HB.out _) hb)
        clear hb PB HO HB z0 z1 z2 z3 z4 z5 z6 z7 z8
        have hlt2 := PO2.out.lt
        generalize hg : wr.heap.size = g at PO2 hlt2 ⊢
        have hgk : w.heap.size + 1 ≤ g := by omega
        clear hg klt
        cases hwf : (digs (upd c 2 x) 8 && isLet (upd c 2 x 8))
        · have HR := Lib.hid (rep_next_no (c := c) (p := 2) (l := (sy 2).take k) (x := x) (by unfold good; rw [hwf]; simp))
          rw [← HT.out] at HR
          rw [← HR.out] at HO2
          go_wp2_with fail
          case roundEnd => exact ⟨⟨k + 1, by simp, by omega, HO2.out, PB2, HB2⟩, by simp [intOf]; omega⟩
        obtain ⟨z0, z1, z2, z3, z4, z5, z6, z7, z8⟩ := PO2.out.nine
        go_wp2_with fail
        refine (correct_any (upd c 2 x) hcU _).mono ?_
        rintro e w3 ⟨rfl, hb⟩
        have PO3 := Lib.hid (PO2.out.later hb)
        have PB3 := Lib.hid (PB2.out.later hb)
        have HO3 := Lib.hid (own_later HO2.out hb)
        have HB3 := Lib.hid (bTr HB2.out hb)
        clear hb PB2 HO2 HB2 z0 z1 z2 z3 z4 z5 z6 z7 z8
        cases hcr : (upd c 2 x 8 == lett ((wsum (upd c 2 x) 8) % 23).toNat)
        · have HR := Lib.hid (rep_next_no (c := c) (p := 2) (l := (sy 2).take k) (x := x) (by unfold good lsum; rw [hcr]; simp))
          rw [← HT.out] at HR
          rw [← HR.out] at HO3
          go_wp2_with fail
          case roundEnd => exact ⟨⟨k + 1, by simp, by omega, HO3.out, PB3, HB3⟩, by simp [intOf]; omega⟩
        have HR := Lib.hid (rep_next_yes (c := c) (p := 2) (l := (sy 2).take k) (x := x) (by unfold good lsum; rw [hwf, hcr, hxf]; rfl))
        rw [← HT.out] at HR
        have hrun := text_nine _ hcU _ _ PO3.out
        have HL : Hid ((rep c 2 ((sy 2).take k)).length ≤ 23) := Lib.hid (Nat.le_trans (rep_len _ _ _) (by rw [List.length_take]; omega))
        have HSZ := Lib.hid PB3.out.lt
        go_wp2_with (at_builtin; refine wpList_append_own_at _ rfl (.tmp 33) (.tmp 36) 40 rfl (w.heap.size + 1) 9 j0 (.string ⟨#[]⟩) 1 16 Try.underlying40 hj0 hy0 hy1 hy2 rfl (by decide) _ _ _ rfl (HO3.out.alloc _) ⟨w3.heap.size, 0, none⟩ 1 1 [encStr (tL (upd c 2 x))] rfl rfl ?c1 ?c2 ?c3 ?c4 ?c5 ?_; (case c1 => exact cell_one_new _ _ _); (case c2 => intro u hu; simp at hu; subst hu; rfl); (case c3 => have := HL.out; unfold maxLen; omega); (case c4 => have := HL.out; omega); (case c5 => have := HSZ.out; simp; omega); intro v10 w10 hown10 hgrow10 hnil10 hat10; have H10 := Lib.hid (And.intro hown10 hgrow10); clear hown10 hgrow10 hnil10 hat10)
        case roundEnd =>
          obtain ⟨hown10, hgrow10⟩ := H10.out
          refine ⟨⟨k + 1, by simp, by omega, ?_, Lib.hid ((PB3.out.alloc _).grown hgrow10 ?_), Lib.hid ((bAl HB3.out _).grown hgrow10 (by have := HSZ.out; simp; omega) ?_)⟩, by simp [intOf]; omega⟩
          · rw [HR.out, List.length_append, List.map_append]
            exact hown10
          · intro e
            have := (HO3.out.lt _ e.symm).1
            omega
          · intro j e
            have := (HO3.out.lt _ e).1
            omega
    · obtain rfl : k = 10 := by omega
      have HE := Lib.hid (show (sy 2).take 10 = sy 2 from List.take_of_length_le (by omega))
      rw [HE.out] at HO
      have HX := Lib.hid (show ∀ v, v = u6 → ∃ v', Ending.returned v = .returned v' ∧ wr.ownsRow w.heap.size 9 1 v' (rep c 2 (sy 2)).length ((rep c 2 (sy 2)).map encStr) ∧ Below w.heap.size w wr from fun v e => by subst e; exact ⟨_, rfl, own_up HO.out (by omega), HB.out⟩)
      go_wp2_with fail
      refine bodyPost_ret (v := u6) (by simp [results, Try.results39, go_sem]) rfl (HX.out _ rfl)
set_option maxHeartbeats 4000000 in
theorem repl_3 (c : Nat → Int) (hc : ∀ i, 0 ≤ c i ∧ c i < 256) (w : World) :
    Calls Try.prog 39 #[.agg (nine c), .int .i64 3] w fun e w' => ∃ v, e = .returned v ∧ w'.ownsRow w.heap.size 9 1 v (rep c 3 (sy 3)).length ((rep c 3 (sy 3)).map encStr) ∧ Below w.heap.size w w' := by
  go_enter Try.func39, Try.ntmps39
  obtain ⟨j0, hj0, hy0, hy1, hy2⟩ := info_parts str_info
  obtain ⟨w1, hw1, PB, HB⟩ := argWorld w c
  have hsy : (sy 3).length = 10 := rfl
  go_wp2_with fail
  clear hw1
  go_loopw [6, 13] (fun f i wr => ∃ (k : Nat), i = .int .i64 k ∧ k ≤ 10 ∧ wr.ownsRow (w.heap.size + 1) 9 1 f (rep c 3 ((sy 3).take k)).length ((rep c 3 ((sy 3).take k)).map encStr) ∧ Hid (Blk wr w.heap.size 43 (nine c)) ∧ Hid (Below w.heap.size w wr)) (fun _ i _ => 10 - (intOf i).toNat)
  case atStart => exact ⟨0, rfl, by omega, World.ownsRow_nil _ _ _ _, PB, HB⟩
  case round =>
    obtain ⟨k, rfl, hk, hown, PB, HB⟩ := hrel
    have HO := Lib.hid hown
    clear hown
    by_cases hkM : k < 10
    · obtain ⟨x, hx⟩ : ∃ x, (sy 3)[k]? = some x := ⟨_, List.getElem?_eq_getElem (by omega)⟩
      have hxk := syd_at (p := 3) (by omega) hkM hx
      have hxb := sy_bd hx
      have HT := Lib.hid (take_next (by omega) hx)
      have hcU := upd_bd hc 3 hxb
      obtain ⟨z0, z1, z2, z3, z4, z5, z6, z7, z8⟩ := PB.out.nine
      have klt : w.heap.size < wr.heap.size := PB.out.lt
      have hneq := neq9
      by_cases hxc : x = c 3
      · have HR := Lib.hid (rep_next_no (c := c) (p := 3) (l := (sy 3).take k) (x := x) (by simp [hxc]))
        rw [← HT.out] at HR
        rw [← HR.out] at HO
        subst hxc
        go_wp2_with fail
        case roundEnd => exact ⟨⟨k + 1, by simp, by omega, HO.out.alloc _, Lib.hid (PB.out.alloc _), Lib.hid (bAl HB.out _)⟩, by simp [intOf]; omega⟩
      · have hxf : (x == c 3) = false := beq_eq_false_iff_ne.2 hxc
        go_wp2_with fail
        refine (wellFormed_any (upd c 3 x) hcU _).mono ?_
        rintro e w2 ⟨rfl, hb⟩
        have PO2 : Hid (Blk w2 wr.heap.size 43 (nine (upd c 3 x))) := Lib.hid (Blk.later (Blk.newAt (w := wr) (t := 43) (cs := nine (upd c 3 x)) rfl) hb)
        have PB2 := Lib.hid ((PB.out.alloc _).later hb)
        have HO2 := Lib.hid (own_later (HO.out.alloc _) hb)
        have HB2 := Lib.hid (bTr (bAl HB.out _) hb)
        clear hb PB HO HB z0 z1 z2 z3 z4 z5 z6 z7 z8
        have hlt2 := PO2.out.lt
        generalize hg : wr.heap.size = g at PO2 hlt2 ⊢
        have hgk : w.heap.size + 1 ≤ g := by omega
        clear hg klt
        cases hwf : (digs (upd c 3 x) 8 && isLet (upd c 3 x 8))
        · have HR := Lib.hid (rep_next_no (c := c) (p := 3) (l := (sy 3).take k) (x := x) (by unfold good; rw [hwf]; simp))
          rw [← HT.out] at HR
          rw [← HR.out] at HO2
          go_wp2_with fail
          case roundEnd => exact ⟨⟨k + 1, by simp, by omega, HO2.out, PB2, HB2⟩, by simp [intOf]; omega⟩
        obtain ⟨z0, z1, z2, z3, z4, z5, z6, z7, z8⟩ := PO2.out.nine
        go_wp2_with fail
        refine (correct_any (upd c 3 x) hcU _).mono ?_
        rintro e w3 ⟨rfl, hb⟩
        have PO3 := Lib.hid (PO2.out.later hb)
        have PB3 := Lib.hid (PB2.out.later hb)
        have HO3 := Lib.hid (own_later HO2.out hb)
        have HB3 := Lib.hid (bTr HB2.out hb)
        clear hb PB2 HO2 HB2 z0 z1 z2 z3 z4 z5 z6 z7 z8
        cases hcr : (upd c 3 x 8 == lett ((wsum (upd c 3 x) 8) % 23).toNat)
        · have HR := Lib.hid (rep_next_no (c := c) (p := 3) (l := (sy 3).take k) (x := x) (by unfold good lsum; rw [hcr]; simp))
          rw [← HT.out] at HR
          rw [← HR.out] at HO3
          go_wp2_with fail
          case roundEnd => exact ⟨⟨k + 1, by simp, by omega, HO3.out, PB3, HB3⟩, by simp [intOf]; omega⟩
        have HR := Lib.hid (rep_next_yes (c := c) (p := 3) (l := (sy 3).take k) (x := x) (by unfold good lsum; rw [hwf, hcr, hxf]; rfl))
        rw [← HT.out] at HR
        have hrun := text_nine _ hcU _ _ PO3.out
        have HL : Hid ((rep c 3 ((sy 3).take k)).length ≤ 23) := Lib.hid (Nat.le_trans (rep_len _ _ _) (by rw [List.length_take]; omega))
        have HSZ := Lib.hid PB3.out.lt
        go_wp2_with (at_builtin; refine wpList_append_own_at _ rfl (.tmp 33) (.tmp 36) 40 rfl (w.heap.size + 1) 9 j0 (.string ⟨#[]⟩) 1 16 Try.underlying40 hj0 hy0 hy1 hy2 rfl (by decide) _ _ _ rfl (HO3.out.alloc _) ⟨w3.heap.size, 0, none⟩ 1 1 [encStr (tL (upd c 3 x))] rfl rfl ?c1 ?c2 ?c3 ?c4 ?c5 ?_; (case c1 => exact cell_one_new _ _ _); (case c2 => intro u hu; simp at hu; subst hu; rfl); (case c3 => have := HL.out; unfold maxLen; omega); (case c4 => have := HL.out; omega); (case c5 => have := HSZ.out; simp; omega); intro v10 w10 hown10 hgrow10 hnil10 hat10; have H10 := Lib.hid (And.intro hown10 hgrow10); clear hown10 hgrow10 hnil10 hat10)
        case roundEnd =>
          obtain ⟨hown10, hgrow10⟩ := H10.out
          refine ⟨⟨k + 1, by simp, by omega, ?_, Lib.hid ((PB3.out.alloc _).grown hgrow10 ?_), Lib.hid ((bAl HB3.out _).grown hgrow10 (by have := HSZ.out; simp; omega) ?_)⟩, by simp [intOf]; omega⟩
          · rw [HR.out, List.length_append, List.map_append]
            exact hown10
          · intro e
            have := (HO3.out.lt _ e.symm).1
            omega
          · intro j e
            have := (HO3.out.lt _ e).1
            omega
    · obtain rfl : k = 10 := by omega
      have HE := Lib.hid (show (sy 3).take 10 = sy 3 from List.take_of_length_le (by omega))
      rw [HE.out] at HO
      have HX := Lib.hid (show ∀ v, v = u6 → ∃ v', Ending.returned v = .returned v' ∧ wr.ownsRow w.heap.size 9 1 v' (rep c 3 (sy 3)).length ((rep c 3 (sy 3)).map encStr) ∧ Below w.heap.size w wr from fun v e => by subst e; exact ⟨_, rfl, own_up HO.out (by omega), HB.out⟩)
      go_wp2_with fail
      refine bodyPost_ret (v := u6) (by simp [results, Try.results39, go_sem]) rfl (HX.out _ rfl)
set_option maxHeartbeats 4000000 in
theorem repl_4 (c : Nat → Int) (hc : ∀ i, 0 ≤ c i ∧ c i < 256) (w : World) :
    Calls Try.prog 39 #[.agg (nine c), .int .i64 4] w fun e w' => ∃ v, e = .returned v ∧ w'.ownsRow w.heap.size 9 1 v (rep c 4 (sy 4)).length ((rep c 4 (sy 4)).map encStr) ∧ Below w.heap.size w w' := by
  go_enter Try.func39, Try.ntmps39
  obtain ⟨j0, hj0, hy0, hy1, hy2⟩ := info_parts str_info
  obtain ⟨w1, hw1, PB, HB⟩ := argWorld w c
  have hsy : (sy 4).length = 10 := rfl
  go_wp2_with fail
  clear hw1
  go_loopw [6, 13] (fun f i wr => ∃ (k : Nat), i = .int .i64 k ∧ k ≤ 10 ∧ wr.ownsRow (w.heap.size + 1) 9 1 f (rep c 4 ((sy 4).take k)).length ((rep c 4 ((sy 4).take k)).map encStr) ∧ Hid (Blk wr w.heap.size 43 (nine c)) ∧ Hid (Below w.heap.size w wr)) (fun _ i _ => 10 - (intOf i).toNat)
  case atStart => exact ⟨0, rfl, by omega, World.ownsRow_nil _ _ _ _, PB, HB⟩
  case round =>
    obtain ⟨k, rfl, hk, hown, PB, HB⟩ := hrel
    have HO := Lib.hid hown
    clear hown
    by_cases hkM : k < 10
    · obtain ⟨x, hx⟩ : ∃ x, (sy 4)[k]? = some x := ⟨_, List.getElem?_eq_getElem (by omega)⟩
      have hxk := syd_at (p := 4) (by omega) hkM hx
      have hxb := sy_bd hx
      have HT := Lib.hid (take_next (by omega) hx)
      have hcU := upd_bd hc 4 hxb
      obtain ⟨z0, z1, z2, z3, z4, z5, z6, z7, z8⟩ := PB.out.nine
      have klt : w.heap.size < wr.heap.size := PB.out.lt
      have hneq := neq9
      by_cases hxc : x = c 4
      · have HR := Lib.hid (rep_next_no (c := c) (p := 4) (l := (sy 4).take k) (x := x) (by simp [hxc]))
        rw [← HT.out] at HR
        rw [← HR.out] at HO
        subst hxc
        go_wp2_with fail
        case roundEnd => exact ⟨⟨k + 1, by simp, by omega, HO.out.alloc _, Lib.hid (PB.out.alloc _), Lib.hid (bAl HB.out _)⟩, by simp [intOf]; omega⟩
      · have hxf : (x == c 4) = false := beq_eq_false_iff_ne.2 hxc
        go_wp2_with fail
        refine (wellFormed_any (upd c 4 x) hcU _).mono ?_
        rintro e w2 ⟨rfl, hb⟩
        have PO2 : Hid (Blk w2 wr.heap.size 43 (nine (upd c 4 x))) := Lib.hid (Blk.later (Blk.newAt (w := wr) (t := 43) (cs := nine (upd c 4 x)) rfl) hb)
        have PB2 := Lib.hid ((PB.out.alloc _).later hb)
        have HO2 := Lib.hid (own_later (HO.out.alloc _) hb)
        have HB2 := Lib.hid (bTr (bAl HB.out _) hb)
        clear hb PB HO HB z0 z1 z2 z3 z4 z5 z6 z7 z8
        have hlt2 := PO2.out.lt
        generalize hg : wr.heap.size = g at PO2 hlt2 ⊢
        have hgk : w.heap.size + 1 ≤ g := by omega
        clear hg klt
        cases hwf : (digs (upd c 4 x) 8 && isLet (upd c 4 x 8))
        · have HR := Lib.hid (rep_next_no (c := c) (p := 4) (l := (sy 4).take k) (x := x) (by unfold good; rw [hwf]; simp))
          rw [← HT.out] at HR
          rw [← HR.out] at HO2
          go_wp2_with fail
          case roundEnd => exact ⟨⟨k + 1, by simp, by omega, HO2.out, PB2, HB2⟩, by simp [intOf]; omega⟩
        obtain ⟨z0, z1, z2, z3, z4, z5, z6, z7, z8⟩ := PO2.out.nine
        go_wp2_with fail
        refine (correct_any (upd c 4 x) hcU _).mono ?_
        rintro e w3 ⟨rfl, hb⟩
        have PO3 := Lib.hid (PO2.out.later hb)
        have PB3 := Lib.hid (PB2.out.later hb)
        have HO3 := Lib.hid (own_later HO2.out hb)
        have HB3 := Lib.hid (bTr HB2.out hb)
        clear hb PB2 HO2 HB2 z0 z1 z2 z3 z4 z5 z6 z7 z8
        cases hcr : (upd c 4 x 8 == lett ((wsum (upd c 4 x) 8) % 23).toNat)
        · have HR := Lib.hid (rep_next_no (c := c) (p := 4) (l := (sy 4).take k) (x := x) (by unfold good lsum; rw [hcr]; simp))
          rw [← HT.out] at HR
          rw [← HR.out] at HO3
          go_wp2_with fail
          case roundEnd => exact ⟨⟨k + 1, by simp, by omega, HO3.out, PB3, HB3⟩, by simp [intOf]; omega⟩
        have HR := Lib.hid (rep_next_yes (c := c) (p := 4) (l := (sy 4).take k) (x := x) (by unfold good lsum; rw [hwf, hcr, hxf]; rfl))
        rw [← HT.out] at HR
        have hrun := text_nine _ hcU _ _ PO3.out
        have HL : Hid ((rep c 4 ((sy 4).take k)).length ≤ 23) := Lib.hid (Nat.le_trans (rep_len _ _ _) (by rw [List.length_take]; omega))
        have HSZ := Lib.hid PB3.out.lt
        go_wp2_with (at_builtin; refine wpList_append_own_at _ rfl (.tmp 33) (.tmp 36) 40 rfl (w.heap.size + 1) 9 j0 (.string ⟨#[]⟩) 1 16 Try.underlying40 hj0 hy0 hy1 hy2 rfl (by decide) _ _ _ rfl (HO3.out.alloc _) ⟨w3.heap.size, 0, none⟩ 1 1 [encStr (tL (upd c 4 x))] rfl rfl ?c1 ?c2 ?c3 ?c4 ?c5 ?_; (case c1 => exact cell_one_new _ _ _); (case c2 => intro u hu; simp at hu; subst hu; rfl); (case c3 => have := HL.out; unfold maxLen; omega); (case c4 => have := HL.out; omega); (case c5 => have := HSZ.out; simp; omega); intro v10 w10 hown10 hgrow10 hnil10 hat10; have H10 := Lib.hid (And.intro hown10 hgrow10); clear hown10 hgrow10 hnil10 hat10)
        case roundEnd =>
          obtain ⟨hown10, hgrow10⟩ := H10.out
          refine ⟨⟨k + 1, by simp, by omega, ?_, Lib.hid ((PB3.out.alloc _).grown hgrow10 ?_), Lib.hid ((bAl HB3.out _).grown hgrow10 (by have := HSZ.out; simp; omega) ?_)⟩, by simp [intOf]; omega⟩
          · rw [HR.out, List.length_append, List.map_append]
            exact hown10
          · intro e
            have := (HO3.out.lt _ e.symm).1
            omega
          · intro j e
            have := (HO3.out.lt _ e).1
            omega
    · obtain rfl : k = 10 := by omega
      have HE := Lib.hid (show (sy 4).take 10 = sy 4 from List.take_of_length_le (by omega))
      rw [HE.out] at HO
      have HX := Lib.hid (show ∀ v, v = u6 → ∃ v', Ending.returned v = .returned v' ∧ wr.ownsRow w.heap.size 9 1 v' (rep c 4 (sy 4)).length ((rep c 4 (sy 4)).map encStr) ∧ Below w.heap.size w wr from fun v e => by subst e; exact ⟨_, rfl, own_up HO.out (by omega), HB.out⟩)
      go_wp2_with fail
      refine bodyPost_ret (v := u6) (by simp [results, Try.results39, go_sem]) rfl (HX.out _ rfl)
set_option maxHeartbeats 4000000 in
theorem repl_5 (c : Nat → Int) (hc : ∀ i, 0 ≤ c i ∧ c i < 256) (w : World) :
    Calls Try.prog 39 #[.agg (nine c), .int .i64 5] w fun e w' => ∃ v, e = .returned v ∧ w'.ownsRow w.heap.size 9 1 v (rep c 5 (sy 5)).length ((rep c 5 (sy 5)).map encStr) ∧ Below w.heap.size w w' := by
  go_enter Try.func39, Try.ntmps39
  obtain ⟨j0, hj0, hy0, hy1, hy2⟩ := info_parts str_info
  obtain ⟨w1, hw1, PB, HB⟩ := argWorld w c
  have hsy : (sy 5).length = 10 := rfl
  go_wp2_with fail
  clear hw1
  go_loopw [6, 13] (fun f i wr => ∃ (k : Nat), i = .int .i64 k ∧ k ≤ 10 ∧ wr.ownsRow (w.heap.size + 1) 9 1 f (rep c 5 ((sy 5).take k)).length ((rep c 5 ((sy 5).take k)).map encStr) ∧ Hid (Blk wr w.heap.size 43 (nine c)) ∧ Hid (Below w.heap.size w wr)) (fun _ i _ => 10 - (intOf i).toNat)
  case atStart => exact ⟨0, rfl, by omega, World.ownsRow_nil _ _ _ _, PB, HB⟩
  case round =>
    obtain ⟨k, rfl, hk, hown, PB, HB⟩ := hrel
    have HO := Lib.hid hown
    clear hown
    by_cases hkM : k < 10
    · obtain ⟨x, hx⟩ : ∃ x, (sy 5)[k]? = some x := ⟨_, List.getElem?_eq_getElem (by omega)⟩
      have hxk := syd_at (p := 5) (by omega) hkM hx
      have hxb := sy_bd hx
      have HT := Lib.hid (take_next (by omega) hx)
      have hcU := upd_bd hc 5 hxb
      obtain ⟨z0, z1, z2, z3, z4, z5, z6, z7, z8⟩ := PB.out.nine
      have klt : w.heap.size < wr.heap.size := PB.out.lt
      have hneq := neq9
      by_cases hxc : x = c 5
      · have HR := Lib.hid (rep_next_no (c := c) (p := 5) (l := (sy 5).take k) (x := x) (by simp [hxc]))
        rw [← HT.out] at HR
        rw [← HR.out] at HO
        subst hxc
        go_wp2_with fail
        case roundEnd => exact ⟨⟨k + 1, by simp, by omega, HO.out.alloc _, Lib.hid (PB.out.alloc _), Lib.hid (bAl HB.out _)⟩, by simp [intOf]; omega⟩
      · have hxf : (x == c 5) = false := beq_eq_false_iff_ne.2 hxc
        go_wp2_with fail
        refine (wellFormed_any (upd c 5 x) hcU _).mono ?_
        rintro e w2 ⟨rfl, hb⟩
        have PO2 : Hid (Blk w2 wr.heap.size 43 (nine (upd c 5 x))) := Lib.hid (Blk.later (Blk.newAt (w := wr) (t := 43) (cs := nine (upd c 5 x)) rfl) hb)
        have PB2 := Lib.hid ((PB.out.alloc _).later hb)
        have HO2 := Lib.hid (own_later (HO.out.alloc _) hb)
        have HB2 := Lib.hid (bTr (bAl HB.out _) hb)
        clear hb PB HO HB z0 z1 z2 z3 z4 z5 z6 z7 z8
        have hlt2 := PO2.out.lt
        generalize hg : wr.heap.size = g at PO2 hlt2 ⊢
        have hgk : w.heap.size + 1 ≤ g := by omega
        clear hg klt
        cases hwf : (digs (upd c 5 x) 8 && isLet (upd c 5 x 8))
        · have HR := Lib.hid (rep_next_no (c := c) (p := 5) (l := (sy 5).take k) (x := x) (by unfold good; rw [hwf]; simp))
          rw [← HT.out] at HR
          rw [← HR.out] at HO2
          go_wp2_with fail
          case roundEnd => exact ⟨⟨k + 1, by simp, by omega, HO2.out, PB2, HB2⟩, by simp [intOf]; omega⟩
        obtain ⟨z0, z1, z2, z3, z4, z5, z6, z7, z8⟩ := PO2.out.nine
        go_wp2_with fail
        refine (correct_any (upd c 5 x) hcU _).mono ?_
        rintro e w3 ⟨rfl, hb⟩
        have PO3 := Lib.hid (PO2.out.later hb)
        have PB3 := Lib.hid (PB2.out.later hb)
        have HO3 := Lib.hid (own_later HO2.out hb)
        have HB3 := Lib.hid (bTr HB2.out hb)
        clear hb PB2 HO2 HB2 z0 z1 z2 z3 z4 z5 z6 z7 z8
        cases hcr : (upd c 5 x 8 == lett ((wsum (upd c 5 x) 8) % 23).toNat)
        · have HR := Lib.hid (rep_next_no (c := c) (p := 5) (l := (sy 5).take k) (x := x) (by unfold good lsum; rw [hcr]; simp))
          rw [← HT.out] at HR
          rw [← HR.out] at HO3
          go_wp2_with fail
          case roundEnd => exact ⟨⟨k + 1, by simp, by omega, HO3.out, PB3, HB3⟩, by simp [intOf]; omega⟩
        have HR := Lib.hid (rep_next_yes (c := c) (p := 5) (l := (sy 5).take k) (x := x) (by unfold good lsum; rw [hwf, hcr, hxf]; rfl))
        rw [← HT.out] at HR
        have hrun := text_nine _ hcU _ _ PO3.out
        have HL : Hid ((rep c 5 ((sy 5).take k)).length ≤ 23) := Lib.hid (Nat.le_trans (rep_len _ _ _) (by rw [List.length_take]; omega))
        have HSZ := Lib.hid PB3.out.lt
        go_wp2_with (at_builtin; refine wpList_append_own_at _ rfl (.tmp 33) (.tmp 36) 40 rfl (w.heap.size + 1) 9 j0 (.string ⟨#[]⟩) 1 16 Try.underlying40 hj0 hy0 hy1 hy2 rfl (by decide) _ _ _ rfl (HO3.out.alloc _) ⟨w3.heap.size, 0, none⟩ 1 1 [encStr (tL (upd c 5 x))] rfl rfl ?c1 ?c2 ?c3 ?c4 ?c5 ?_; (case c1 => exact cell_one_new _ _ _); (case c2 => intro u hu; simp at hu; subst hu; rfl); (case c3 => have := HL.out; unfold maxLen; omega); (case c4 => have := HL.out; omega); (case c5 => have := HSZ.out; simp; omega); intro v10 w10 hown10 hgrow10 hnil10 hat10; have H10 := Lib.hid (And.intro hown10 hgrow10); clear hown10 hgrow10 hnil10 hat10)
        case roundEnd =>
          obtain ⟨hown10, hgrow10⟩ := H10.out
          refine ⟨⟨k + 1, by simp, by omega, ?_, Lib.hid ((PB3.out.alloc _).grown hgrow10 ?_), Lib.hid ((bAl HB3.out _).grown hgrow10 (by have := HSZ.out; simp; omega) ?_)⟩, by simp [intOf]; omega⟩
          · rw [HR.out, List.length_append, List.map_append]
            exact hown10
          · intro e
            have := (HO3.out.lt _ e.symm).1
            omega
          · intro j e
            have := (HO3.out.lt _ e).1
            omega
    · obtain rfl : k = 10 := by omega
      have HE := Lib.hid (show (sy 5).take 10 = sy 5 from List.take_of_length_le (by omega))
      rw [HE.out] at HO
      have HX := Lib.hid (show ∀ v, v = u6 → ∃ v', Ending.returned v = .returned v' ∧ wr.ownsRow w.heap.size 9 1 v' (rep c 5 (sy 5)).length ((rep c 5 (sy 5)).map encStr) ∧ Below w.heap.size w wr from fun v e => by subst e; exact ⟨_, rfl, own_up HO.out (by omega), HB.out⟩)
      go_wp2_with fail
      refine bodyPost_ret (v := u6) (by simp [results, Try.results39, go_sem]) rfl (HX.out _ rfl)
set_option maxHeartbeats 4000000 in
theorem repl_6 (c : Nat → Int) (hc : ∀ i, 0 ≤ c i ∧ c i < 256) (w : World) :
    Calls Try.prog 39 #[.agg (nine c), .int .i64 6] w fun e w' => ∃ v, e = .returned v ∧ w'.ownsRow w.heap.size 9 1 v (rep c 6 (sy 6)).length ((rep c 6 (sy 6)).map encStr) ∧ Below w.heap.size w w' := by
  go_enter Try.func39, Try.ntmps39
  obtain ⟨j0, hj0, hy0, hy1, hy2⟩ := info_parts str_info
  obtain ⟨w1, hw1, PB, HB⟩ := argWorld w c
  have hsy : (sy 6).length = 10 := rfl
  go_wp2_with fail
  clear hw1
  go_loopw [6, 13] (fun f i wr => ∃ (k : Nat), i = .int .i64 k ∧ k ≤ 10 ∧ wr.ownsRow (w.heap.size + 1) 9 1 f (rep c 6 ((sy 6).take k)).length ((rep c 6 ((sy 6).take k)).map encStr) ∧ Hid (Blk wr w.heap.size 43 (nine c)) ∧ Hid (Below w.heap.size w wr)) (fun _ i _ => 10 - (intOf i).toNat)
  case atStart => exact ⟨0, rfl, by omega, World.ownsRow_nil _ _ _ _, PB, HB⟩
  case round =>
    obtain ⟨k, rfl, hk, hown, PB, HB⟩ := hrel
    have HO := Lib.hid hown
    clear hown
    by_cases hkM : k < 10
    · obtain ⟨x, hx⟩ : ∃ x, (sy 6)[k]? = some x := ⟨_, List.getElem?_eq_getElem (by omega)⟩
      have hxk := syd_at (p := 6) (by omega) hkM hx
      have hxb := sy_bd hx
      have HT := Lib.hid (take_next (by omega) hx)
      have hcU := upd_bd hc 6 hxb
      obtain ⟨z0, z1, z2, z3, z4, z5, z6, z7, z8⟩ := PB.out.nine
      have klt : w.heap.size < wr.heap.size := PB.out.lt
      have hneq := neq9
      by_cases hxc : x = c 6
      · have HR := Lib.hid (rep_next_no (c := c) (p := 6) (l := (sy 6).take k) (x := x) (by simp [hxc]))
        rw [← HT.out] at HR
        rw [← HR.out] at HO
        subst hxc
        go_wp2_with fail
        case roundEnd => exact ⟨⟨k + 1, by simp, by omega, HO.out.alloc _, Lib.hid (PB.out.alloc _), Lib.hid (bAl HB.out _)⟩, by simp [intOf]; omega⟩
      · have hxf : (x == c 6) = false := beq_eq_false_iff_ne.2 hxc
        go_wp2_with fail
        refine (wellFormed_any (upd c 6 x) hcU _).mono ?_
        rintro e w2 ⟨rfl, hb⟩
        have PO2 : Hid (Blk w2 wr.heap.size 43 (nine (upd c 6 x))) := Lib.hid (Blk.later (Blk.newAt (w := wr) (t := 43) (cs := nine (upd c 6 x)) rfl) hb)
        have PB2 := Lib.hid ((PB.out.alloc _).later hb)
        have HO2 := Lib.hid (own_later (HO.out.alloc _) hb)
        have HB2 := Lib.hid (bTr (bAl HB.out _) hb)
        clear hb PB HO HB z0 z1 z2 z3 z4 z5 z6 z7 z8
        have hlt2 := PO2.out.lt
        generalize hg : wr.heap.size = g at PO2 hlt2 ⊢
        have hgk : w.heap.size + 1 ≤ g := by omega
        clear hg klt
        cases hwf : (digs (upd c 6 x) 8 && isLet (upd c 6 x 8))
        · have HR := Lib.hid (rep_next_no (c := c) (p := 6) (l := (sy 6).take k) (x := x) (by unfold good; rw [hwf]; simp))
          rw [← HT.out] at HR
          rw [← HR.out] at HO2
          go_wp2_with fail
          case roundEnd => exact ⟨⟨k + 1, by simp, by omega, HO2.out, PB2, HB2⟩, by simp [intOf]; omega⟩
        obtain ⟨z0, z1, z2, z3, z4, z5, z6, z7, z8⟩ := PO2.out.nine
        go_wp2_with fail
        refine (correct_any (upd c 6 x) hcU _).mono ?_
        rintro e w3 ⟨rfl, hb⟩
        have PO3 := Lib.hid (PO2.out.later hb)
        have PB3 := Lib.hid (PB2.out.later hb)
        have HO3 := Lib.hid (own_later HO2.out hb)
        have HB3 := Lib.hid (bTr HB2.out hb)
        clear hb PB2 HO2 HB2 z0 z1 z2 z3 z4 z5 z6 z7 z8
        cases hcr : (upd c 6 x 8 == lett ((wsum (upd c 6 x) 8) % 23).toNat)
        · have HR := Lib.hid (rep_next_no (c := c) (p := 6) (l := (sy 6).take k) (x := x) (by unfold good lsum; rw [hcr]; simp))
          rw [← HT.out] at HR
          rw [← HR.out] at HO3
          go_wp2_with fail
          case roundEnd => exact ⟨⟨k + 1, by simp, by omega, HO3.out, PB3, HB3⟩, by simp [intOf]; omega⟩
        have HR := Lib.hid (rep_next_yes (c := c) (p := 6) (l := (sy 6).take k) (x := x) (by unfold good lsum; rw [hwf, hcr, hxf]; rfl))
        rw [← HT.out] at HR
        have hrun := text_nine _ hcU _ _ PO3.out
        have HL : Hid ((rep c 6 ((sy 6).take k)).length ≤ 23) := Lib.hid (Nat.le_trans (rep_len _ _ _) (by rw [List.length_take]; omega))
        have HSZ := Lib.hid PB3.out.lt
        go_wp2_with (at_builtin; refine wpList_append_own_at _ rfl (.tmp 33) (.tmp 36) 40 rfl (w.heap.size + 1) 9 j0 (.string ⟨#[]⟩) 1 16 Try.underlying40 hj0 hy0 hy1 hy2 rfl (by decide) _ _ _ rfl (HO3.out.alloc _) ⟨w3.heap.size, 0, none⟩ 1 1 [encStr (tL (upd c 6 x))] rfl rfl ?c1 ?c2 ?c3 ?c4 ?c5 ?_; (case c1 => exact cell_one_new _ _ _); (case c2 => intro u hu; simp at hu; subst hu; rfl); (case c3 => have := HL.out; unfold maxLen; omega); (case c4 => have := HL.out; omega); (case c5 => have := HSZ.out; simp; omega); intro v10 w10 hown10 hgrow10 hnil10 hat10; have H10 := Lib.hid (And.intro hown10 hgrow10); clear hown10 hgrow10 hnil10 hat10)
        case roundEnd =>
          obtain ⟨hown10, hgrow10⟩ := H10.out
          refine ⟨⟨k + 1, by simp, by omega, ?_, Lib.hid ((PB3.out.alloc _).grown hgrow10 ?_), Lib.hid ((bAl HB3.out _).grown hgrow10 (by have := HSZ.out; simp; omega) ?_)⟩, by simp [intOf]; omega⟩
          · rw [HR.out, List.length_append, List.map_append]
            exact hown10
          · intro e
            have := (HO3.out.lt _ e.symm).1
            omega
          · intro j e
            have := (HO3.out.lt _ e).1
            omega
    · obtain rfl : k = 10 := by omega
      have HE := Lib.hid (show (sy 6).take 10 = sy 6 from List.take_of_length_le (by omega))
      rw [HE.out] at HO
      have HX := Lib.hid (show ∀ v, v = u6 → ∃ v', Ending.returned v = .returned v' ∧ wr.ownsRow w.heap.size 9 1 v' (rep c 6 (sy 6)).length ((rep c 6 (sy 6)).map encStr) ∧ Below w.heap.size w wr from fun v e => by subst e; exact ⟨_, rfl, own_up HO.out (by omega), HB.out⟩)
      go_wp2_with fail
      refine bodyPost_ret (v := u6) (by simp [results, Try.results39, go_sem]) rfl (HX.out _ rfl)
set_option maxHeartbeats 4000000 in
theorem repl_7 (c : Nat → Int) (hc : ∀ i, 0 ≤ c i ∧ c i < 256) (w : World) :
    Calls Try.prog 39 #[.agg (nine c), .int .i64 7] w fun e w' => ∃ v, e = .returned v ∧ w'.ownsRow w.heap.size 9 1 v (rep c 7 (sy 7)).length ((rep c 7 (sy 7)).map encStr) ∧ Below w.heap.size w w' := by
  go_enter Try.func39, Try.ntmps39
  obtain ⟨j0, hj0, hy0, hy1, hy2⟩ := info_parts str_info
  obtain ⟨w1, hw1, PB, HB⟩ := argWorld w c
  have hsy : (sy 7).length = 10 := rfl
  go_wp2_with fail
  clear hw1
  go_loopw [6, 13] (fun f i wr => ∃ (k : Nat), i = .int .i64 k ∧ k ≤ 10 ∧ wr.ownsRow (w.heap.size + 1) 9 1 f (rep c 7 ((sy 7).take k)).length ((rep c 7 ((sy 7).take k)).map encStr) ∧ Hid (Blk wr w.heap.size 43 (nine c)) ∧ Hid (Below w.heap.size w wr)) (fun _ i _ => 10 - (intOf i).toNat)
  case atStart => exact ⟨0, rfl, by omega, World.ownsRow_nil _ _ _ _, PB, HB⟩
  case round =>
    obtain ⟨k, rfl, hk, hown, PB, HB⟩ := hrel
    have HO := Lib.hid hown
    clear hown
    by_cases hkM : k < 10
    · obtain ⟨x, hx⟩ : ∃ x, (sy 7)[k]? = some x := ⟨_, List.getElem?_eq_getElem (by omega)⟩
      have hxk := syd_at (p := 7) (by omega) hkM hx
      have hxb := sy_bd hx
      have HT := Lib.hid (take_next (by omega) hx)
      have hcU := upd_bd hc 7 hxb
      obtain ⟨z0, z1, z2, z3, z4, z5, z6, z7, z8⟩ := PB.out.nine
      have klt : w.heap.size < wr.heap.size := PB.out.lt
      have hneq := neq9
      by_cases hxc : x = c 7
      · have HR := Lib.hid (rep_next_no (c := c) (p := 7) (l := (sy 7).take k) (x := x) (by simp [hxc]))
        rw [← HT.out] at HR
        rw [← HR.out] at HO
        subst hxc
        go_wp2_with fail
        case roundEnd => exact ⟨⟨k + 1, by simp, by omega, HO.out.alloc _, Lib.hid (PB.out.alloc _), Lib.hid (bAl HB.out _)⟩, by simp [intOf]; omega⟩
      · have hxf : (x == c 7) = false := beq_eq_false_iff_ne.2 hxc
        go_wp2_with fail
        refine (wellFormed_any (upd c 7 x) hcU _).mono ?_
        rintro e w2 ⟨rfl, hb⟩
        have PO2 : Hid (Blk w2 wr.heap.size 43 (nine (upd c 7 x))) := Lib.hid (Blk.later (Blk.newAt (w := wr) (t := 43) (cs := nine (upd c 7 x)) rfl) hb)
        have PB2 := Lib.hid ((PB.out.alloc _).later hb)
        have HO2 := Lib.hid (own_later (HO.out.alloc _) hb)
        have HB2 := Lib.hid (bTr (bAl HB.out _) hb)
        clear hb PB HO HB z0 z1 z2 z3 z4 z5 z6 z7 z8
        have hlt2 := PO2.out.lt
        generalize hg : wr.heap.size = g at PO2 hlt2 ⊢
        have hgk : w.heap.size + 1 ≤ g := by omega
        clear hg klt
        cases hwf : (digs (upd c 7 x) 8 && isLet (upd c 7 x 8))
        · have HR := Lib.hid (rep_next_no (c := c) (p := 7) (l := (sy 7).take k) (x := x) (by unfold good; rw [hwf]; simp))
          rw [← HT.out] at HR
          rw [← HR.out] at HO2
          go_wp2_with fail
          case roundEnd => exact ⟨⟨k + 1, by simp, by omega, HO2.out, PB2, HB2⟩, by simp [intOf]; omega⟩
        obtain ⟨z0, z1, z2, z3, z4, z5, z6, z7, z8⟩ := PO2.out.nine
        go_wp2_with fail
        refine (correct_any (upd c 7 x) hcU _).mono ?_
        rintro e w3 ⟨rfl, hb⟩
        have PO3 := Lib.hid (PO2.out.later hb)
        have PB3 := Lib.hid (PB2.out.later hb)
        have HO3 := Lib.hid (own_later HO2.out hb)
        have HB3 := Lib.hid (bTr HB2.out hb)
        clear hb PB2 HO2 HB2 z0 z1 z2 z3 z4 z5 z6 z7 z8
        cases hcr : (upd c 7 x 8 == lett ((wsum (upd c 7 x) 8) % 23).toNat)
        · have HR := Lib.hid (rep_next_no (c := c) (p := 7) (l := (sy 7).take k) (x := x) (by unfold good lsum; rw [hcr]; simp))
          rw [← HT.out] at HR
          rw [← HR.out] at HO3
          go_wp2_with fail
          case roundEnd => exact ⟨⟨k + 1, by simp, by omega, HO3.out, PB3, HB3⟩, by simp [intOf]; omega⟩
        have HR := Lib.hid (rep_next_yes (c := c) (p := 7) (l := (sy 7).take k) (x := x) (by unfold good lsum; rw [hwf, hcr, hxf]; rfl))
        rw [← HT.out] at HR
        have hrun := text_nine _ hcU _ _ PO3.out
        have HL : Hid ((rep c 7 ((sy 7).take k)).length ≤ 23) := Lib.hid (Nat.le_trans (rep_len _ _ _) (by rw [List.length_take]; omega))
        have HSZ := Lib.hid PB3.out.lt
        go_wp2_with (at_builtin; refine wpList_append_own_at _ rfl (.tmp 33) (.tmp 36) 40 rfl (w.heap.size + 1) 9 j0 (.string ⟨#[]⟩) 1 16 Try.underlying40 hj0 hy0 hy1 hy2 rfl (by decide) _ _ _ rfl (HO3.out.alloc _) ⟨w3.heap.size, 0, none⟩ 1 1 [encStr (tL (upd c 7 x))] rfl rfl ?c1 ?c2 ?c3 ?c4 ?c5 ?_; (case c1 => exact cell_one_new _ _ _); (case c2 => intro u hu; simp at hu; subst hu; rfl); (case c3 => have := HL.out; unfold maxLen; omega); (case c4 => have := HL.out; omega); (case c5 => have := HSZ.out; simp; omega); intro v10 w10 hown10 hgrow10 hnil10 hat10; have H10 := Lib.hid (And.intro hown10 hgrow10); clear hown10 hgrow10 hnil10 hat10)
        case roundEnd =>
          obtain ⟨hown10, hgrow10⟩ := H10.out
          refine ⟨⟨k + 1, by simp, by omega, ?_, Lib.hid ((PB3.out.alloc _).grown hgrow10 ?_), Lib.hid ((bAl HB3.out _).grown hgrow10 (by have := HSZ.out; simp; omega) ?_)⟩, by simp [intOf]; omega⟩
          · rw [HR.out, List.length_append, List.map_append]
            exact hown10
          · intro e
            have := (HO3.out.lt _ e.symm).1
            omega
          · intro j e
            have := (HO3.out.lt _ e).1
            omega
    · obtain rfl : k = 10 := by omega
      have HE := Lib.hid (show (sy 7).take 10 = sy 7 from List.take_of_length_le (by omega))
      rw [HE.out] at HO
      have HX := Lib.hid (show ∀ v, v = u6 → ∃ v', Ending.returned v = .returned v' ∧ wr.ownsRow w.heap.size 9 1 v' (rep c 7 (sy 7)).length ((rep c 7 (sy 7)).map encStr) ∧ Below w.heap.size w wr from fun v e => by subst e; exact ⟨_, rfl, own_up HO.out (by omega), HB.out⟩)
      go_wp2_with fail
      refine bodyPost_ret (v := u6) (by simp [results, Try.results39, go_sem]) rfl (HX.out _ rfl)
set_option maxHeartbeats 4000000 in
theorem repl_8 (c : Nat → Int) (hc : ∀ i, 0 ≤ c i ∧ c i < 256) (w : World) :
    Calls Try.prog 39 #[.agg (nine c), .int .i64 8] w fun e w' => ∃ v, e = .returned v ∧ w'.ownsRow w.heap.size 9 1 v (rep c 8 (sy 8)).length ((rep c 8 (sy 8)).map encStr) ∧ Below w.heap.size w w' := by
  go_enter Try.func39, Try.ntmps39
  obtain ⟨j0, hj0, hy0, hy1, hy2⟩ := info_parts str_info
  obtain ⟨w1, hw1, PB, HB⟩ := argWorld w c
  have hsy : (sy 8).length = 23 := rfl
  go_wp2_with fail
  clear hw1
  go_loopw [6, 13] (fun f i wr => ∃ (k : Nat), i = .int .i64 k ∧ k ≤ 23 ∧ wr.ownsRow (w.heap.size + 1) 9 1 f (rep c 8 ((sy 8).take k)).length ((rep c 8 ((sy 8).take k)).map encStr) ∧ Hid (Blk wr w.heap.size 43 (nine c)) ∧ Hid (Below w.heap.size w wr)) (fun _ i _ => 23 - (intOf i).toNat)
  case atStart => exact ⟨0, rfl, by omega, World.ownsRow_nil _ _ _ _, PB, HB⟩
  case round =>
    obtain ⟨k, rfl, hk, hown, PB, HB⟩ := hrel
    have HO := Lib.hid hown
    clear hown
    by_cases hkM : k < 23
    · obtain ⟨x, hx⟩ : ∃ x, (sy 8)[k]? = some x := ⟨_, List.getElem?_eq_getElem (by omega)⟩
      have hxk := sy8_at hkM hx
      have hxb := sy_bd hx
      have HT := Lib.hid (take_next (by omega) hx)
      have hcU := upd_bd hc 8 hxb
      obtain ⟨z0, z1, z2, z3, z4, z5, z6, z7, z8⟩ := PB.out.nine
      have klt : w.heap.size < wr.heap.size := PB.out.lt
      have hneq := neq9
      by_cases hxc : x = c 8
      · have HR := Lib.hid (rep_next_no (c := c) (p := 8) (l := (sy 8).take k) (x := x) (by simp [hxc]))
        rw [← HT.out] at HR
        rw [← HR.out] at HO
        subst hxc
        go_wp2_with fail
        case roundEnd => exact ⟨⟨k + 1, by simp, by omega, HO.out.alloc _, Lib.hid (PB.out.alloc _), Lib.hid (bAl HB.out _)⟩, by simp [intOf]; omega⟩
      · have hxf : (x == c 8) = false := beq_eq_false_iff_ne.2 hxc
        go_wp2_with fail
        refine (wellFormed_any (upd c 8 x) hcU _).mono ?_
        rintro e w2 ⟨rfl, hb⟩
        have PO2 : Hid (Blk w2 wr.heap.size 43 (nine (upd c 8 x))) := Lib.hid (Blk.later (Blk.newAt (w := wr) (t := 43) (cs := nine (upd c 8 x)) rfl) hb)
        have PB2 := Lib.hid ((PB.out.alloc _).later hb)
        have HO2 := Lib.hid (own_later (HO.out.alloc _) hb)
        have HB2 := Lib.hid (bTr (bAl HB.out _) hb)
        clear hb PB HO HB z0 z1 z2 z3 z4 z5 z6 z7 z8
        have hlt2 := PO2.out.lt
        generalize hg : wr.heap.size = g at PO2 hlt2 ⊢
        have hgk : w.heap.size + 1 ≤ g := by omega
        clear hg klt
        cases hwf : (digs (upd c 8 x) 8 && isLet (upd c 8 x 8))
        · have HR := Lib.hid (rep_next_no (c := c) (p := 8) (l := (sy 8).take k) (x := x) (by unfold good; rw [hwf]; simp))
          rw [← HT.out] at HR
          rw [← HR.out] at HO2
          go_wp2_with fail
          case roundEnd => exact ⟨⟨k + 1, by simp, by omega, HO2.out, PB2, HB2⟩, by simp [intOf]; omega⟩
        obtain ⟨z0, z1, z2, z3, z4, z5, z6, z7, z8⟩ := PO2.out.nine
        go_wp2_with fail
        refine (correct_any (upd c 8 x) hcU _).mono ?_
        rintro e w3 ⟨rfl, hb⟩
        have PO3 := Lib.hid (PO2.out.later hb)
        have PB3 := Lib.hid (PB2.out.later hb)
        have HO3 := Lib.hid (own_later HO2.out hb)
        have HB3 := Lib.hid (bTr HB2.out hb)
        clear hb PB2 HO2 HB2 z0 z1 z2 z3 z4 z5 z6 z7 z8
        cases hcr : (upd c 8 x 8 == lett ((wsum (upd c 8 x) 8) % 23).toNat)
        · have HR := Lib.hid (rep_next_no (c := c) (p := 8) (l := (sy 8).take k) (x := x) (by unfold good lsum; rw [hcr]; simp))
          rw [← HT.out] at HR
          rw [← HR.out] at HO3
          go_wp2_with fail
          case roundEnd => exact ⟨⟨k + 1, by simp, by omega, HO3.out, PB3, HB3⟩, by simp [intOf]; omega⟩
        have HR := Lib.hid (rep_next_yes (c := c) (p := 8) (l := (sy 8).take k) (x := x) (by unfold good lsum; rw [hwf, hcr, hxf]; rfl))
        rw [← HT.out] at HR
        have hrun := text_nine _ hcU _ _ PO3.out
        have HL : Hid ((rep c 8 ((sy 8).take k)).length ≤ 23) := Lib.hid (Nat.le_trans (rep_len _ _ _) (by rw [List.length_take]; omega))
        have HSZ := Lib.hid PB3.out.lt
        go_wp2_with (at_builtin; refine wpList_append_own_at _ rfl (.tmp 33) (.tmp 36) 40 rfl (w.heap.size + 1) 9 j0 (.string ⟨#[]⟩) 1 16 Try.underlying40 hj0 hy0 hy1 hy2 rfl (by decide) _ _ _ rfl (HO3.out.alloc _) ⟨w3.heap.size, 0, none⟩ 1 1 [encStr (tL (upd c 8 x))] rfl rfl ?c1 ?c2 ?c3 ?c4 ?c5 ?_; (case c1 => exact cell_one_new _ _ _); (case c2 => intro u hu; simp at hu; subst hu; rfl); (case c3 => have := HL.out; unfold maxLen; omega); (case c4 => have := HL.out; omega); (case c5 => have := HSZ.out; simp; omega); intro v10 w10 hown10 hgrow10 hnil10 hat10; have H10 := Lib.hid (And.intro hown10 hgrow10); clear hown10 hgrow10 hnil10 hat10)
        case roundEnd =>
          obtain ⟨hown10, hgrow10⟩ := H10.out
          refine ⟨⟨k + 1, by simp, by omega, ?_, Lib.hid ((PB3.out.alloc _).grown hgrow10 ?_), Lib.hid ((bAl HB3.out _).grown hgrow10 (by have := HSZ.out; simp; omega) ?_)⟩, by simp [intOf]; omega⟩
          · rw [HR.out, List.length_append, List.map_append]
            exact hown10
          · intro e
            have := (HO3.out.lt _ e.symm).1
            omega
          · intro j e
            have := (HO3.out.lt _ e).1
            omega
    · obtain rfl : k = 23 := by omega
      have HE := Lib.hid (show (sy 8).take 23 = sy 8 from List.take_of_length_le (by omega))
      rw [HE.out] at HO
      have HX := Lib.hid (show ∀ v, v = u6 → ∃ v', Ending.returned v = .returned v' ∧ wr.ownsRow w.heap.size 9 1 v' (rep c 8 (sy 8)).length ((rep c 8 (sy 8)).map encStr) ∧ Below w.heap.size w wr from fun v e => by subst e; exact ⟨_, rfl, own_up HO.out (by omega), HB.out⟩)
      go_wp2_with fail
      refine bodyPost_ret (v := u6) (by simp [results, Try.results39, go_sem]) rfl (HX.out _ rfl)
theorem repl_any (c : Nat → Int) (hc : ∀ i, 0 ≤ c i ∧ c i < 256) (p : Nat) (hp : p < 9) (w : World) :
    Calls Try.prog 39 #[.agg (nine c), .int .i64 p] w fun e w' => ∃ v, e = .returned v ∧ w'.ownsRow w.heap.size 9 1 v (rep c p (sy p)).length ((rep c p (sy p)).map encStr) ∧ Below w.heap.size w w' := by
  obtain rfl | rfl | rfl | rfl | rfl | rfl | rfl | rfl | rfl : p = 0 ∨ p = 1 ∨ p = 2 ∨ p = 3 ∨ p = 4 ∨ p = 5 ∨ p = 6 ∨ p = 7 ∨ p = 8 := by omega
  · exact repl_0 c hc w
  · exact repl_1 c hc w
  · exact repl_2 c hc w
  · exact repl_3 c hc w
  · exact repl_4 c hc w
  · exact repl_5 c hc w
  · exact repl_6 c hc w
  · exact repl_7 c hc w
  · exact repl_8 c hc w
end Go.Proofs.Ytlionhmmefghmaa
