/-
  Disputed of package stamp.
-/
import Derived.Test.YtdggmnhddoejhaaCanon
namespace Go.Proofs.Ytdggmnhddoejhaa
open Go.RowKit Go.Sort Go.Lib
set_option linter.unusedSimpArgs false
set_option linter.unusedVariables false

theorem id_info : (Try.prog.info? 43).map (fun i => (i.zero, i.size, i.bytes)) = some (some (.agg #[.int .i64 0, .int .i64 0]), 2, 16) := by kernel_rfl
def idCells (l : List (Int × Int)) : List Value := l.flatMap fun x => [.int .i64 x.1, .int .i64 x.2]
theorem idCells_snoc (l : List (Int × Int)) (x : Int × Int) : idCells (l ++ [x]) = idCells l ++ [.int .i64 x.1, .int .i64 x.2] := by unfold idCells; simp
theorem cell_two_new (w : World) (x y : Value) (t : TypeId) : ∀ j u, [x, y][j]? = some u → (w.alloc (.cells #[x, y] t)).cell? ((⟨w.heap.size, 0, none⟩ : Addr).add j) = some u := by
  intro j u hj
  match j, hj with
  | 0, hj => simp at hj; subst hj; exact (Blk.new w t #[x, y]).cell 0
  | 1, hj => simp at hj; subst hj; exact (Blk.new w t #[x, y]).cell 1
theorem disputes_yes {L : Nat → St} {C : Nat → Int} {G : List (List Nat)} {k : Nat} {g : List Nat} (hg : G[k]? = some g) (hd' : gdis L C g = true) : disputes L C (G.take (k + 1)) = disputes L C (G.take k) ++ [(L (hd g)).2] := by
  unfold disputes; rw [List.take_add_one, hg]; simp [hd']
theorem disputes_no {L : Nat → St} {C : Nat → Int} {G : List (List Nat)} {k : Nat} {g : List Nat} (hg : G[k]? = some g) (hd' : gdis L C g = false) : disputes L C (G.take (k + 1)) = disputes L C (G.take k) := by
  unfold disputes; rw [List.take_add_one, hg]; simp [hd']
theorem disputes_len (L : Nat → St) (C : Nat → Int) (G : List (List Nat)) : (disputes L C G).length ≤ G.length := by
  unfold disputes; rw [List.length_map]; exact List.length_filter_le _ _
def DisV (L : Nat → St) (C : Nat → Int) (n : Nat) (w w' : World) (v : Value) : Prop :=
  ∃ (out : List (Int × Int)) (B : Nat), IsDis L C n out ∧ RowKit.Below w.heap.size w w' ∧ w'.ownsRow B 43 2 v out.length (idCells out) ∧ w.heap.size ≤ B ∧ out.length ≤ n
def DisR (L : Nat → St) (C : Nat → Int) (n : Nat) (w : World) (e : Ending) (w' : World) : Prop :=
  ∃ (v : Value), e = .returned (.tuple #[v, .int .i64 0]) ∧ DisV L C n w w' v
def DAt (L : Nat → St) (C : Nat → Int) (G : List (List Nat)) (w2 : World) (v6 i : Value) (wr : World) : Prop :=
  ∃ k : Nat, i = .int .i64 k ∧ k ≤ G.length ∧ wr.ownsRow w2.heap.size 43 2 v6 (disputes L C (G.take k)).length (idCells (disputes L C (G.take k))) ∧ RowKit.Below w2.heap.size w2 wr

set_option maxHeartbeats 400000 in
theorem dis_bad (o o' : Option Addr) (n n' c c' : Nat) (w : World) (hne : n' ≠ n) :
    Calls Try.prog 23 #[.slice o n c, .slice o' n' c'] w fun e w' => e = .returned (.tuple #[.slice none 0 0, .int .i64 1]) ∧ w = w' := by
  have h1 : (((n' : Nat) : Int) != (n : Int)) = true := by rw [bne_iff_ne]; omega
  go_enter Try.func23, Try.ntmps23
  go_wp2
  go_ret2
  exact ⟨rfl, rfl⟩

set_option maxHeartbeats 4000000 in
theorem dis_any (o o' : Option Addr) (n c c' : Nat) (L : Nat → St) (C : Nat → Int) (w : World) (hs : RowS w w.heap.size o n L) (hC : RowI w w.heap.size o' n C) (hn : n ≤ 1000000) :
    Calls Try.prog 23 #[.slice o n c, .slice o' n c'] w (DisR L C n w) := by
  obtain ⟨i0, hi0, hz0, hz1, hz2⟩ := info_parts id_info
  have h1 : (((n : Nat) : Int) != (n : Int)) = false := by simp
  have HS := Lib.hid hs
  have HC := Lib.hid hC
  clear hs hC
  go_enter Try.func23, Try.ntmps23
  go_wp2_with (go_at_call 39; refine (byId_any o n c L _ HS.out hn).mono ?_; rintro e w2 ⟨v, vs, G, B, rfl, hGM, hG, hfull, hflen, hb2, hB⟩; have HGM := Lib.hid hGM; have HG := Lib.hid hG; have HF := Lib.hid hfull; have HFL := Lib.hid hflen; have HB2 := Lib.hid hb2; have hvl : vs.length ≤ 1000000 := (by have h1 := flat_len hG.ne; have h2 := hGM.len; omega); obtain ⟨p, cap, rfl, hvs⟩ := hGM.form; have HVS := Lib.hid hvs; clear hGM hG hfull hflen hb2 hB hvs)
  have HLV := Lib.hid HGM.out.len
  have HS2 := Lib.hid (HS.out.below HB2.out (Nat.le_refl _))
  have HC2 := Lib.hid (HC.out.below HB2.out (Nat.le_refl _))
  have HZ2 := Lib.hid HB2.out.size
  clear HS HC h1
  go_loopw [6, 18] (fun v6 i wr => DAt L C G w2 v6 i wr) (fun _ i _ => vs.length - (intOf i).toNat)
  case atStart => exact ⟨0, rfl, Nat.zero_le _, World.ownsRow_nil _ _ _ _, RowKit.Below.refl _ _⟩
  case round =>
    obtain ⟨k, rfl, hk, hown, hb⟩ := hrel
    have HO := Lib.hid hown
    have HB := Lib.hid hb
    clear hown hb
    by_cases hkv : k < vs.length
    · have hkv' : (k : Int) < vs.length := by omega
      obtain ⟨x, hx⟩ : ∃ x, vs[k]? = some x := ⟨_, List.getElem?_eq_getElem hkv⟩
      obtain ⟨g, hg⟩ : ∃ g, G[k]? = some g := ⟨_, List.getElem?_eq_getElem (by have := HLV.out; omega)⟩
      obtain ⟨q, rfl, hqB, hql, hc0⟩ := HVS.out k x hx
      have hc := (HB.out.cell (p := ⟨q, k, none⟩) hql).trans hc0
      have HROW := Lib.hid (own_later (HGM.out.row k x g hx hg) HB.out)
      have hgm := List.mem_of_getElem? hg
      have HNE := Lib.hid (HG.out.ne g hgm)
      have HALL := Lib.hid (show ∀ i ∈ g, i < n from fun i hi => ((HF.out i).1 (List.mem_flatten.2 ⟨g, hgm, hi⟩)).1)
      have HGL := Lib.hid (show g.length ≤ 1000000 from by
        have h2 := HFL.out
        have h3 : g.length ≤ G.flatten.length := by
          obtain ⟨l1, l2, rfl⟩ := List.append_of_mem hgm
          simp; omega
        omega)
      have HGG := Lib.hid hg
      clear hc0 hx hgm hg
      obtain ⟨gx, capx, hxv, _, _, hgxl⟩ := own_some HROW.out (by have := HNE.out; simpa using this)
      subst hxv
      have HCX := Lib.hid (show wr.cell? ⟨gx, 0, none⟩ = some (.int .i64 ((hd g : Nat) : Int)) by
        have h0 : 0 < g.length := List.length_pos_iff.2 HNE.out
        rw [HROW.out.cellAt 0 (by omega), List.getElem?_map]
        cases hgc : g with
        | nil => exact absurd hgc HNE.out
        | cons a t => rfl)
      have HRS := Lib.hid (HS2.out.below HB.out HZ2.out)
      have HRC := Lib.hid (HC2.out.below HB.out HZ2.out)
      have HZ := Lib.hid (Nat.le_trans HZ2.out HB.out.size)
      cases hd' : gdis L C g
      · have HD := Lib.hid (disputes_no HGG.out hd')
        go_wp2_with (go_at_call 40; refine (disputed_any _ _ _ _ _ _ _ _ _ _ _ g _ HRS.out HRC.out HZ.out HZ.out hn HNE.out HALL.out HGL.out HROW.out).mono ?_; rintro e w3 ⟨rfl, hb3⟩; have HB3 := Lib.hid hb3; have HO3 := Lib.hid (own_later HO.out hb3); clear hb3)
        go_roundw
        case rel => exact ⟨k + 1, by go_num, by have := HLV.out; omega, by rw [HD.out]; exact HO3.out, HB.out.trans (HB3.out.mono HB.out.size)⟩
        case measure => simp [intOf]; omega
      · have HD := Lib.hid (disputes_yes HGG.out hd')
        have HCL := Lib.hid (show (disputes L C (G.take k)).length ≤ 1000000 from by have h1 := disputes_len L C (G.take k); simp at h1; omega)
        have hgp : (0 : Int) < (g.length : Int) := by have := List.length_pos_iff.2 HNE.out; omega
        have hfn : hd g < n := HALL.out _ (hd_mem HNE.out)
        have hfn' : ((hd g : Nat) : Int) < (n : Int) := by omega
        obtain ⟨b, off, rfl, hbB, a0, a1, a2⟩ := HRS.out (hd g) hfn
        have HA := Lib.hid (And.intro a0 (And.intro a1 a2))
        have hbl : b < wr.heap.size := Nat.lt_of_lt_of_le hbB HZ.out
        clear a0 a1 a2
        go_wp2_with (first | (go_at_call 40; refine (disputed_any _ _ _ _ _ _ _ _ _ _ _ g _ HRS.out HRC.out HZ.out HZ.out hn HNE.out HALL.out HGL.out HROW.out).mono ?_; rintro e w3 ⟨rfl, hb3⟩; have HB3 := Lib.hid hb3; have hcx := (hb3.cell (p := ⟨gx, 0, none⟩) hgxl).trans HCX.out; have b0 := (hb3.cell (p := ⟨b, off + hd g * 3, none⟩) hbl).trans HA.out.1; have b1 := (hb3.cell (p := ⟨b, off + hd g * 3 + 1, none⟩) hbl).trans HA.out.2.1; have b2 := (hb3.cell (p := ⟨b, off + hd g * 3 + 2, none⟩) hbl).trans HA.out.2.2; have HO3 := Lib.hid (own_later HO.out hb3); clear hb3) | (at_builtin; refine wpList_append_own_at _ rfl (.tmp 32) (.tmp 38) 39 rfl w2.heap.size 43 i0 (.agg #[.int .i64 0, .int .i64 0]) 2 16 Try.underlying39 hi0 hz0 hz1 hz2 rfl (by decide) _ _ _ rfl ((HO3.out.alloc _).alloc _) ⟨w3.heap.size + 1, 0, none⟩ 1 1 [.int .i64 (L (hd g)).2.1, .int .i64 (L (hd g)).2.2] rfl rfl ?c1 ?c2 ?c3 ?c4 ?c5 ?_; (case c1 => have := cell_two_new (w3.alloc (.cells #[.int .i64 (L (hd g)).1, .int .i64 (L (hd g)).2.1, .int .i64 (L (hd g)).2.2] 23)) (.int .i64 (L (hd g)).2.1) (.int .i64 (L (hd g)).2.2) 43; simpa using this); (case c2 => intro u hu; simp at hu; rcases hu with hu | hu <;> (subst hu; rfl)); (case c3 => have := HCL.out; unfold maxLen; omega); (case c4 => have := HCL.out; omega); (case c5 => have h1 := HB.out.size; have h2 := HB3.out.size; simp; omega); intro v4 w4 hown4 hgrow4 hnil4 hat4; have H4 := Lib.hid (And.intro hown4 hgrow4); clear hown4 hgrow4 hnil4 hat4))
        go_roundw
        case rel => exact ⟨k + 1, by go_num, by have := HLV.out; omega, by rw [HD.out, idCells_snoc]; simpa using H4.out.1, (((HB.out.trans (HB3.out.mono HB.out.size)).alloc (Nat.le_trans HB.out.size HB3.out.size) _).alloc (by have h1 := HB.out.size; have h2 := HB3.out.size; simp; omega) _).grown H4.out.2 (by have h1 := HB.out.size; have h2 := HB3.out.size; simp; omega) (fun j hj => (HO3.out.lt j hj).1)⟩
        case measure => simp [intOf]; omega
    · have hto : G.take k = G := List.take_of_length_le (by have := HLV.out; omega)
      have HX := Lib.hid (show ∀ v6, v6 = u6 → DisR L C n w (.returned (.tuple #[v6, .int .i64 0])) wr from fun v6 e => by
        subst e
        refine ⟨_, rfl, _, w2.heap.size, isDis_of HG.out HF.out, HB2.out.trans (HB.out.mono HZ2.out), by have := HO.out; rw [hto] at this; exact this, HZ2.out, ?_⟩
        have h1 := disputes_len L C G; have h2 := flat_len HG.out.ne; have h3 := HFL.out; omega)
      clear hto HO
      go_wp2
      go_ret2
      exact HX.out _ rfl
end Go.Proofs.Ytdggmnhddoejhaa
