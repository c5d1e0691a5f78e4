/-
  Canonical of package stamp.
-/
import Derived.Test.YtdggmnhddoejhaaDisp
namespace Go.Proofs.Ytdggmnhddoejhaa
open Go.RowKit Go.Sort Go.Lib
set_option linter.unusedSimpArgs false
set_option linter.unusedVariables false

theorem counting_yes {L : Nat → St} {C : Nat → Int} {G : List (List Nat)} {k : Nat} {g : List Nat} (hg : G[k]? = some g) (hd' : gdis L C g = false) : counting L C (G.take (k + 1)) = counting L C (G.take k) ++ [hd g] := by
  unfold counting; rw [List.take_add_one, hg]; simp [hd']
theorem counting_no {L : Nat → St} {C : Nat → Int} {G : List (List Nat)} {k : Nat} {g : List Nat} (hg : G[k]? = some g) (hd' : gdis L C g = true) : counting L C (G.take (k + 1)) = counting L C (G.take k) := by
  unfold counting; rw [List.take_add_one, hg]; simp [hd']
theorem counting_len (L : Nat → St) (C : Nat → Int) (G : List (List Nat)) : (counting L C G).length ≤ G.length := by
  unfold counting; rw [List.length_map]; exact List.length_filter_le _ _
theorem GM.form {w : World} {B : Nat} {v : Value} {vs : List Value} {G : List (List Nat)} (h : GM w B v vs G) : ∃ p cap, v = .slice p vs.length cap ∧ ∀ (j : Nat) (x : Value), vs[j]? = some x → ∃ q, p = some ⟨q, 0, none⟩ ∧ B ≤ q ∧ q < w.heap.size ∧ w.cell? ⟨q, j, none⟩ = some x := by
  have ho := h.out
  rcases ho.2 with ⟨rfl, h0⟩ | ⟨g, cap, cur, rfl, hb, hc, _⟩
  · rw [h0]
    exact ⟨none, 0, rfl, fun j x hx => by have := List.length_eq_zero_iff.1 h0; subst this; simp at hx⟩
  · refine ⟨_, cap, rfl, fun j x hx => ⟨g, rfl, hb, (Array.getElem?_eq_some_iff.1 hc).1, ?_⟩⟩
    have hj : j < vs.length := by
      rcases Nat.lt_or_ge j vs.length with h | h
      · exact h
      · rw [List.getElem?_eq_none h] at hx; cases hx
    rw [ho.cellAt j (by omega), hx]
theorem sorted_exists (L : Nat → St) (l : List Nat) : ∃ out : List Nat, out.Perm l ∧ out.Pairwise fun i k => ¬ stLt (L k) (L i) := by
  refine ⟨l.mergeSort fun i k => !decide (cmp3 (L k) (L i) < 0), List.mergeSort_perm _ _, ?_⟩
  refine (List.pairwise_mergeSort (le := fun i k => !decide (cmp3 (L k) (L i) < 0)) ?_ ?_ l).imp fun {a b} h => ?_
  · intro a b c h1 h2
    simp only [Bool.not_eq_true', decide_eq_false_iff_not, cmp3_lt] at *
    intro h
    rcases stLt_tri (L a) (L b) with k | k | k
    · exact h2 (stLt_trans h k)
    · rw [k] at h; exact h2 h
    · exact h1 k
  · intro a b
    simp only [Bool.or_eq_true, Bool.not_eq_true', decide_eq_false_iff_not, cmp3_lt]
    rcases stLt_tri (L a) (L b) with k | k | k
    · exact .inl fun h => stLt_irr _ (stLt_trans h k)
    · left; rw [k]; exact stLt_irr _
    · exact .inr fun h => stLt_irr _ (stLt_trans h k)
  · simpa only [Bool.not_eq_true', decide_eq_false_iff_not, cmp3_lt] using h
theorem own_form2 {w : World} {B n m cap : Nat} {e : TypeId} {p : Option Addr} {xs : List Value} (h : w.ownsRow B e 1 (.slice p m cap) n xs) : (p = none ∧ n = 0 ∧ cap = 0) ∨ ∃ q, p = some ⟨q, 0, none⟩ ∧ n ≤ cap ∧ cap ≤ maxLen ∧ B ≤ q ∧ q < w.heap.size := by
  rcases h.2 with ⟨hv, h0⟩ | ⟨g, cap', cur, hv, hb, hc, hmc, hm, _⟩
  · injection hv with h1 h2 h3
    exact .inl ⟨h1, h0, h3⟩
  · injection hv with h1 h2 h3
    subst h3
    exact .inr ⟨g, h1, hmc, hm, hb, (Array.getElem?_eq_some_iff.1 hc).1⟩
/-- what Canonical says of its answer v, code -/
def CanonV (L : Nat → St) (C : Nat → Int) (n : Nat) (w w' : World) (v : Value) (code : Int) : Prop :=
  ∃ (out : List Nat), IsCanon L C n out ∧ RowKit.Below w.heap.size w w' ∧
    ((out.length ≤ 300 ∧ code = 0 ∧ ∃ B, w'.ownsRow B 3 1 v out.length (out.map iv) ∧ w.heap.size ≤ B) ∨ (300 < out.length ∧ v = .slice none 0 0 ∧ code = 3))
def CanonR (L : Nat → St) (C : Nat → Int) (n : Nat) (w : World) (e : Ending) (w' : World) : Prop :=
  ∃ (v : Value) (code : Int), e = .returned (.tuple #[v, .int .i64 code]) ∧ CanonV L C n w w' v code
def CAt (L : Nat → St) (C : Nat → Int) (G : List (List Nat)) (w2 : World) (v6 i : Value) (wr : World) : Prop :=
  ∃ k : Nat, i = .int .i64 k ∧ k ≤ G.length ∧ wr.ownsRow w2.heap.size 3 1 v6 (counting L C (G.take k)).length ((counting L C (G.take k)).map iv) ∧ RowKit.Below w2.heap.size w2 wr

set_option maxHeartbeats 400000 in
theorem canon_bad (o o' : Option Addr) (n n' c c' : Nat) (w : World) (hne : n' ≠ n) :
    Calls Try.prog 20 #[.slice o n c, .slice o' n' c'] w fun e w' => e = .returned (.tuple #[.slice none 0 0, .int .i64 1]) ∧ RowKit.Below w.heap.size w w' := by
  have h1 : (((n' : Nat) : Int) != (n : Int)) = true := by rw [bne_iff_ne]; omega
  go_enter Try.func20, Try.ntmps20
  go_wp2
  go_ret2
  exact ⟨rfl, bAl (RowKit.Below.refl _ _) _⟩

set_option maxHeartbeats 4000000 in
theorem canon_any (o o' : Option Addr) (n c c' : Nat) (L : Nat → St) (C : Nat → Int) (w : World) (hs : RowS w w.heap.size o n L) (hC : RowI w w.heap.size o' n C) (hn : n ≤ 1000000) :
    Calls Try.prog 20 #[.slice o n c, .slice o' n c'] w (CanonR L C n w) := by
  obtain ⟨i0, hi0, hz0, hz1, hz2⟩ := info_parts int_info
  have h1 : (((n : Nat) : Int) != (n : Int)) = false := by simp
  go_enter Try.func20, Try.ntmps20
  have hb1 := bAl (RowKit.Below.refl _ w) (.cells #[.slice o n c] 31)
  have HS := Lib.hid (hs.below hb1 (Nat.le_refl _))
  have HC := Lib.hid (hC.below hb1 (Nat.le_refl _))
  have HBX := Lib.hid (show (w.alloc (.cells #[.slice o n c] 31)).cell? ⟨w.heap.size, 0, none⟩ = some (.slice o n c) from (Blk.new _ _ _).cell 0)
  have HLT := Lib.hid (show w.heap.size < (w.alloc (.cells #[.slice o n c] 31)).heap.size by simp)
  have HBB := Lib.hid hb1
  clear hs hC hb1
  go_wp2_with (go_at_call 39; refine (byId_any o n c L _ ?h1 hn).mono ?_; (case h1 => exact HS.out.more (Nat.le_of_lt HLT.out)); rintro e w2 ⟨v, vs, G, B, rfl, hGM, hG, hfull, hflen, hb2, hB⟩; have HGM := Lib.hid hGM; have HG := Lib.hid hG; have HF := Lib.hid hfull; have HFL := Lib.hid hflen; have HB2 := Lib.hid hb2; have HBB2 := Lib.hid hB; have hvl : vs.length ≤ 1000000 := (by have h1 := flat_len hG.ne; have h2 := hGM.len; omega); obtain ⟨p, cap, rfl, hvs⟩ := hGM.form; have HVS := Lib.hid hvs; clear hGM hG hfull hflen hb2 hB hvs)
  have HLV := Lib.hid HGM.out.len
  have HS2 := Lib.hid (HS.out.below HB2.out (Nat.le_of_lt HLT.out))
  have HC2 := Lib.hid (HC.out.below HB2.out (Nat.le_of_lt HLT.out))
  have HBX2 := Lib.hid ((HB2.out.cell (p := ⟨w.heap.size, 0, none⟩) HLT.out).trans HBX.out)
  have HLT2 := Lib.hid (Nat.lt_of_lt_of_le HLT.out HB2.out.size)
  have HBB3 := Lib.hid (HBB.out.trans (HB2.out.mono (Nat.le_of_lt HLT.out)))
  clear HS HC HBX HLT HBB HB2 HBB2 h1
  go_loopw [6, 17] (fun v6 i wr => CAt L C G w2 v6 i wr) (fun _ i _ => vs.length - (intOf i).toNat)
  case atStart => exact ⟨0, rfl, Nat.zero_le _, World.ownsRow_nil _ _ _ _, RowKit.Below.refl _ _⟩
  case round =>
    obtain ⟨k, rfl, hk, hown, hb⟩ := hrel
    have HO := Lib.hid hown
    have HB := Lib.hid hb
    have HBX3 := Lib.hid ((hb.cell (p := ⟨w.heap.size, 0, none⟩) HLT2.out).trans HBX2.out)
    clear hown hb
    by_cases hkv : k < vs.length
    · have hkv' : (k : Int) < vs.length := by omega
      obtain ⟨x, hx⟩ : ∃ x, vs[k]? = some x := ⟨_, List.getElem?_eq_getElem hkv⟩
      obtain ⟨g, hg⟩ : ∃ g, G[k]? = some g := ⟨_, List.getElem?_eq_getElem (by have := HLV.out; omega)⟩
      obtain ⟨q, rfl, hqB, hql, hc0⟩ := HVS.out k x hx
      have hc := (HB.out.cell (p := ⟨q, k, none⟩) hql).trans hc0
      have HROW := Lib.hid (own_later (HGM.out.row k x g hx hg) HB.out)
      have hgm := List.mem_of_getElem? hg
      have HNE := Lib.hid (HG.out.ne g hgm)
      have HALL := Lib.hid (show ∀ i ∈ g, i < n from fun i hi => ((HF.out i).1 (List.mem_flatten.2 ⟨g, hgm, hi⟩)).1)
      have HGL := Lib.hid (show g.length ≤ 1000000 from by
        have h2 := HFL.out
        have h3 : g.length ≤ G.flatten.length := by
          obtain ⟨l1, l2, rfl⟩ := List.append_of_mem hgm
          simp; omega
        omega)
      have HGG := Lib.hid hg
      have hbx := HBX3.out
      clear hc0 hx hgm hg
      obtain ⟨gx, capx, hxv, _, _, hgxl⟩ := own_some HROW.out (by have := HNE.out; simpa using this)
      subst hxv
      have HCX := Lib.hid (show wr.cell? ⟨gx, 0, none⟩ = some (.int .i64 ((hd g : Nat) : Int)) by
        have h0 : 0 < g.length := List.length_pos_iff.2 HNE.out
        rw [HROW.out.cellAt 0 (by omega), List.getElem?_map]
        cases hgc : g with
        | nil => exact absurd hgc HNE.out
        | cons a t => rfl)
      have HRS := Lib.hid (HS2.out.below HB.out (Nat.le_of_lt HLT2.out))
      have HRC := Lib.hid (HC2.out.below HB.out (Nat.le_of_lt HLT2.out))
      have HZ := Lib.hid (Nat.le_of_lt (Nat.lt_of_lt_of_le HLT2.out HB.out.size))
      cases hd' : gdis L C g
      · have HD := Lib.hid (counting_yes HGG.out hd')
        have HCL := Lib.hid (show (counting L C (G.take k)).length ≤ 1000000 from by have h1 := counting_len L C (G.take k); simp at h1; omega)
        have hgp : (0 : Int) < (g.length : Int) := by have := List.length_pos_iff.2 HNE.out; omega
        go_wp2_with (first | (go_at_call 40; refine (disputed_any _ _ _ _ _ _ _ _ _ _ _ g _ HRS.out HRC.out HZ.out HZ.out hn HNE.out HALL.out HGL.out HROW.out).mono ?_; rintro e w3 ⟨rfl, hb3⟩; have HB3 := Lib.hid hb3; have hcx := (hb3.cell (p := ⟨gx, 0, none⟩) hgxl).trans HCX.out; have HO3 := Lib.hid (own_later HO.out hb3); clear hb3) | (at_builtin; refine wpList_append_own_at _ rfl (.tmp 26) (.tmp 30) 28 rfl w2.heap.size 3 i0 (.int .i64 0) 1 8 Try.underlying28 hi0 hz0 hz1 hz2 rfl (by decide) _ _ _ rfl (HO3.out.alloc _) ⟨w3.heap.size, 0, none⟩ 1 1 [iv (hd g)] rfl rfl ?c1 ?c2 ?c3 ?c4 ?c5 ?_; (case c1 => exact cell_one_new _ _ _); (case c2 => intro u hu; simp at hu; subst hu; rfl); (case c3 => have := HCL.out; unfold maxLen; omega); (case c4 => have := HCL.out; omega); (case c5 => have h1 := HB.out.size; have h2 := HB3.out.size; simp; omega); intro v4 w4 hown4 hgrow4 hnil4 hat4; have H4 := Lib.hid (And.intro hown4 hgrow4); clear hown4 hgrow4 hnil4 hat4))
        go_roundw
        case rel => exact ⟨k + 1, by go_num, by have := HLV.out; omega, by rw [HD.out]; simpa using H4.out.1, ((HB.out.trans (HB3.out.mono HB.out.size)).alloc (Nat.le_trans HB.out.size HB3.out.size) _).grown H4.out.2 (by have h1 := HB.out.size; have h2 := HB3.out.size; simp; omega) (fun j hj => (HO3.out.lt j hj).1)⟩
        case measure => simp [intOf]; omega
      · have HD := Lib.hid (counting_no HGG.out hd')
        go_wp2_with (go_at_call 40; refine (disputed_any _ _ _ _ _ _ _ _ _ _ _ g _ HRS.out HRC.out HZ.out HZ.out hn HNE.out HALL.out HGL.out HROW.out).mono ?_; rintro e w3 ⟨rfl, hb3⟩; have HB3 := Lib.hid hb3; have HO3 := Lib.hid (own_later HO.out hb3); clear hb3)
        go_roundw
        case rel => exact ⟨k + 1, by go_num, by have := HLV.out; omega, by rw [HD.out]; exact HO3.out, HB.out.trans (HB3.out.mono HB.out.size)⟩
        case measure => simp [intOf]; omega
    · have hto : G.take k = G := List.take_of_length_le (by have := HLV.out; omega)
      have HO6 := Lib.hid (show wr.ownsRow w2.heap.size 3 1 u6 (counting L C G).length ((counting L C G).map iv) by have := HO.out; rw [hto] at this; exact this)
      clear hto HO
      have HCL := Lib.hid (show (counting L C G).length ≤ 1000000 from by have h1 := counting_len L C G; have h2 := HLV.out; omega)
      have HALL := Lib.hid (show ∀ i ∈ counting L C G, i < n from fun i hi => ((counting_mem HG.out HF.out i).1 hi).1)
      have HFIN := Lib.hid (HBB3.out.trans (HB.out.mono (Nat.le_of_lt HLT2.out)))
      have HRS := Lib.hid (HS2.out.below HB.out (Nat.le_of_lt HLT2.out))
      have HZ := Lib.hid (Nat.lt_of_lt_of_le HLT2.out HB.out.size)
      obtain ⟨p6, cap6, hv6, _⟩ := own_form HO6.out
      subst hv6
      by_cases hbig : 300 < (counting L C G).length
      · obtain ⟨out, hp, hsrt⟩ := sorted_exists L (counting L C G)
        have HX := Lib.hid (show CanonR L C n w (.returned (.tuple #[.slice none 0 0, .int .i64 3])) wr from ⟨_, _, rfl, out, canon_of_sorted HG.out HF.out out hp hsrt, HFIN.out, .inr ⟨by rw [hp.length_eq]; exact hbig, rfl, rfl⟩⟩)
        go_wp2
        go_ret2
        exact HX.out
      · go_wp2_with (go_at_call 41; refine (sort_row (B := w2.heap.size) (ord := counting L C G) (cfSt L (n := n)) (swoSt L) (fun a b => stLt (L a) (L b)) (cfSt_lt L) enterSt ?h1 HALL.out HB.out.size ?h2 HO6.out).mono ?_; (case h1 => intro _ blk off size g1 g2; exact laysSt HRS.out HBX3.out HZ.out (Nat.le_of_lt HZ.out) (by omega) (by have := HLT2.out; omega) (by have := HLT2.out; omega) off size); (case h2 => have := HCL.out; omega); rintro e w3 ⟨rfl, ord, hown3, hperm, hsort, hbel⟩; have HX := Lib.hid (show CanonR L C n w (.returned (.tuple #[.slice p6 (counting L C G).length cap6, .int .i64 0])) w3 from ⟨_, _, rfl, ord, canon_of_sorted HG.out HF.out ord hperm hsort, HFIN.out.trans (hbel.mono (Nat.le_of_lt HLT2.out)), .inl ⟨by rw [hperm.length_eq]; omega, rfl, _, by rw [hperm.length_eq]; exact hown3, Nat.le_of_lt HLT2.out⟩⟩); clear hown3 hperm hsort hbel)
        go_ret2
        exact HX.out
end Go.Proofs.Ytdggmnhddoejhaa
