/-
  byIdentity: the valid events in groups.
-/
import Derived.Test.YtdggmnhddoejhaaGrpMem
import Derived.LoopN
import Derived.IntWalk
import Derived.Deep.DeepCutAuto
import Derived.Deep.CutBlock
namespace Go.Proofs.Ytdggmnhddoejhaa
open Go.RowKit Go.Sort Go.Lib
set_option linter.unusedSimpArgs false
set_option linter.unusedVariables false

theorem int_info : (Try.prog.info? 3).map (fun i => (i.zero, i.size, i.bytes)) = some (some (.int .i64 0), 1, 8) := by kernel_rfl
/-- the valid events among the first k -/
def ordK (L : Nat → St) (k : Nat) : List Nat := (List.range k).filter fun i => vld (L i)
theorem ordK_yes {L : Nat → St} {k : Nat} (h : vld (L k) = true) : ordK L (k + 1) = ordK L k ++ [k] := by
  unfold ordK; rw [List.range_succ, List.filter_append]; simp [h]
theorem ordK_no {L : Nat → St} {k : Nat} (h : vld (L k) = false) : ordK L (k + 1) = ordK L k := by
  unfold ordK; rw [List.range_succ, List.filter_append]; simp [h]
theorem ordK_len (L : Nat → St) (k : Nat) : (ordK L k).length ≤ k := by
  have := List.length_filter_le (fun i => vld (L i)) (List.range k)
  simpa [ordK] using this
/-- what holds of the list that the first loop collects -/
def Coll (L : Nat → St) (B : Nat) (w1 : World) (v i : Value) (wr : World) (n : Nat) : Prop :=
  ∃ k : Nat, i = .int .i64 k ∧ k ≤ n ∧ wr.ownsRow B 3 1 v (ordK L k).length ((ordK L k).map iv) ∧ RowKit.Below B w1 wr ∧ B ≤ wr.heap.size

theorem slice_info : (Try.prog.info? 28).map (fun i => (i.zero, i.size, i.bytes)) = some (some (.slice none 0 0), 1, 24) := by kernel_rfl
theorem ordK_all {L : Nat → St} {n : Nat} : ∀ i ∈ ordK L n, i < n := fun i hi => by
  unfold ordK at hi; rw [List.mem_filter] at hi; exact List.mem_range.1 hi.1
theorem ordK_mem {L : Nat → St} {n i : Nat} : i ∈ ordK L n ↔ i < n ∧ vld (L i) = true := by
  unfold ordK; rw [List.mem_filter, List.mem_range]
theorem ordK_nodup (L : Nat → St) (n : Nat) : (ordK L n).Nodup := (show (List.range n).Pairwise (· ≠ ·) from List.nodup_range).sublist List.filter_sublist
/-- the sorted order is strict -/
theorem strict_of {L : Nat → St} {n : Nat} {ord : List Nat} (hp : ord.Perm (ordK L n)) (hs : ord.Pairwise fun x y => ¬ keyLt L y x) : ord.Pairwise (keyLt L) := by
  have hnd : ord.Nodup := hp.nodup_iff.2 (ordK_nodup L n)
  refine (List.Pairwise.and hnd hs).imp fun {a b} hab => ?_
  rcases keyLt_tri L a b with h | h | h
  · exact h
  · exact absurd h hab.1
  · exact absurd h hab.2
/-- what holds of the groups after k of the places -/
def GAt (L : Nat → St) (ord : List Nat) (B : Nat) (w2 : World) (v6 i : Value) (wr : World) : Prop :=
  ∃ (k : Nat) (vs : List Value) (G : List (List Nat)), i = .int .i64 k ∧ k ≤ ord.length ∧ GM wr B v6 vs G ∧ Grp L G ∧ G.flatten = ord.take k ∧ RowKit.Below B w2 wr ∧ B ≤ wr.heap.size
/-- what byIdentity leaves -/
def Grouped (L : Nat → St) (n : Nat) (w : World) (e : Ending) (w' : World) : Prop :=
  ∃ (v : Value) (vs : List Value) (G : List (List Nat)) (B : Nat), e = .returned v ∧ GM w' B v vs G ∧ Grp L G ∧ Full L n G ∧ G.flatten.length ≤ n ∧ RowKit.Below w.heap.size w w' ∧ w.heap.size ≤ B
theorem own_form {w : World} {B m : Nat} {e : TypeId} {v : Value} {l : List Nat} (h : w.ownsRow B e 1 v m (l.map iv)) : ∃ p cap, v = .slice p m cap ∧ ∀ j x : Nat, l[j]? = some x → ∃ q, p = some ⟨q, 0, none⟩ ∧ B ≤ q ∧ q < w.heap.size ∧ w.cell? ⟨q, j, none⟩ = some (.int .i64 (x : Int)) := by
  have hl : l.length = m := by have := h.1; simpa using this
  rcases h.2 with ⟨rfl, h0⟩ | ⟨g, cap, cur, rfl, hb, hc, hmc, _, hcs, htk⟩
  · subst h0
    exact ⟨none, 0, rfl, fun j x hx => by have := List.length_eq_zero_iff.1 hl; subst this; simp at hx⟩
  · refine ⟨_, cap, rfl, fun j x hx => ⟨g, rfl, hb, (Array.getElem?_eq_some_iff.1 hc).1, ?_⟩⟩
    have hj : j < l.length := by
      rcases Nat.lt_or_ge j l.length with h | h
      · exact h
      · rw [List.getElem?_eq_none h] at hx; cases hx
    have := h.cellAt j (by omega)
    rw [this, List.getElem?_map, hx]; rfl

theorem take_last {ord : List Nat} {k p : Nat} (hk : 0 < k) (hp : ord[k - 1]? = some p) : (ord.take k).getLast? = some p := by
  have hlt : k - 1 < ord.length := by
    rcases Nat.lt_or_ge (k - 1) ord.length with h | h
    · exact h
    · rw [List.getElem?_eq_none h] at hp; cases hp
  rw [List.getLast?_eq_getElem?, List.length_take, List.getElem?_take, if_pos (by omega), show min k ord.length - 1 = k - 1 by omega, hp]
theorem take_pw {ord : List Nat} {k i : Nat} {r : Nat → Nat → Prop} (h : ord.Pairwise r) (hi : ord[k]? = some i) : (ord.take k ++ [i]).Pairwise r := by
  have := h.sublist (List.take_sublist (k + 1) ord)
  rw [List.take_add_one, hi] at this
  exact this
theorem flat_len {G : List (List Nat)} (h : ∀ g ∈ G, g ≠ []) : G.length ≤ G.flatten.length := by
  induction G with
  | nil => simp
  | cons g G ih =>
    have h1 := ih fun x hx => h x (List.mem_cons_of_mem _ hx)
    have h2 : 0 < g.length := List.length_pos_iff.2 (h g (List.mem_cons_self ..))
    simp only [List.flatten_cons, List.length_append, List.length_cons]; omega
theorem gat_step {L : Nat → St} {ord : List Nat} {B k i gb cap : Nat} {w2 w3 w4 : World} {x v' : Value} {vs : List Value} {G : List (List Nat)} {g : List Nat} {ob : Obj}
    (hGM : GM w3 B (.slice (some ⟨gb, 0, none⟩) (vs.length + 1) cap) (vs ++ [x]) (G ++ [g])) (hG : Grp L (G ++ [g ++ [i]])) (hfl : (G ++ [g]).flatten = ord.take k) (hi : ord[k]? = some i) (hk : k < ord.length)
    (hown : w4.ownsRow B 3 1 v' (g.length + 1) (g.map iv ++ [iv i])) (hg : (w3.alloc ob).grownBy w4 x.ownBlock) (hat : v'.ownBlock = x.ownBlock ∨ v'.ownBlock = some (w3.alloc ob).heap.size)
    (hb : RowKit.Below B w2 w3) (hB : B ≤ w3.heap.size) : GAt L ord B w2 (.slice (some ⟨gb, 0, none⟩) (vs.length + 1) cap) (.int .i64 ((k : Int) + 1)) (w4.setCell ⟨gb, vs.length, none⟩ v') := by
  have h2 := hGM.grow (bAl (RowKit.Below.refl _ _) ob) hown hg hat
  have hlen : vs.length = G.length := by have := hGM.len; simpa using this
  have hxr := hGM.row vs.length x g (by simp) (by rw [hlen]; simp)
  have hsz : w3.heap.size ≤ w4.heap.size := Nat.le_trans (by simp) hg.size
  have hgb : B ≤ gb := by have := hGM.out.lt gb (by simp [Value.ownBlock]); exact this.1
  refine ⟨k + 1, vs ++ [v'], G ++ [g ++ [i]], by go_num, by omega, h2, hG, ?_, ?_, ?_⟩
  · have : (G ++ [g ++ [i]]).flatten = (G ++ [g]).flatten ++ [i] := by simp
    rw [this, hfl, List.take_add_one, hi]; rfl
  · refine (((hb.alloc hB ob).grown hg (by simp; omega) fun j hj => (hxr.lt j hj).1)).setCell hgb v'
  · simp; omega

set_option maxHeartbeats 4000000 in
theorem byId_any (o : Option Addr) (n c : Nat) (L : Nat → St) (w : World) (hs : RowS w w.heap.size o n L) (hn : n ≤ 1000000) :
    Calls Try.prog 39 #[.slice o n c] w (Grouped L n w) := by
  obtain ⟨i0, hi0, hz0, hz1, hz2⟩ := info_parts int_info
  obtain ⟨j0, hj0, hy0, hy1, hy2⟩ := info_parts slice_info
  go_enter Try.func39, Try.ntmps39
  go_wp2_with fail
  have HS := Lib.hid (hs.below (bAl (RowKit.Below.refl _ w) (.cells #[.slice o n c] 31)) (Nat.le_refl _))
  have hbx : (w.alloc (.cells #[.slice o n c] 31)).cell? ⟨w.heap.size, 0, none⟩ = some (.slice o n c) := (Blk.new _ _ _).cell 0
  have hlt : w.heap.size < (w.alloc (.cells #[.slice o n c] 31)).heap.size := by simp
  have HBB := Lib.hid (bAl (RowKit.Below.refl _ w) (.cells #[.slice o n c] 31))
  clear hs
  generalize w.alloc (.cells #[.slice o n c] 31) = w1 at HS hbx hlt HBB ⊢
  go_loopw [3, 12] (fun v i wr => Coll L w1.heap.size w1 v i wr n) (fun _ i _ => n - (intOf i).toNat)
  case atStart => exact ⟨0, rfl, Nat.zero_le _, World.ownsRow_nil _ _ _ _, RowKit.Below.refl _ _, Nat.le_refl _⟩
  case round =>
    obtain ⟨k, rfl, hk, hown, hb, hB⟩ := hrel
    by_cases hkn : k < n
    · obtain ⟨b, off, rfl, hbB, a0, a1, a2⟩ := HS.out.below hb (Nat.le_of_lt hlt) k hkn
      have hkn' : (k : Int) < n := by omega
      have hb0 := Lib.hid (bAl (RowKit.Below.refl _ wr) (.cells #[.int .i64 (L k).1, .int .i64 (L k).2.1, .int .i64 (L k).2.2] 23))
      have HW := Lib.hid hb
      have HO := Lib.hid hown
      have HBw := Lib.hid hB
      clear hb hown hB
      cases hv : vld (L k)
      · have hv' : vld ((L k).1, (L k).2.1, (L k).2.2) = false := hv
        have HV := Lib.hid hv
        clear hv
        go_wp2_with (go_at_call 12; refine (stamp_valid _ _ _ _).mono ?_; rintro e w' ⟨rfl, hg⟩)
        have hbb := bTr hb0.out hg.below
        go_roundw
        case rel => exact ⟨k + 1, by go_num, by omega, by rw [ordK_no HV.out]; exact own_later HO.out hbb, HW.out.trans (hbb.mono HBw.out), Nat.le_trans HBw.out hbb.size⟩
        case measure => simp [intOf]; omega
      · have hv' : vld ((L k).1, (L k).2.1, (L k).2.2) = true := hv
        have HV := Lib.hid hv
        have HL := Lib.hid (ordK_len L k)
        clear hv
        go_wp2_with (first | (go_at_call 12; refine (stamp_valid _ _ _ _).mono ?_; rintro e w' ⟨rfl, hg⟩; have HBB2 := Lib.hid (bTr hb0.out hg.below); have HO2 := Lib.hid (own_later HO.out HBB2.out); clear hg) | (at_builtin; refine wpList_append_own_at _ rfl _ _ 28 rfl w1.heap.size 3 i0 (.int .i64 0) 1 8 Try.underlying28 hi0 hz0 hz1 hz2 rfl (by decide) _ _ _ rfl (HO2.out.alloc _) ⟨w'.heap.size, 0, none⟩ 1 1 [iv k] rfl rfl ?c1 ?c2 ?c3 ?c4 ?c5 ?_; (case c1 => exact cell_one_new _ _ _); (case c2 => intro u hu; simp at hu; subst hu; rfl); (case c3 => have := HL.out; unfold maxLen; omega); (case c4 => have := HL.out; omega); (case c5 => have h1 := HBw.out; have h2 := HBB2.out.size; simp; omega); intro v' w3 hown3 hgrow hnil hat))
        go_roundw
        case rel => exact ⟨k + 1, by go_num, by omega, by rw [ordK_yes HV.out]; simpa using hown3, ((HW.out.trans (HBB2.out.mono HBw.out)).alloc (Nat.le_trans HBw.out HBB2.out.size) _).grown hgrow (by have h1 := HBw.out; have h2 := HBB2.out.size; simp; omega) (fun j hj => (HO2.out.lt j hj).1), Nat.le_trans (Nat.le_trans HBw.out HBB2.out.size) (by have := hgrow.size; simp at this; omega)⟩
        case measure => simp [intOf]; omega
    · obtain rfl : n = k := by omega
      have HW := Lib.hid hb
      have HO := Lib.hid hown
      have HBw := Lib.hid hB
      have HC := Lib.hid ((hb.cell (p := ⟨w.heap.size, 0, none⟩) hlt).trans hbx)
      clear hb hown hB
      go_wp2_with (go_at_call 41; refine (sort_row (B := w1.heap.size) (ord := ordK L n) (cfId L (n := n)) (swoId L) (keyLt L) (cfId_lt L) enterId ?h1 ordK_all HBw.out ?h2 HO.out).mono ?_; (case h1 => intro _ blk off size h1 h2; exact laysId (HS.out.below HW.out (Nat.le_of_lt hlt)) HC.out (by have := HBw.out; omega) (by have := HBw.out; omega) (by omega) (by omega) (by omega) off size); (case h2 => have := ordK_len L n; omega); rintro e w2 ⟨rfl, ord, hown2, hperm, hsort, hbel⟩; have hle := hperm.length_eq; rw [← hle] at hown2; obtain ⟨p, cap, rfl, hcells⟩ := own_form hown2; clear hle)
      have hse := strict_of hperm hsort
      have HM := Lib.hid (show ∀ i, i ∈ ord ↔ i < n ∧ vld (L i) = true from fun i => hperm.mem_iff.trans ordK_mem)
      have HSE := Lib.hid hse
      have HLE := Lib.hid (show ord.length ≤ n by rw [hperm.length_eq]; exact ordK_len L n)
      have hlen9 := HLE.out
      have HCE := Lib.hid hcells
      have HB2 := Lib.hid ((HW.out.trans hbel).mono (B' := w.heap.size + 1) hlt)
      have HS2 := Lib.hid (HS.out.below (HW.out.trans hbel) (Nat.le_of_lt hlt))
      have HC2 := Lib.hid ((hbel.cell (p := ⟨w.heap.size, 0, none⟩) hlt).trans HC.out)
      have hlt2 : w.heap.size < w2.heap.size := Nat.lt_of_lt_of_le (Nat.lt_of_lt_of_le hlt HBw.out) hbel.size
      clear hse hcells hperm hsort hown2 HO HC
      go_loopw [6, 29] (fun v6 i wr' => GAt L ord w2.heap.size w2 v6 i wr') (fun _ i _ => ord.length - (intOf i).toNat)
      case atStart => exact ⟨0, [], [], rfl, Nat.zero_le _, GM.nil _ _, Grp.nil L, rfl, RowKit.Below.refl _ _, Nat.le_refl _⟩
      case round =>
        obtain ⟨k, vs, G, rfl, hk, hGM, hG, hfl, hb2, hB2⟩ := hrel
        by_cases hkm : k < ord.length
        · obtain ⟨i, hi⟩ : ∃ i, ord[k]? = some i := ⟨_, List.getElem?_eq_getElem hkm⟩
          obtain ⟨q, rfl, hqB, hql, hci0⟩ := HCE.out k i hi
          have hin := (HM.out i).1 (List.mem_of_getElem? hi)
          have hin' : i < n := hin.1
          have hci := (hb2.cell (p := ⟨q, k, none⟩) hql).trans hci0
          have hkm' : (k : Int) < ord.length := by omega
          have HI := Lib.hid hi
          have HGM := Lib.hid hGM
          have HG := Lib.hid hG
          have HFL := Lib.hid hfl
          have HB3 := Lib.hid hb2
          have HB4 := Lib.hid hB2
          have HLV := Lib.hid hGM.len
          clear hGM hG hfl hb2 hB2 hci0 hin hi
          by_cases hk0 : k = 0
          · subst hk0
            have hG0 : G = [] := by
              rcases G with _ | ⟨g, G⟩
              · rfl
              · have h1 := HFL.out
                have h2 := HG.out.ne g (by simp)
                simp at h1
                exact absurd h1.1 h2
            have hv0 : vs = [] := List.length_eq_zero_iff.1 (by have := HLV.out; rw [hG0] at this; exact this)
            have HG1 := Lib.hid (show Grp L (G ++ [[] ++ [i]]) by rw [hG0]; exact grp_first i)
            have HNE := Lib.hid (show ∀ g ∈ G, g ≠ [] from HG.out.ne)
            have HVL := Lib.hid (show vs.length ≤ 1000000 by rw [hv0]; simp)
            clear hG0 hv0
            go_wp2
            go_quiet (fail)
            have hw5 := bDr (RowKit.Below.refl wr.heap.size wr) nq
            have HGM5 := Lib.hid (HGM.out.later hw5)
            have HB5 := Lib.hid (HB3.out.trans (hw5.mono HB4.out))
            have HZ5 := Lib.hid (Nat.le_trans HB4.out hw5.size)
            clear hw5 hci HGM HB3 HB4
            generalize wr.drewN nq = w5 at HGM5 HB5 HZ5 ⊢
            have hvl := HVL.out
            go_wp2_with (first | (at_builtin; refine wpList_append_own_at _ rfl (.tmp 52) (.tmp 53) 56 rfl w2.heap.size 28 j0 (.slice none 0 0) 1 24 Try.underlying56 hj0 hy0 hy1 hy2 rfl (by decide) _ vs.length vs rfl (HGM5.out.out.alloc _) ⟨w5.heap.size, 0, none⟩ 1 1 [.slice none 0 0] rfl rfl ?c1 ?c2 ?c3 ?c4 ?c5 ?_; (case c1 => exact cell_one_new _ _ _); (case c2 => intro u hu; simp at hu; subst hu; rfl); (case c3 => have := HVL.out; unfold maxLen; omega); (case c4 => have := HVL.out; omega); (case c5 => have h1 := HZ5.out; simp; omega); intro v3 w3 hown3 hgrow hnil hat; obtain ⟨gb, capb, rfl, _, hgbB, hgbl⟩ := own_some hown3 (by omega); have HGM3 := Lib.hid (GM.pushNil (HGM5.out.later (bAl (RowKit.Below.refl _ _) _)) HNE.out hown3 hgrow); have hcl := HGM3.out.last.1; have HB6 := Lib.hid ((HB5.out.alloc HZ5.out _).grown hgrow (by have := HZ5.out; simp; omega) (fun j hj => (HGM5.out.out.lt j hj).1)); have HZ6 := Lib.hid (Nat.le_trans HZ5.out (Nat.le_trans (by simp) hgrow.size)); clear hown3 hgrow hnil hat) | (at_builtin; refine wpList_append_own_at _ rfl (.tmp 63) (.tmp 65) 28 rfl w2.heap.size 3 i0 (.int .i64 0) 1 8 Try.underlying28 hi0 hz0 hz1 hz2 rfl (by decide) _ _ _ rfl (HGM3.out.last.2.alloc _) ⟨w3.heap.size, 0, none⟩ 1 1 [iv i] rfl rfl ?d1 ?d2 ?d3 ?d4 ?d5 ?_; (case d1 => exact cell_one_new _ _ _); (case d2 => intro u hu; simp at hu; subst hu; rfl); (case d3 => unfold maxLen; simp); (case d4 => simp); (case d5 => have h1 := HZ6.out; simp; omega); intro v4 w4 hown4 hgrow4 hnil4 hat4; obtain ⟨hst, hfz⟩ := HGM3.out.cells hgrow4; obtain ⟨gr, capr, rfl, _, _, _⟩ := own_some hown4 (by omega); have H4 := Lib.hid (And.intro hown4 (And.intro hgrow4 hat4)); clear hown4 hgrow4 hnil4 hat4))
            go_roundw
            case rel => exact gat_step (k := 0) HGM3.out HG1.out (by have := HFL.out; simpa using this) HI.out hkm H4.out.1 H4.out.2.1 H4.out.2.2 HB6.out HZ6.out
            case measure => simp [intOf]; omega
          · have hk0' : 0 < k := by omega
            have hkb : ((k : Int) == 0) = false := by rw [beq_eq_false_iff_ne]; omega
            obtain ⟨p, hp⟩ : ∃ p, ord[k - 1]? = some p := ⟨_, List.getElem?_eq_getElem (by omega)⟩
            obtain ⟨q', hqq, _, _, hcp0⟩ := HCE.out (k - 1) p hp
            injection hqq with hqq
            injection hqq with hqq
            subst hqq
            have HP := Lib.hid (take_last hk0' hp)
            have hpn : p < n := ((HM.out p).1 (List.mem_of_getElem? hp)).1
            have hcp := (HB3.out.cell (p := ⟨q, k - 1, none⟩) hql).trans hcp0
            have hcb := (HB3.out.cell (p := ⟨w.heap.size, 0, none⟩) hlt2).trans HC2.out
            obtain ⟨b, off, rfl, hbB, a0, a1, a2⟩ := HS2.out.below HB3.out (Nat.le_of_lt hlt2) i hin'
            obtain ⟨b', off', hbb, _, d0, d1, d2⟩ := HS2.out.below HB3.out (Nat.le_of_lt hlt2) p hpn
            injection hbb with hbb
            injection hbb with h1 h2
            subst h1; subst h2
            have HPW := Lib.hid (take_pw HSE.out HI.out)
            have HBz := Lib.hid (Gro.refl wr)
            have hpi : (p : Int) < n := by omega
            have hii : (i : Int) < n := by omega
            have hzz := HB4.out
            have hzb : b < wr.heap.size := by omega
            have hzw : w.heap.size < wr.heap.size := by omega
            have hzq : q < wr.heap.size := by omega
            clear hk0 hp hcp0 hzz
            by_cases hid : (L p).2 = (L i).2
            · have hcv : (orI (cmpI (L p).2.1 (L i).2.1) (cmpI (L p).2.2 (L i).2.2) != 0) = false := by rw [bne_eq_false_iff_eq]; exact (cmp2_eq _ _).2 hid
              obtain ⟨G0, g, rfl⟩ : ∃ G0 g, G = G0 ++ [g] := by
                rcases G with _ | ⟨y, G⟩
                · have h1 := HFL.out; have h2 := HP.out; rw [← h1] at h2; simp at h2
                · exact ⟨_, _, (List.dropLast_concat_getLast (by simp)).symm⟩
              obtain ⟨vs0, x, rfl⟩ : ∃ vs0 x, vs = vs0 ++ [x] := by
                rcases vs with _ | ⟨y, vs⟩
                · have h1 := HLV.out; simp at h1
                · exact ⟨_, _, (List.dropLast_concat_getLast (by simp)).symm⟩
              have HG1 := Lib.hid (show Grp L (G0 ++ [g ++ [i]]) from grp_same HG.out HFL.out i p HP.out hid HPW.out)
              have HVL := Lib.hid (show vs0.length ≤ 1000000 by have h1 := flat_len HG.out.ne; have h2 := HFL.out; have h3 := HLV.out; have h4 := HLE.out; rw [h2] at h1; simp at h1 h3; omega)
              have HGL := Lib.hid (show g.length ≤ 1000000 by have h2 := congrArg List.length HFL.out; have h4 := HLE.out; simp at h2; omega)
              obtain ⟨gb, capb, hu6, _, hgbB, hgbl⟩ := own_some HGM.out.out (by simp)
              rw [show (vs0 ++ [x]).length = vs0.length + 1 by simp] at hu6
              subst hu6
              obtain ⟨gx, capx, hx6, _, _, _⟩ := own_some HGM.out.last.2 (by have := HG.out.ne g (by simp); simpa using this)
              subst hx6
              clear hid
              have q1 : IntKind.i64.wrap ((k : Int) - 1) = (k : Int) - 1 := IntWalk.i64_in _ (by have := HLE.out; omega)
              have q2 : (0 : Int) ≤ (k : Int) - 1 := by omega
              have q3 : (1 : Int) ≤ (k : Int) := by omega
              have q4 : (k : Int) - 1 < ord.length := by omega
              have q5 : ((k : Int) - 1).toNat = k - 1 := by omega
              go_wp2_with fail
              go_region_held3 (fun w' => w'.cell? ⟨w.heap.size, 0, none⟩ = some (.slice (some ⟨b, off, none⟩) n c) ∧ w'.cell? ⟨q, k - 1, none⟩ = some (.int .i64 (p : Int)) ∧ w'.cell? ⟨b, off + i * 3, none⟩ = some (.int .i64 (L i).1) ∧ w'.cell? ⟨b, off + i * 3 + 1, none⟩ = some (.int .i64 (L i).2.1) ∧ w'.cell? ⟨b, off + i * 3 + 2, none⟩ = some (.int .i64 (L i).2.2) ∧ w'.cell? ⟨b, off + p * 3, none⟩ = some (.int .i64 (L p).1) ∧ w'.cell? ⟨b, off + p * 3 + 1, none⟩ = some (.int .i64 (L p).2.1) ∧ w'.cell? ⟨b, off + p * 3 + 2, none⟩ = some (.int .i64 (L p).2.2)) (first | (go_split_ands; refine ⟨?_, ?_, ?_, ?_, ?_, ?_, ?_, ?_⟩ <;> (rw [hb.below.cell (by simp; omega)]; assumption)) | go_keep)
                (first | (go_at_call 35; refine (compareId_any _ _ _ _ _ _ _).mono ?_; rintro e w5 ⟨rfl, hb⟩; have HBz := Lib.hid (Gro.trans (by first | exact HBz.out | exact Gro.drew HBz.out) hb)))
              have HGM5 := Lib.hid (HGM.out.later HBz.out.below)
              have HB5 := Lib.hid (HB3.out.trans (HBz.out.below.mono HB4.out))
              have HZ5 := Lib.hid (Nat.le_trans HB4.out HBz.out.size)
              clear q1 q2 q4 q5 HBz hci hcp hcb a0 a1 a2 d0 d1 d2 HGM HB3 HB4
              have hcl := HGM5.out.last.1
              have hvl := HVL.out
              go_wp2_with ((at_builtin; refine wpList_append_own_at _ rfl (.tmp 63) (.tmp 65) 28 rfl w2.heap.size 3 i0 (.int .i64 0) 1 8 Try.underlying28 hi0 hz0 hz1 hz2 rfl (by decide) _ _ _ rfl (HGM5.out.last.2.alloc _) ⟨w5.heap.size, 0, none⟩ 1 1 [iv i] rfl rfl ?d1 ?d2 ?d3 ?d4 ?d5 ?_; (case d1 => exact cell_one_new _ _ _); (case d2 => intro u hu; simp at hu; subst hu; rfl); (case d3 => have := HGL.out; unfold maxLen; omega); (case d4 => have := HGL.out; omega); (case d5 => have h1 := HZ5.out; simp; omega); intro v4 w4 hown4 hgrow4 hnil4 hat4; obtain ⟨hst, hfz⟩ := HGM5.out.cells hgrow4; obtain ⟨gr, capr, rfl, _, _, _⟩ := own_some hown4 (by omega); have H4 := Lib.hid (And.intro hown4 (And.intro hgrow4 hat4)); clear hown4 hgrow4 hnil4 hat4))
              go_roundw
              case rel => exact gat_step (k := k) HGM5.out HG1.out HFL.out HI.out hkm H4.out.1 H4.out.2.1 H4.out.2.2 HB5.out HZ5.out
              case measure => simp [intOf]; omega
            · have hcv : (orI (cmpI (L p).2.1 (L i).2.1) (cmpI (L p).2.2 (L i).2.2) != 0) = true := by rw [bne_iff_ne]; exact fun h => hid ((cmp2_eq _ _).1 h)
              have HG1 := Lib.hid (show Grp L (G ++ [[] ++ [i]]) from grp_fresh HG.out HFL.out i p HP.out hid HPW.out)
              have HNE := Lib.hid (show ∀ g ∈ G, g ≠ [] from HG.out.ne)
              have HVL := Lib.hid (show vs.length ≤ 1000000 by have h1 := flat_len HG.out.ne; have h2 := HFL.out; have h3 := HLV.out; have h4 := HLE.out; rw [h2] at h1; simp at h1; omega)
              clear hid
              have q1 : IntKind.i64.wrap ((k : Int) - 1) = (k : Int) - 1 := IntWalk.i64_in _ (by have := HLE.out; omega)
              have q2 : (0 : Int) ≤ (k : Int) - 1 := by omega
              have q3 : (1 : Int) ≤ (k : Int) := by omega
              have q4 : (k : Int) - 1 < ord.length := by omega
              have q5 : ((k : Int) - 1).toNat = k - 1 := by omega
              go_wp2_with fail
              go_region_held3 (fun w' => w'.cell? ⟨w.heap.size, 0, none⟩ = some (.slice (some ⟨b, off, none⟩) n c) ∧ w'.cell? ⟨q, k - 1, none⟩ = some (.int .i64 (p : Int)) ∧ w'.cell? ⟨b, off + i * 3, none⟩ = some (.int .i64 (L i).1) ∧ w'.cell? ⟨b, off + i * 3 + 1, none⟩ = some (.int .i64 (L i).2.1) ∧ w'.cell? ⟨b, off + i * 3 + 2, none⟩ = some (.int .i64 (L i).2.2) ∧ w'.cell? ⟨b, off + p * 3, none⟩ = some (.int .i64 (L p).1) ∧ w'.cell? ⟨b, off + p * 3 + 1, none⟩ = some (.int .i64 (L p).2.1) ∧ w'.cell? ⟨b, off + p * 3 + 2, none⟩ = some (.int .i64 (L p).2.2)) (first | (go_split_ands; refine ⟨?_, ?_, ?_, ?_, ?_, ?_, ?_, ?_⟩ <;> (rw [hb.below.cell (by simp; omega)]; assumption)) | go_keep)
                (first | (go_at_call 35; refine (compareId_any _ _ _ _ _ _ _).mono ?_; rintro e w5 ⟨rfl, hb⟩; have HBz := Lib.hid (Gro.trans (by first | exact HBz.out | exact Gro.drew HBz.out) hb)))
              have HGM5 := Lib.hid (HGM.out.later HBz.out.below)
              have HB5 := Lib.hid (HB3.out.trans (HBz.out.below.mono HB4.out))
              have HZ5 := Lib.hid (Nat.le_trans HB4.out HBz.out.size)
              clear q1 q2 q4 q5 HBz hci hcp hcb a0 a1 a2 d0 d1 d2 HGM HB3 HB4
              have hvl := HVL.out
              go_wp2_with (first | (at_builtin; refine wpList_append_own_at _ rfl (.tmp 52) (.tmp 53) 56 rfl w2.heap.size 28 j0 (.slice none 0 0) 1 24 Try.underlying56 hj0 hy0 hy1 hy2 rfl (by decide) _ vs.length vs rfl (HGM5.out.out.alloc _) ⟨w5.heap.size, 0, none⟩ 1 1 [.slice none 0 0] rfl rfl ?c1 ?c2 ?c3 ?c4 ?c5 ?_; (case c1 => exact cell_one_new _ _ _); (case c2 => intro u hu; simp at hu; subst hu; rfl); (case c3 => have := HVL.out; unfold maxLen; omega); (case c4 => have := HVL.out; omega); (case c5 => have h1 := HZ5.out; simp; omega); intro v3 w3 hown3 hgrow hnil hat; obtain ⟨gb, capb, rfl, _, hgbB, hgbl⟩ := own_some hown3 (by omega); have HGM3 := Lib.hid (GM.pushNil (HGM5.out.later (bAl (RowKit.Below.refl _ _) _)) HNE.out hown3 hgrow); have hcl := HGM3.out.last.1; have HB6 := Lib.hid ((HB5.out.alloc HZ5.out _).grown hgrow (by have := HZ5.out; simp; omega) (fun j hj => (HGM5.out.out.lt j hj).1)); have HZ6 := Lib.hid (Nat.le_trans HZ5.out (Nat.le_trans (by simp) hgrow.size)); clear hown3 hgrow hnil hat) | (at_builtin; refine wpList_append_own_at _ rfl (.tmp 63) (.tmp 65) 28 rfl w2.heap.size 3 i0 (.int .i64 0) 1 8 Try.underlying28 hi0 hz0 hz1 hz2 rfl (by decide) _ _ _ rfl (HGM3.out.last.2.alloc _) ⟨w3.heap.size, 0, none⟩ 1 1 [iv i] rfl rfl ?d1 ?d2 ?d3 ?d4 ?d5 ?_; (case d1 => exact cell_one_new _ _ _); (case d2 => intro u hu; simp at hu; subst hu; rfl); (case d3 => unfold maxLen; simp); (case d4 => simp); (case d5 => have h1 := HZ6.out; simp; omega); intro v4 w4 hown4 hgrow4 hnil4 hat4; obtain ⟨hst, hfz⟩ := HGM3.out.cells hgrow4; obtain ⟨gr, capr, rfl, _, _, _⟩ := own_some hown4 (by omega); have H4 := Lib.hid (And.intro hown4 (And.intro hgrow4 hat4)); clear hown4 hgrow4 hnil4 hat4))
              go_roundw
              case rel => exact gat_step (k := k) HGM3.out HG1.out (by have := HFL.out; simpa using this) HI.out hkm H4.out.1 H4.out.2.1 H4.out.2.2 HB6.out HZ6.out
              case measure => simp [intOf]; omega
        · have HFIN := Lib.hid (show ∀ v6, v6 = u6 → Grouped L n w (.returned v6) wr from fun v6 e => by
            subst e
            have hkk : k = ord.length := by omega
            have hfo : G.flatten = ord := by rw [hfl, hkk, List.take_length]
            exact ⟨v6, vs, G, w2.heap.size, rfl, hGM, hG, fun i => by rw [hfo]; exact HM.out i, by rw [hfo]; exact HLE.out, (HBB.out.trans (HB2.out.mono (by omega))).trans (hb2.mono (by omega)), by omega⟩)
          clear hGM hG hfl hb2 hB2
          go_wp2
          go_ret
          exact HFIN.out _ rfl
end Go.Proofs.Ytdggmnhddoejhaa
