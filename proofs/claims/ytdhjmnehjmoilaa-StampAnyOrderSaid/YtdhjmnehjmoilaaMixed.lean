/-
  Order and Mixed: lists of places off the tape.
-/
import Derived.Test.YtdhjmnehjmoilaaTapeB
import Derived.Test.YtdhjmnehjmoilaaRefCanon
namespace Go.Proofs.Ytdhjmnehjmoilaa
open Go.RowKit
set_option linter.unusedSimpArgs false
set_option linter.unusedVariables false

def GetRow (P : List Nat → Prop) (w : World) (B g : Nat) (o : Option Addr) (n c : Nat) (z : Nat → Int) (e : Ending) (w' : World) : Prop :=
  ∃ (v : Value) (zs : List Nat), P zs ∧ e = .returned v ∧ w'.ownsRow w.heap.size 3 1 v zs.length (zs.map iv) ∧ Tp w' B g o n c z ∧ w.grownBy w' (some g)
def OrdAt (w : World) (B g : Nat) (o : Option Addr) (n c : Nat) (z : Nat → Int) (m : Nat) (v i : Value) (wr : World) : Prop :=
  ∃ (k : Nat) (zs : List Nat), i = .int .i64 k ∧ k ≤ m ∧ zs.length = k ∧ (∀ x, x ∈ zs ↔ x < k) ∧ wr.ownsRow w.heap.size 3 1 v zs.length (zs.map iv) ∧ Tp wr B g o n c z ∧ w.grownBy wr (some g)
def MixAt (w : World) (B g : Nat) (o : Option Addr) (n c : Nat) (z : Nat → Int) (m : Nat) (v i : Value) (wr : World) : Prop :=
  ∃ (k : Nat) (zs : List Nat), i = .int .i64 k ∧ zs.length + k ≤ m + 3 ∧ (∀ x, x ∈ zs ↔ x < m) ∧ wr.ownsRow w.heap.size 3 1 v zs.length (zs.map iv) ∧ Tp wr B g o n c z ∧ w.grownBy wr (some g)
theorem mem_ins {zs : List Nat} {a x y : Nat} : y ∈ zs.take a ++ [x] ++ zs.drop a ↔ y ∈ zs ∨ y = x := by
  have h : y ∈ zs ↔ y ∈ zs.take a ∨ y ∈ zs.drop a := by rw [← List.mem_append, List.take_append_drop]
  rw [h, List.mem_append, List.mem_append, List.mem_singleton]
  constructor
  · rintro ((h | h) | h)
    · exact .inl (.inl h)
    · exact .inr h
    · exact .inl (.inr h)
  · rintro ((h | h) | h)
    · exact .inl (.inl h)
    · exact .inr h
    · exact .inl (.inr h)
theorem len_ins {zs : List Nat} {a x : Nat} (h : a ≤ zs.length) : (zs.take a ++ [x] ++ zs.drop a).length = zs.length + 1 := by simp; omega

set_option maxRecDepth 100000 in
set_option maxHeartbeats 8000000 in
theorem tape_order (m : Nat) (hm : m ≤ 1000) {w : World} {B g : Nat} {o : Option Addr} {n c : Nat} {z : Nat → Int} (h : Tp w B g o n c z) :
    Calls Try.prog 46 #[.pointer (some ⟨g, 0, none⟩), .int .i64 (m : Int)] w (GetRow (fun zs => zs.length = m ∧ ∀ x, x ∈ zs ↔ x < m) w B g o n c z) := by
  have hgl := h.lt
  obtain ⟨i0, hi0, hz0, hz1, hz2⟩ := info_parts int_info
  have HT := Lib.hid h
  clear h
  go_enter Try.func46, Try.ntmps46
  go_wp2_with fail
  go_loopw [5, 6] (fun v i wr => OrdAt w B g o n c z m v i wr) (fun _ i _ => m - (intOf i).toNat)
  case atStart => exact ⟨0, [], rfl, Nat.zero_le _, rfl, by simp, World.ownsRow_nil _ _ _ _, HT.out, gDr w 0 _⟩
  case round =>
    obtain ⟨k, zs, rfl, hk, hlk, hmem, hown, htp, hgr⟩ := hrel
    have HO := Lib.hid hown
    have HMEM := Lib.hid hmem
    have HTP0 := Lib.hid htp
    have HGR0 := Lib.hid hgr
    have HLK := Lib.hid hlk
    clear hown hmem htp hgr hlk HT
    by_cases hkm : k < m
    · have hkm' : (k : Int) < (m : Int) := by omega
      obtain ⟨p, cap, hv5, -⟩ := own_form HO.out
      subst hv5
      go_wp2_with fail
      refine (tape_next ((k : Int) + 1) (by omega) (by omega) HTP0.out).mono ?_
      rintro e w5 ⟨a, ⟨ha0, ha1⟩, rfl, ht5, hg5⟩
      obtain ⟨a, rfl⟩ := Int.eq_ofNat_of_zero_le ha0
      have HO5 := Lib.hid (HO.out.kept hg5 (.inr fun e => by have := (HO.out.lt g e).1; omega))
      have HTP := Lib.hid ht5
      have HGR := Lib.hid (gTr HGR0.out hg5)
      have HSZ := Lib.hid HGR.out.size
      have ha : a ≤ zs.length := by have := HLK.out; omega
      have HZ := Lib.hid (show zs.length ≤ 1000000 by have := HLK.out; omega)
      clear ht5 hg5 HO HTP0 HGR0 ha0 ha1
      rcases own_form2 HO5.out with ⟨rfl, hz, hcz⟩ | ⟨q, rfl, hzc, hcm, hqB, hql⟩
      · obtain rfl : zs = [] := List.length_eq_zero_iff.1 hz
        subst hcz
        obtain rfl : a = 0 := by simpa using ha
        go_wp2_with (first | (at_builtin; refine wpList_append_own_at _ rfl (.tmp 23) (.tmp 25) 28 rfl w5.heap.size 3 i0 (.int .i64 0) 1 8 Try.underlying28 hi0 hz0 hz1 hz2 rfl (by decide) (.slice none 0 0) 0 [] rfl ((World.ownsRow_nil _ _ _ _).alloc _) ⟨w5.heap.size, 0, none⟩ 1 1 [iv k] rfl rfl ?d1 ?d2 ?d3 ?d4 ?d5 ?_; (case d1 => exact cell_one_new _ _ _); (case d2 => intro u hu; simp at hu; subst hu; rfl); (case d3 => unfold maxLen; omega); (case d4 => omega); (case d5 => simp); intro v3 w8 hown7 hgrow7 hnil7 hat7; have H7 := Lib.hid (And.intro hown7 hgrow7); clear hown7 hgrow7 hnil7 hat7) | (at_builtin; refine wpList_append_own_none rfl (.tmp 27) (.tmp 30) 28 rfl w5.heap.size 3 i0 1 Try.underlying28 hi0 _ _ _ rfl H7.out.1 rfl ?_))
        have HB8 := Lib.hid (((RowKit.Below.refl w5.heap.size w5).alloc (Nat.le_refl _) _).grown H7.out.2 (by simp) (fun j hj => by simp [Value.ownBlock] at hj))
        have HOW8 := Lib.hid (show w8.ownsRow w5.heap.size 3 1 v3 (([] : List Nat).length + 1) ((([] : List Nat).take 0 ++ [k] ++ ([] : List Nat).drop 0).map iv) from own_cast H7.out.1 (by simp) (by simp))
        go_roundw
        case rel => exact ⟨k + 1, ([] : List Nat).take 0 ++ [k] ++ ([] : List Nat).drop 0, by go_num, by omega, by rw [len_ins ha]; rw [HLK.out], (fun y => by rw [mem_ins, HMEM.out]; omega), own_base (own_cast HOW8.out (len_ins ha).symm rfl) HSZ.out, HTP.out.later HB8.out, gTr HGR.out (gBe HB8.out)⟩
        case measure => simp [intOf]; omega
      · have hac : a ≤ cap := by omega
        have hac1 : (a : Int) ≤ (cap : Int) := by omega
        have haz : (a : Int) ≤ (zs.length : Int) := by omega
        by_cases hca : cap = a
        · obtain rfl : a = cap := hca.symm
          have HDR := Lib.hid (show zs.drop a = [] from List.drop_eq_nil_of_le hzc)
          go_wp2_with (first | (at_builtin; refine wpList_append_row rfl (.tmp 18) (.tmp 21) 28 rfl w5.heap.size 3 i0 (.int .i64 0) 1 8 Try.underlying28 hi0 hz0 hz1 hz2 rfl (by decide) (.slice none 0 0) 0 [] rfl (World.ownsRow_nil _ _ _ _) _ a _ ((zs.take a).map iv) rfl ?c1 ?c2 ?c3 ?c4 ?c5 ?c6 ?c7 ?_; (case c1 => intro h; cases h); (case c2 => simp; omega); (case c3 => intro ad had j u hu; cases had; exact HO5.out.cells (g := q) rfl j u (take_get hu)); (case c4 => exact iv_one); (case c5 => have := HZ.out; unfold maxLen; omega); (case c6 => have := HZ.out; omega); (case c7 => exact Nat.le_refl _); intro v1 w6 hown6 hgrow6 hat6; have H6 := Lib.hid (And.intro hown6 hgrow6); clear hown6 hgrow6 hat6) | (at_builtin; refine wpList_append_own_at _ rfl (.tmp 23) (.tmp 25) 28 rfl w5.heap.size 3 i0 (.int .i64 0) 1 8 Try.underlying28 hi0 hz0 hz1 hz2 rfl (by decide) _ _ _ rfl (H6.out.1.alloc _) ⟨w6.heap.size, 0, none⟩ 1 1 [iv k] rfl rfl ?d1 ?d2 ?d3 ?d4 ?d5 ?_; (case d1 => exact cell_one_new _ _ _); (case d2 => intro u hu; simp at hu; subst hu; rfl); (case d3 => have := HZ.out; unfold maxLen; omega); (case d4 => have := HZ.out; omega); (case d5 => have := H6.out.2.size; simp; omega); intro v2 w7 hown7 hgrow7 hnil7 hat7; have H7 := Lib.hid (And.intro hown7 hgrow7); have HB7 := Lib.hid ((((RowKit.Below.refl w5.heap.size w5).grown H6.out.2 (Nat.le_refl _) (by simp [Value.ownBlock])).alloc H6.out.2.size _).grown hgrow7 (by have := H6.out.2.size; simp; omega) (fun j hj => (H6.out.1.lt j hj).1)); clear hown7 hgrow7 hnil7 hat7) | (at_builtin; refine wpList_append_row rfl (.tmp 27) (.tmp 30) 28 rfl w5.heap.size 3 i0 (.int .i64 0) 1 8 Try.underlying28 hi0 hz0 hz1 hz2 rfl (by decide) _ _ _ rfl H7.out.1 _ 0 _ [] rfl ?e1 ?e2 ?e3 ?e4 ?e5 ?e6 ?e7 ?_; (case e1 => intro h; cases h); (case e2 => rfl); (case e3 => intro ad had j u hu; simp at hu); (case e4 => intro u hu; simp at hu); (case e5 => have := HZ.out; unfold maxLen; omega); (case e6 => have := HZ.out; omega); (case e7 => exact HB7.out.size); intro v3 w8 hown8 hgrow8 hat8; have H8 := Lib.hid (And.intro hown8 hgrow8); clear hown8 hgrow8 hat8))
          have HB8 := Lib.hid (HB7.out.grown H8.out.2 HB7.out.size (fun j hj => (H7.out.1.lt j hj).1))
          have HOW8 := Lib.hid (show w8.ownsRow w5.heap.size 3 1 v3 (zs.length + 1) ((zs.take a ++ [k] ++ zs.drop a).map iv) from own_cast H8.out.1 (by omega) (by rw [HDR.out]; simp))
          go_roundw
          case rel => exact ⟨k + 1, zs.take a ++ [k] ++ zs.drop a, by go_num, by omega, by rw [len_ins ha]; rw [HLK.out], (fun y => by rw [mem_ins, HMEM.out]; omega), own_base (own_cast HOW8.out (len_ins ha).symm rfl) HSZ.out, HTP.out.later HB8.out, gTr HGR.out (gBe HB8.out)⟩
          case measure => simp [intOf]; omega
        · go_wp2_with (first | (at_builtin; refine wpList_append_row rfl (.tmp 18) (.tmp 21) 28 rfl w5.heap.size 3 i0 (.int .i64 0) 1 8 Try.underlying28 hi0 hz0 hz1 hz2 rfl (by decide) (.slice none 0 0) 0 [] rfl (World.ownsRow_nil _ _ _ _) _ a _ ((zs.take a).map iv) rfl ?c1 ?c2 ?c3 ?c4 ?c5 ?c6 ?c7 ?_; (case c1 => intro h; cases h); (case c2 => simp; omega); (case c3 => intro ad had j u hu; cases had; exact HO5.out.cells (g := q) rfl j u (take_get hu)); (case c4 => exact iv_one); (case c5 => have := HZ.out; unfold maxLen; omega); (case c6 => have := HZ.out; omega); (case c7 => exact Nat.le_refl _); intro v1 w6 hown6 hgrow6 hat6; have H6 := Lib.hid (And.intro hown6 hgrow6); clear hown6 hgrow6 hat6) | (at_builtin; refine wpList_append_own_at _ rfl (.tmp 23) (.tmp 25) 28 rfl w5.heap.size 3 i0 (.int .i64 0) 1 8 Try.underlying28 hi0 hz0 hz1 hz2 rfl (by decide) _ _ _ rfl (H6.out.1.alloc _) ⟨w6.heap.size, 0, none⟩ 1 1 [iv k] rfl rfl ?d1 ?d2 ?d3 ?d4 ?d5 ?_; (case d1 => exact cell_one_new _ _ _); (case d2 => intro u hu; simp at hu; subst hu; rfl); (case d3 => have := HZ.out; unfold maxLen; omega); (case d4 => have := HZ.out; omega); (case d5 => have := H6.out.2.size; simp; omega); intro v2 w7 hown7 hgrow7 hnil7 hat7; have H7 := Lib.hid (And.intro hown7 hgrow7); have HB7 := Lib.hid ((((RowKit.Below.refl w5.heap.size w5).grown H6.out.2 (Nat.le_refl _) (by simp [Value.ownBlock])).alloc H6.out.2.size _).grown hgrow7 (by have := H6.out.2.size; simp; omega) (fun j hj => (H6.out.1.lt j hj).1)); clear hown7 hgrow7 hnil7 hat7) | (at_builtin; refine wpList_append_row rfl (.tmp 27) (.tmp 30) 28 rfl w5.heap.size 3 i0 (.int .i64 0) 1 8 Try.underlying28 hi0 hz0 hz1 hz2 rfl (by decide) _ _ _ rfl H7.out.1 _ (zs.length - a) _ ((zs.drop a).map iv) rfl ?e1 ?e2 ?e3 ?e4 ?e5 ?e6 ?e7 ?_; (case e1 => intro h; cases h); (case e2 => simp); (case e3 => intro ad had j u hu; cases had; exact src_get HO5.out HB7.out hql hu); (case e4 => exact iv_one); (case e5 => have := HZ.out; unfold maxLen; omega); (case e6 => have := HZ.out; omega); (case e7 => exact HB7.out.size); intro v3 w8 hown8 hgrow8 hat8; have H8 := Lib.hid (And.intro hown8 hgrow8); clear hown8 hgrow8 hat8))
          have HB8 := Lib.hid (HB7.out.grown H8.out.2 HB7.out.size (fun j hj => (H7.out.1.lt j hj).1))
          have HOW8 := Lib.hid (show w8.ownsRow w5.heap.size 3 1 v3 (zs.length + 1) ((zs.take a ++ [k] ++ zs.drop a).map iv) from own_cast H8.out.1 (by omega) (by simp))
          go_roundw
          case rel => exact ⟨k + 1, zs.take a ++ [k] ++ zs.drop a, by go_num, by omega, by rw [len_ins ha]; rw [HLK.out], (fun y => by rw [mem_ins, HMEM.out]; omega), own_base (own_cast HOW8.out (len_ins ha).symm rfl) HSZ.out, HTP.out.later HB8.out, gTr HGR.out (gBe HB8.out)⟩
          case measure => simp [intOf]; omega
    · obtain rfl : m = k := by omega
      have HX := Lib.hid (show ∀ v5, v5 = u5 → GetRow (fun zs => zs.length = m ∧ ∀ x, x ∈ zs ↔ x < m) w B g o n c z (.returned v5) wr from fun v5 e => by subst e; exact ⟨_, zs, ⟨HLK.out, HMEM.out⟩, rfl, HO.out, HTP0.out, HGR0.out⟩)
      go_wp2
      go_ret
      exact HX.out _ rfl
set_option maxRecDepth 100000 in
set_option maxHeartbeats 8000000 in
theorem tape_mixed (m : Nat) (hm : m ≤ 1000) {w : World} {B g : Nat} {o : Option Addr} {n c : Nat} {z : Nat → Int} (h : Tp w B g o n c z) :
    Calls Try.prog 31 #[.pointer (some ⟨g, 0, none⟩), .int .i64 (m : Int)] w (GetRow (fun zs => zs.length ≤ m + 3 ∧ ∀ x, x ∈ zs ↔ x < m) w B g o n c z) := by
  have hgl := h.lt
  obtain ⟨i0, hi0, hz0, hz1, hz2⟩ := info_parts int_info
  go_enter Try.func31, Try.ntmps31
  go_wp2_with fail
  refine (tape_order m hm h).mono ?_
  rintro e w1 ⟨v1, zs1, ⟨hl1, hm1⟩, rfl, hown1, ht1, hg1⟩
  have HO1 := Lib.hid hown1
  have HG1 := Lib.hid hg1
  have HM1 := Lib.hid hm1
  have HL1 := Lib.hid hl1
  clear hown1 hg1 hm1 hl1 h
  go_wp2_with fail
  refine (tape_next 4 (by omega) (by omega) ht1).mono ?_
  rintro e w2 ⟨t, ⟨ht0, ht4⟩, rfl, ht2, hg2⟩
  obtain ⟨t, rfl⟩ := Int.eq_ofNat_of_zero_le ht0
  have HMX := Lib.hid (show ∀ v, v = v1 → MixAt w B g o n c z m v (.int .i64 (t : Int)) w2 from fun v e => by subst e; exact ⟨t, zs1, rfl, by have := HL1.out; omega, HM1.out, HO1.out.kept hg2 (.inr fun e => by have := (HO1.out.lt g e).1; omega), ht2, gTr HG1.out hg2⟩)
  clear ht1 ht2 hg2 HO1 HG1 HM1 HL1
  go_wp2_with fail
  go_loopw [5, 6] (fun v i wr => MixAt w B g o n c z m v i wr) (fun _ i _ => (intOf i).toNat)
  case atStart => exact HMX.out _ rfl
  case round =>
    obtain ⟨k, zs, rfl, hlk, hmem, hown, htp, hgr⟩ := hrel
    have HO := Lib.hid hown
    have HMEM := Lib.hid hmem
    have HTP0 := Lib.hid htp
    have HGR0 := Lib.hid hgr
    have HLK := Lib.hid hlk
    clear hown hmem htp hgr hlk HMX
    by_cases hc : 0 < k ∧ 0 < m
    · obtain ⟨hkp, hmp⟩ := hc
      have hk1 : decide ((0 : Int) < (k : Int)) = true := decide_eq_true (by omega)
      have hk2 : decide (0 < k) = true := decide_eq_true hkp
      have hmm1 : decide ((0 : Int) < (m : Int)) = true := decide_eq_true (by omega)
      have hmm2 : decide (0 < m) = true := decide_eq_true hmp
      obtain ⟨p, cap, hv5, -⟩ := own_form HO.out
      subst hv5
      have hzl := HLK.out
      go_wp2_with fail
      refine (tape_next ((zs.length : Int) + 1) (by omega) (by omega) HTP0.out).mono ?_
      rintro e w4 ⟨a, ⟨ha0, ha1⟩, rfl, ht4', hg4⟩
      obtain ⟨a, rfl⟩ := Int.eq_ofNat_of_zero_le ha0
      have HO4 := Lib.hid (HO.out.kept hg4 (.inr fun e => by have := (HO.out.lt g e).1; omega))
      have HGR4 := Lib.hid (gTr HGR0.out hg4)
      clear hg4
      go_wp2_with fail
      refine (tape_next (m : Int) (by omega) (by omega) ht4').mono ?_
      rintro e w5 ⟨x, ⟨hx0, hx1⟩, rfl, ht5, hg5⟩
      obtain ⟨x, rfl⟩ := Int.eq_ofNat_of_zero_le hx0
      have hxm : x < m := by omega
      have HO5 := Lib.hid (HO4.out.kept hg5 (.inr fun e => by have := (HO4.out.lt g e).1; omega))
      have HTP := Lib.hid ht5
      have HGR := Lib.hid (gTr HGR4.out hg5)
      have HSZ := Lib.hid HGR.out.size
      have ha : a ≤ zs.length := by omega
      have HZ := Lib.hid (show zs.length ≤ 1000000 by omega)
      clear ht5 hg5 HO HO4 HTP0 HGR0 HGR4 ha0 ha1 ht4'
      rcases own_form2 HO5.out with ⟨rfl, hz, hcz⟩ | ⟨q, rfl, hzc, hcm, hqB, hql⟩
      · obtain rfl : zs = [] := List.length_eq_zero_iff.1 hz
        subst hcz
        obtain rfl : a = 0 := by simpa using ha
        go_wp2_with (first | (at_builtin; refine wpList_append_own_at _ rfl (.tmp 36) (.tmp 38) 28 rfl w5.heap.size 3 i0 (.int .i64 0) 1 8 Try.underlying28 hi0 hz0 hz1 hz2 rfl (by decide) (.slice none 0 0) 0 [] rfl ((World.ownsRow_nil _ _ _ _).alloc _) ⟨w5.heap.size, 0, none⟩ 1 1 [iv x] rfl rfl ?d1 ?d2 ?d3 ?d4 ?d5 ?_; (case d1 => exact cell_one_new _ _ _); (case d2 => intro u hu; simp at hu; subst hu; rfl); (case d3 => unfold maxLen; omega); (case d4 => omega); (case d5 => simp); intro v3 w8 hown7 hgrow7 hnil7 hat7; have H7 := Lib.hid (And.intro hown7 hgrow7); clear hown7 hgrow7 hnil7 hat7) | (at_builtin; refine wpList_append_own_none rfl (.tmp 40) (.tmp 43) 28 rfl w5.heap.size 3 i0 1 Try.underlying28 hi0 _ _ _ rfl H7.out.1 rfl ?_))
        have HB8 := Lib.hid (((RowKit.Below.refl w5.heap.size w5).alloc (Nat.le_refl _) _).grown H7.out.2 (by simp) (fun j hj => by simp [Value.ownBlock] at hj))
        have HOW8 := Lib.hid (show w8.ownsRow w5.heap.size 3 1 v3 (([] : List Nat).length + 1) ((([] : List Nat).take 0 ++ [x] ++ ([] : List Nat).drop 0).map iv) from own_cast H7.out.1 (by simp) (by simp))
        go_roundw
        case rel => exact ⟨k - 1, ([] : List Nat).take 0 ++ [x] ++ ([] : List Nat).drop 0, by go_num, by rw [len_ins ha]; have := HLK.out; omega, (fun y => by rw [mem_ins, HMEM.out]; omega), own_base (own_cast HOW8.out (len_ins ha).symm rfl) HSZ.out, HTP.out.later HB8.out, gTr HGR.out (gBe HB8.out)⟩
        case measure => simp [intOf]; omega
      · have hac : a ≤ cap := by omega
        have hac1 : (a : Int) ≤ (cap : Int) := by omega
        have haz : (a : Int) ≤ (zs.length : Int) := by omega
        by_cases hca : cap = a
        · obtain rfl : a = cap := hca.symm
          have HDR := Lib.hid (show zs.drop a = [] from List.drop_eq_nil_of_le hzc)
          go_wp2_with (first | (at_builtin; refine wpList_append_row rfl (.tmp 31) (.tmp 34) 28 rfl w5.heap.size 3 i0 (.int .i64 0) 1 8 Try.underlying28 hi0 hz0 hz1 hz2 rfl (by decide) (.slice none 0 0) 0 [] rfl (World.ownsRow_nil _ _ _ _) _ a _ ((zs.take a).map iv) rfl ?c1 ?c2 ?c3 ?c4 ?c5 ?c6 ?c7 ?_; (case c1 => intro h; cases h); (case c2 => simp; omega); (case c3 => intro ad had j u hu; cases had; exact HO5.out.cells (g := q) rfl j u (take_get hu)); (case c4 => exact iv_one); (case c5 => have := HZ.out; unfold maxLen; omega); (case c6 => have := HZ.out; omega); (case c7 => exact Nat.le_refl _); intro v1 w6 hown6 hgrow6 hat6; have H6 := Lib.hid (And.intro hown6 hgrow6); clear hown6 hgrow6 hat6) | (at_builtin; refine wpList_append_own_at _ rfl (.tmp 36) (.tmp 38) 28 rfl w5.heap.size 3 i0 (.int .i64 0) 1 8 Try.underlying28 hi0 hz0 hz1 hz2 rfl (by decide) _ _ _ rfl (H6.out.1.alloc _) ⟨w6.heap.size, 0, none⟩ 1 1 [iv x] rfl rfl ?d1 ?d2 ?d3 ?d4 ?d5 ?_; (case d1 => exact cell_one_new _ _ _); (case d2 => intro u hu; simp at hu; subst hu; rfl); (case d3 => have := HZ.out; unfold maxLen; omega); (case d4 => have := HZ.out; omega); (case d5 => have := H6.out.2.size; simp; omega); intro v2 w7 hown7 hgrow7 hnil7 hat7; have H7 := Lib.hid (And.intro hown7 hgrow7); have HB7 := Lib.hid ((((RowKit.Below.refl w5.heap.size w5).grown H6.out.2 (Nat.le_refl _) (by simp [Value.ownBlock])).alloc H6.out.2.size _).grown hgrow7 (by have := H6.out.2.size; simp; omega) (fun j hj => (H6.out.1.lt j hj).1)); clear hown7 hgrow7 hnil7 hat7) | (at_builtin; refine wpList_append_row rfl (.tmp 40) (.tmp 43) 28 rfl w5.heap.size 3 i0 (.int .i64 0) 1 8 Try.underlying28 hi0 hz0 hz1 hz2 rfl (by decide) _ _ _ rfl H7.out.1 _ 0 _ [] rfl ?e1 ?e2 ?e3 ?e4 ?e5 ?e6 ?e7 ?_; (case e1 => intro h; cases h); (case e2 => rfl); (case e3 => intro ad had j u hu; simp at hu); (case e4 => intro u hu; simp at hu); (case e5 => have := HZ.out; unfold maxLen; omega); (case e6 => have := HZ.out; omega); (case e7 => exact HB7.out.size); intro v3 w8 hown8 hgrow8 hat8; have H8 := Lib.hid (And.intro hown8 hgrow8); clear hown8 hgrow8 hat8))
          have HB8 := Lib.hid (HB7.out.grown H8.out.2 HB7.out.size (fun j hj => (H7.out.1.lt j hj).1))
          have HOW8 := Lib.hid (show w8.ownsRow w5.heap.size 3 1 v3 (zs.length + 1) ((zs.take a ++ [x] ++ zs.drop a).map iv) from own_cast H8.out.1 (by omega) (by rw [HDR.out]; simp))
          go_roundw
          case rel => exact ⟨k - 1, zs.take a ++ [x] ++ zs.drop a, by go_num, by rw [len_ins ha]; have := HLK.out; omega, (fun y => by rw [mem_ins, HMEM.out]; omega), own_base (own_cast HOW8.out (len_ins ha).symm rfl) HSZ.out, HTP.out.later HB8.out, gTr HGR.out (gBe HB8.out)⟩
          case measure => simp [intOf]; omega
        · go_wp2_with (first | (at_builtin; refine wpList_append_row rfl (.tmp 31) (.tmp 34) 28 rfl w5.heap.size 3 i0 (.int .i64 0) 1 8 Try.underlying28 hi0 hz0 hz1 hz2 rfl (by decide) (.slice none 0 0) 0 [] rfl (World.ownsRow_nil _ _ _ _) _ a _ ((zs.take a).map iv) rfl ?c1 ?c2 ?c3 ?c4 ?c5 ?c6 ?c7 ?_; (case c1 => intro h; cases h); (case c2 => simp; omega); (case c3 => intro ad had j u hu; cases had; exact HO5.out.cells (g := q) rfl j u (take_get hu)); (case c4 => exact iv_one); (case c5 => have := HZ.out; unfold maxLen; omega); (case c6 => have := HZ.out; omega); (case c7 => exact Nat.le_refl _); intro v1 w6 hown6 hgrow6 hat6; have H6 := Lib.hid (And.intro hown6 hgrow6); clear hown6 hgrow6 hat6) | (at_builtin; refine wpList_append_own_at _ rfl (.tmp 36) (.tmp 38) 28 rfl w5.heap.size 3 i0 (.int .i64 0) 1 8 Try.underlying28 hi0 hz0 hz1 hz2 rfl (by decide) _ _ _ rfl (H6.out.1.alloc _) ⟨w6.heap.size, 0, none⟩ 1 1 [iv x] rfl rfl ?d1 ?d2 ?d3 ?d4 ?d5 ?_; (case d1 => exact cell_one_new _ _ _); (case d2 => intro u hu; simp at hu; subst hu; rfl); (case d3 => have := HZ.out; unfold maxLen; omega); (case d4 => have := HZ.out; omega); (case d5 => have := H6.out.2.size; simp; omega); intro v2 w7 hown7 hgrow7 hnil7 hat7; have H7 := Lib.hid (And.intro hown7 hgrow7); have HB7 := Lib.hid ((((RowKit.Below.refl w5.heap.size w5).grown H6.out.2 (Nat.le_refl _) (by simp [Value.ownBlock])).alloc H6.out.2.size _).grown hgrow7 (by have := H6.out.2.size; simp; omega) (fun j hj => (H6.out.1.lt j hj).1)); clear hown7 hgrow7 hnil7 hat7) | (at_builtin; refine wpList_append_row rfl (.tmp 40) (.tmp 43) 28 rfl w5.heap.size 3 i0 (.int .i64 0) 1 8 Try.underlying28 hi0 hz0 hz1 hz2 rfl (by decide) _ _ _ rfl H7.out.1 _ (zs.length - a) _ ((zs.drop a).map iv) rfl ?e1 ?e2 ?e3 ?e4 ?e5 ?e6 ?e7 ?_; (case e1 => intro h; cases h); (case e2 => simp); (case e3 => intro ad had j u hu; cases had; exact src_get HO5.out HB7.out hql hu); (case e4 => exact iv_one); (case e5 => have := HZ.out; unfold maxLen; omega); (case e6 => have := HZ.out; omega); (case e7 => exact HB7.out.size); intro v3 w8 hown8 hgrow8 hat8; have H8 := Lib.hid (And.intro hown8 hgrow8); clear hown8 hgrow8 hat8))
          have HB8 := Lib.hid (HB7.out.grown H8.out.2 HB7.out.size (fun j hj => (H7.out.1.lt j hj).1))
          have HOW8 := Lib.hid (show w8.ownsRow w5.heap.size 3 1 v3 (zs.length + 1) ((zs.take a ++ [x] ++ zs.drop a).map iv) from own_cast H8.out.1 (by omega) (by simp))
          go_roundw
          case rel => exact ⟨k - 1, zs.take a ++ [x] ++ zs.drop a, by go_num, by rw [len_ins ha]; have := HLK.out; omega, (fun y => by rw [mem_ins, HMEM.out]; omega), own_base (own_cast HOW8.out (len_ins ha).symm rfl) HSZ.out, HTP.out.later HB8.out, gTr HGR.out (gBe HB8.out)⟩
          case measure => simp [intOf]; omega
    · have HX := Lib.hid (show ∀ v5, v5 = u5 → GetRow (fun zs => zs.length ≤ m + 3 ∧ ∀ x, x ∈ zs ↔ x < m) w B g o n c z (.returned v5) wr from fun v5 e => by subst e; exact ⟨_, zs, ⟨by have := HLK.out; omega, HMEM.out⟩, rfl, HO.out, HTP0.out, HGR0.out⟩)
      by_cases hkp : 0 < k
      · have hk1 : decide ((0 : Int) < (k : Int)) = true := decide_eq_true (by omega)
        have hk2 : decide (0 < k) = true := decide_eq_true hkp
        have hmm1 : decide ((0 : Int) < (m : Int)) = false := decide_eq_false (by omega)
        have hmm2 : decide (0 < m) = false := decide_eq_false (by omega)
        go_wp2
        go_ret
        exact HX.out _ rfl
      · have hk1 : decide ((0 : Int) < (k : Int)) = false := decide_eq_false (by omega)
        have hk2 : decide (0 < k) = false := decide_eq_false hkp
        go_wp2
        go_ret
        exact HX.out _ rfl
end Go.Proofs.Ytdhjmnehjmoilaa
