/-
  Order: a list of places off the tape.
-/
import Derived.Test.YtlmakfeeecbhoaaRowR
import Derived.Laws.AppendOwnNone
import Derived.LoopN
import Derived.IntWalk
import Derived.Deep.DeepCutAuto
import Derived.Deep.CutBlock
import Derived.BigQuiet
import Derived.Deep.QuietTactic
import Derived.WalkLawsBesides
import Derived.WalkSpells
import Derived.Deep.LoopGhost
namespace Go.Proofs.Ytlmakfeeecbhoaa
open Go.RowKit
set_option linter.unusedSimpArgs false
set_option linter.unusedVariables false

theorem int_info : (Try.prog.info? 3).map (fun i => (i.zero, i.size, i.bytes)) = some (some (.int .i64 0), 1, 8) := by kernel_rfl
def iv (j : Nat) : Value := .int .i64 (j : Int)
theorem grownRefl (w : World) (row : Option Nat) : w.grownBy w row := ⟨rfl, rfl, rfl, Nat.le_refl _, fun _ _ _ => rfl⟩
/-- append of a slice that may be nil -/
theorem wpList_append_row {P : Program} {w : World} {ops : Array Oper} {rest : List Oper} {o : Oper} {a : Act} {Q : Exit → Act → World → Prop} (hgd : o.guard = none) (s x : Operand) (t : TypeId)
    (ho : o.op = .call { callee := .builtin .append, args := #[s, x], argTypes := #[t, t] })
    (base : Nat) (e : TypeId) (i : TypeInfo) (z : Value) (size bytes : Nat) (ht : P.underlying t = some (.slice e)) (hi : P.info? e = some i) (hz : i.zero = some z)
    (hsize : i.size = size) (hby : i.bytes = bytes) (hzs : z.cells.size = size) (hsz : 0 < size)
    (v : Value) (n : Nat) (xs : List Value) (hs : a.eval s = v) (hown : w.ownsRow base e size v n xs)
    (p : Option Addr) (m c : Nat) (news : List Value) (hx : a.eval x = .slice p m c) (hp : p = none → m = 0 ∧ c = 0) (hl : news.length = m * size) (hnews : ∀ ad, p = some ad → ∀ j u, news[j]? = some u → w.cell? (ad.add j) = some u) (h1 : ∀ u ∈ news, u.oneCell' = true)
    (h63 : n + m ≤ maxLen) (hbytes : (n + m) * bytes ≤ 140737488355328) (hbase : base ≤ w.heap.size)
    (h : ∀ v' w', w'.ownsRow base e size v' (n + m) (xs ++ news) → w.grownBy w' v.ownBlock → (v'.ownBlock = v.ownBlock ∨ v'.ownBlock = some w.heap.size) → wpList P ops Q rest (a.put o.dst v') w') :
    wpList P ops Q (o :: rest) a w := by
  rcases p with _ | ad
  · obtain ⟨rfl, rfl⟩ := hp rfl
    have hn : news = [] := List.eq_nil_of_length_eq_zero (by simpa using hl)
    subst hn
    exact wpList_append_own_none hgd s x t ho base e i size ht hi v n xs hs hown hx (h v w (by simpa using hown) (grownRefl w _) (.inl rfl))
  · exact wpList_append_own_at _ hgd s x t ho base e i z size bytes ht hi hz hsize hby hzs hsz v n xs hs hown ad m c news hx hl (hnews ad rfl) h1 h63 hbytes hbase fun v' w' h2 h3 _ h5 => h v' w' h2 h3 h5
theorem own_form {w : World} {B m : Nat} {e : TypeId} {v : Value} {l : List Nat} (h : w.ownsRow B e 1 v m (l.map iv)) : ∃ p cap, v = .slice p m cap ∧ ∀ j x : Nat, l[j]? = some x → ∃ q, p = some ⟨q, 0, none⟩ ∧ B ≤ q ∧ q < w.heap.size ∧ w.cell? ⟨q, j, none⟩ = some (.int .i64 (x : Int)) := by
  have hl : l.length = m := by have := h.1; simpa using this
  rcases h.2 with ⟨rfl, h0⟩ | ⟨g, cap, cur, rfl, hb, hc, hmc, _, hcs, htk⟩
  · subst h0
    exact ⟨none, 0, rfl, fun j x hx => by have := List.length_eq_zero_iff.1 hl; subst this; simp at hx⟩
  · refine ⟨_, cap, rfl, fun j x hx => ⟨g, rfl, hb, (Array.getElem?_eq_some_iff.1 hc).1, ?_⟩⟩
    have hj : j < l.length := by
      rcases Nat.lt_or_ge j l.length with h | h
      · exact h
      · rw [List.getElem?_eq_none h] at hx; cases hx
    have := h.cellAt j (by omega)
    rw [this, List.getElem?_map, hx]; rfl
theorem own_form2 {w : World} {B n m cap : Nat} {e : TypeId} {p : Option Addr} {xs : List Value} (h : w.ownsRow B e 1 (.slice p m cap) n xs) : (p = none ∧ n = 0 ∧ cap = 0) ∨ ∃ q, p = some ⟨q, 0, none⟩ ∧ n ≤ cap ∧ cap ≤ maxLen ∧ B ≤ q ∧ q < w.heap.size := by
  rcases h.2 with ⟨hv, h0⟩ | ⟨g, cap', cur, hv, hb, hc, hmc, hm, _⟩
  · injection hv with h1 h2 h3
    exact .inl ⟨h1, h0, h3⟩
  · injection hv with h1 h2 h3
    subst h3
    exact .inr ⟨g, h1, hmc, hm, hb, (Array.getElem?_eq_some_iff.1 hc).1⟩
theorem own_base {w : World} {B B' : Nat} {e : TypeId} {size n : Nat} {v : Value} {xs : List Value} (h : w.ownsRow B' e size v n xs) (hB : B ≤ B') : w.ownsRow B e size v n xs := by
  rcases h with ⟨h0, h | ⟨g, cap, cur, h1, h2, h3⟩⟩
  · exact ⟨h0, .inl h⟩
  · exact ⟨h0, .inr ⟨g, cap, cur, h1, by omega, h3⟩⟩
theorem take_get {zs : List Nat} {a j : Nat} {u : Value} (h : ((zs.take a).map iv)[j]? = some u) : (zs.map iv)[j]? = some u := by
  rw [List.getElem?_map] at h ⊢
  rw [List.getElem?_take] at h
  split at h
  · exact h
  · cases h
theorem drop_get {zs : List Nat} {a j : Nat} {u : Value} (h : ((zs.drop a).map iv)[j]? = some u) : (zs.map iv)[a + j]? = some u := by
  rw [List.getElem?_map] at h ⊢
  rw [List.getElem?_drop] at h
  exact h
theorem drop_nil' {zs : List Nat} {a j : Nat} {u : Value} (h : zs.length ≤ a) (hu : ((zs.drop a).map iv)[j]? = some u) : False := by
  rw [List.drop_eq_nil_of_le h] at hu; simp at hu
theorem iv_one {l : List Nat} : ∀ u ∈ l.map iv, u.oneCell' = true := by
  intro u hu
  obtain ⟨x, _, rfl⟩ := List.mem_map.1 hu
  rfl
theorem src_get {w5 w7 : World} {B q n cap a j : Nat} {zs : List Nat} {u : Value} (h : w5.ownsRow B 3 1 (.slice (some ⟨q, 0, none⟩) n cap) n (zs.map iv)) (hb : RowKit.Below w5.heap.size w5 w7) (hql : q < w5.heap.size) (hu : ((zs.drop a).map iv)[j]? = some u) : w7.cell? ((⟨q, a, none⟩ : Addr).add j) = some u := by
  have h1 := drop_get hu
  have hl : (zs.map iv).length = n := by have := h.1; simpa using this
  have hlt : a + j < n := by
    rcases Nat.lt_or_ge (a + j) n with g | g
    · exact g
    · rw [List.getElem?_eq_none (by omega)] at h1; cases h1
  have e : (⟨q, a, none⟩ : Addr).add j = ⟨q, a + j, none⟩ := by
    unfold Addr.add
    split
    · rename_i hj; rw [hj]; rfl
    · rfl
  rw [e, hb.cell (p := ⟨q, a + j, none⟩) hql, h.cellAt (a + j) (by omega), h1]
theorem own_cast {w : World} {B size n n' : Nat} {e : TypeId} {v : Value} {xs xs' : List Value} (h : w.ownsRow B e size v n xs) (hn : n = n') (hx : xs = xs') : w.ownsRow B e size v n' xs' := by subst hn; subst hx; exact h
def GetRow (P : List Nat → Prop) (w : World) (B g : Nat) (o : Option Addr) (n c : Nat) (z : Nat → Int) (e : Ending) (w' : World) : Prop :=
  ∃ (v : Value) (zs : List Nat), P zs ∧ e = .returned v ∧ w'.ownsRow w.heap.size 3 1 v zs.length (zs.map iv) ∧ Tp w' B g o n c z ∧ w.grownBy w' (some g)
def OrdAt (w : World) (B g : Nat) (o : Option Addr) (n c : Nat) (z : Nat → Int) (m : Nat) (v i : Value) (wr : World) : Prop :=
  ∃ (k : Nat) (zs : List Nat), i = .int .i64 k ∧ k ≤ m ∧ zs.length = k ∧ (∀ x, x ∈ zs ↔ x < k) ∧ wr.ownsRow w.heap.size 3 1 v zs.length (zs.map iv) ∧ Tp wr B g o n c z ∧ w.grownBy wr (some g)
theorem mem_ins {zs : List Nat} {a x y : Nat} : y ∈ zs.take a ++ [x] ++ zs.drop a ↔ y ∈ zs ∨ y = x := by
  have h : y ∈ zs ↔ y ∈ zs.take a ∨ y ∈ zs.drop a := by rw [← List.mem_append, List.take_append_drop]
  rw [h, List.mem_append, List.mem_append, List.mem_singleton]
  constructor
  · rintro ((h | h) | h)
    · exact .inl (.inl h)
    · exact .inr h
    · exact .inl (.inr h)
  · rintro ((h | h) | h)
    · exact .inl (.inl h)
    · exact .inr h
    · exact .inl (.inr h)
theorem len_ins {zs : List Nat} {a x : Nat} (h : a ≤ zs.length) : (zs.take a ++ [x] ++ zs.drop a).length = zs.length + 1 := by simp; omega

set_option maxRecDepth 100000 in
set_option maxHeartbeats 8000000 in
theorem tape_order (m : Nat) (hm : m ≤ 1000) {w : World} {B g : Nat} {o : Option Addr} {n c : Nat} {z : Nat → Int} (h : Tp w B g o n c z) :
    Calls Try.prog 28 #[.pointer (some ⟨g, 0, none⟩), .int .i64 (m : Int)] w (GetRow (fun zs => zs.length = m ∧ ∀ x, x ∈ zs ↔ x < m) w B g o n c z) := by
  have hgl := h.lt
  obtain ⟨i0, hi0, hz0, hz1, hz2⟩ := info_parts int_info
  have HT := Lib.hid h
  clear h
  go_enter Try.func28, Try.ntmps28
  go_wp2_with fail
  go_loopw [5, 6] (fun v i wr => OrdAt w B g o n c z m v i wr) (fun _ i _ => m - (intOf i).toNat)
  case atStart => exact ⟨0, [], rfl, Nat.zero_le _, rfl, by simp, World.ownsRow_nil _ _ _ _, HT.out, gDr w 0 _⟩
  case round =>
    obtain ⟨k, zs, rfl, hk, hlk, hmem, hown, htp, hgr⟩ := hrel
    have HO := Lib.hid hown
    have HMEM := Lib.hid hmem
    have HTP0 := Lib.hid htp
    have HGR0 := Lib.hid hgr
    have HLK := Lib.hid hlk
    clear hown hmem htp hgr hlk HT
    by_cases hkm : k < m
    · have hkm' : (k : Int) < (m : Int) := by omega
      obtain ⟨p, cap, hv5, -⟩ := own_form HO.out
      subst hv5
      go_wp2_with fail
      refine (tape_next ((k : Int) + 1) (by omega) (by omega) HTP0.out).mono ?_
      rintro e w5 ⟨a, ⟨ha0, ha1⟩, rfl, ht5, hg5⟩
      obtain ⟨a, rfl⟩ := Int.eq_ofNat_of_zero_le ha0
      have HO5 := Lib.hid (HO.out.kept hg5 (.inr fun e => by have := (HO.out.lt g e).1; omega))
      have HTP := Lib.hid ht5
      have HGR := Lib.hid (gTr HGR0.out hg5)
      have HSZ := Lib.hid HGR.out.size
      have ha : a ≤ zs.length := by have := HLK.out; omega
      have HZ := Lib.hid (show zs.length ≤ 1000000 by have := HLK.out; omega)
      clear ht5 hg5 HO HTP0 HGR0 ha0 ha1
      rcases own_form2 HO5.out with ⟨rfl, hz, hcz⟩ | ⟨q, rfl, hzc, hcm, hqB, hql⟩
      · obtain rfl : zs = [] := List.length_eq_zero_iff.1 hz
        subst hcz
        obtain rfl : a = 0 := by simpa using ha
        go_wp2_with (first | (at_builtin; refine wpList_append_own_at _ rfl (.tmp 23) (.tmp 25) 22 rfl w5.heap.size 3 i0 (.int .i64 0) 1 8 Try.underlying22 hi0 hz0 hz1 hz2 rfl (by decide) (.slice none 0 0) 0 [] rfl ((World.ownsRow_nil _ _ _ _).alloc _) ⟨w5.heap.size, 0, none⟩ 1 1 [iv k] rfl rfl ?d1 ?d2 ?d3 ?d4 ?d5 ?_; (case d1 => exact cell_one_new _ _ _); (case d2 => intro u hu; simp at hu; subst hu; rfl); (case d3 => unfold maxLen; omega); (case d4 => omega); (case d5 => simp); intro v3 w8 hown7 hgrow7 hnil7 hat7; have H7 := Lib.hid (And.intro hown7 hgrow7); clear hown7 hgrow7 hnil7 hat7) | (at_builtin; refine wpList_append_own_none rfl (.tmp 27) (.tmp 30) 22 rfl w5.heap.size 3 i0 1 Try.underlying22 hi0 _ _ _ rfl H7.out.1 rfl ?_))
        have HB8 := Lib.hid (((RowKit.Below.refl w5.heap.size w5).alloc (Nat.le_refl _) _).grown H7.out.2 (by simp) (fun j hj => by simp [Value.ownBlock] at hj))
        have HOW8 := Lib.hid (show w8.ownsRow w5.heap.size 3 1 v3 (([] : List Nat).length + 1) ((([] : List Nat).take 0 ++ [k] ++ ([] : List Nat).drop 0).map iv) from own_cast H7.out.1 (by simp) (by simp))
        go_roundw
        case rel => exact ⟨k + 1, ([] : List Nat).take 0 ++ [k] ++ ([] : List Nat).drop 0, by go_num, by omega, by rw [len_ins ha]; rw [HLK.out], (fun y => by rw [mem_ins, HMEM.out]; omega), own_base (own_cast HOW8.out (len_ins ha).symm rfl) HSZ.out, HTP.out.later HB8.out, gTr HGR.out (gBe HB8.out)⟩
        case measure => simp [intOf]; omega
      · have hac : a ≤ cap := by omega
        have hac1 : (a : Int) ≤ (cap : Int) := by omega
        have haz : (a : Int) ≤ (zs.length : Int) := by omega
        by_cases hca : cap = a
        · obtain rfl : a = cap := hca.symm
          have HDR := Lib.hid (show zs.drop a = [] from List.drop_eq_nil_of_le hzc)
          go_wp2_with (first | (at_builtin; refine wpList_append_row rfl (.tmp 18) (.tmp 21) 22 rfl w5.heap.size 3 i0 (.int .i64 0) 1 8 Try.underlying22 hi0 hz0 hz1 hz2 rfl (by decide) (.slice none 0 0) 0 [] rfl (World.ownsRow_nil _ _ _ _) _ a _ ((zs.take a).map iv) rfl ?c1 ?c2 ?c3 ?c4 ?c5 ?c6 ?c7 ?_; (case c1 => intro h; cases h); (case c2 => simp; omega); (case c3 => intro ad had j u hu; cases had; exact HO5.out.cells (g := q) rfl j u (take_get hu)); (case c4 => exact iv_one); (case c5 => have := HZ.out; unfold maxLen; omega); (case c6 => have := HZ.out; omega); (case c7 => exact Nat.le_refl _); intro v1 w6 hown6 hgrow6 hat6; have H6 := Lib.hid (And.intro hown6 hgrow6); clear hown6 hgrow6 hat6) | (at_builtin; refine wpList_append_own_at _ rfl (.tmp 23) (.tmp 25) 22 rfl w5.heap.size 3 i0 (.int .i64 0) 1 8 Try.underlying22 hi0 hz0 hz1 hz2 rfl (by decide) _ _ _ rfl (H6.out.1.alloc _) ⟨w6.heap.size, 0, none⟩ 1 1 [iv k] rfl rfl ?d1 ?d2 ?d3 ?d4 ?d5 ?_; (case d1 => exact cell_one_new _ _ _); (case d2 => intro u hu; simp at hu; subst hu; rfl); (case d3 => have := HZ.out; unfold maxLen; omega); (case d4 => have := HZ.out; omega); (case d5 => have := H6.out.2.size; simp; omega); intro v2 w7 hown7 hgrow7 hnil7 hat7; have H7 := Lib.hid (And.intro hown7 hgrow7); have HB7 := Lib.hid ((((RowKit.Below.refl w5.heap.size w5).grown H6.out.2 (Nat.le_refl _) (by simp [Value.ownBlock])).alloc H6.out.2.size _).grown hgrow7 (by have := H6.out.2.size; simp; omega) (fun j hj => (H6.out.1.lt j hj).1)); clear hown7 hgrow7 hnil7 hat7) | (at_builtin; refine wpList_append_row rfl (.tmp 27) (.tmp 30) 22 rfl w5.heap.size 3 i0 (.int .i64 0) 1 8 Try.underlying22 hi0 hz0 hz1 hz2 rfl (by decide) _ _ _ rfl H7.out.1 _ 0 _ [] rfl ?e1 ?e2 ?e3 ?e4 ?e5 ?e6 ?e7 ?_; (case e1 => intro h; cases h); (case e2 => rfl); (case e3 => intro ad had j u hu; simp at hu); (case e4 => intro u hu; simp at hu); (case e5 => have := HZ.out; unfold maxLen; omega); (case e6 => have := HZ.out; omega); (case e7 => exact HB7.out.size); intro v3 w8 hown8 hgrow8 hat8; have H8 := Lib.hid (And.intro hown8 hgrow8); clear hown8 hgrow8 hat8))
          have HB8 := Lib.hid (HB7.out.grown H8.out.2 HB7.out.size (fun j hj => (H7.out.1.lt j hj).1))
          have HOW8 := Lib.hid (show w8.ownsRow w5.heap.size 3 1 v3 (zs.length + 1) ((zs.take a ++ [k] ++ zs.drop a).map iv) from own_cast H8.out.1 (by omega) (by rw [HDR.out]; simp))
          go_roundw
          case rel => exact ⟨k + 1, zs.take a ++ [k] ++ zs.drop a, by go_num, by omega, by rw [len_ins ha]; rw [HLK.out], (fun y => by rw [mem_ins, HMEM.out]; omega), own_base (own_cast HOW8.out (len_ins ha).symm rfl) HSZ.out, HTP.out.later HB8.out, gTr HGR.out (gBe HB8.out)⟩
          case measure => simp [intOf]; omega
        · go_wp2_with (first | (at_builtin; refine wpList_append_row rfl (.tmp 18) (.tmp 21) 22 rfl w5.heap.size 3 i0 (.int .i64 0) 1 8 Try.underlying22 hi0 hz0 hz1 hz2 rfl (by decide) (.slice none 0 0) 0 [] rfl (World.ownsRow_nil _ _ _ _) _ a _ ((zs.take a).map iv) rfl ?c1 ?c2 ?c3 ?c4 ?c5 ?c6 ?c7 ?_; (case c1 => intro h; cases h); (case c2 => simp; omega); (case c3 => intro ad had j u hu; cases had; exact HO5.out.cells (g := q) rfl j u (take_get hu)); (case c4 => exact iv_one); (case c5 => have := HZ.out; unfold maxLen; omega); (case c6 => have := HZ.out; omega); (case c7 => exact Nat.le_refl _); intro v1 w6 hown6 hgrow6 hat6; have H6 := Lib.hid (And.intro hown6 hgrow6); clear hown6 hgrow6 hat6) | (at_builtin; refine wpList_append_own_at _ rfl (.tmp 23) (.tmp 25) 22 rfl w5.heap.size 3 i0 (.int .i64 0) 1 8 Try.underlying22 hi0 hz0 hz1 hz2 rfl (by decide) _ _ _ rfl (H6.out.1.alloc _) ⟨w6.heap.size, 0, none⟩ 1 1 [iv k] rfl rfl ?d1 ?d2 ?d3 ?d4 ?d5 ?_; (case d1 => exact cell_one_new _ _ _); (case d2 => intro u hu; simp at hu; subst hu; rfl); (case d3 => have := HZ.out; unfold maxLen; omega); (case d4 => have := HZ.out; omega); (case d5 => have := H6.out.2.size; simp; omega); intro v2 w7 hown7 hgrow7 hnil7 hat7; have H7 := Lib.hid (And.intro hown7 hgrow7); have HB7 := Lib.hid ((((RowKit.Below.refl w5.heap.size w5).grown H6.out.2 (Nat.le_refl _) (by simp [Value.ownBlock])).alloc H6.out.2.size _).grown hgrow7 (by have := H6.out.2.size; simp; omega) (fun j hj => (H6.out.1.lt j hj).1)); clear hown7 hgrow7 hnil7 hat7) | (at_builtin; refine wpList_append_row rfl (.tmp 27) (.tmp 30) 22 rfl w5.heap.size 3 i0 (.int .i64 0) 1 8 Try.underlying22 hi0 hz0 hz1 hz2 rfl (by decide) _ _ _ rfl H7.out.1 _ (zs.length - a) _ ((zs.drop a).map iv) rfl ?e1 ?e2 ?e3 ?e4 ?e5 ?e6 ?e7 ?_; (case e1 => intro h; cases h); (case e2 => simp); (case e3 => intro ad had j u hu; cases had; exact src_get HO5.out HB7.out hql hu); (case e4 => exact iv_one); (case e5 => have := HZ.out; unfold maxLen; omega); (case e6 => have := HZ.out; omega); (case e7 => exact HB7.out.size); intro v3 w8 hown8 hgrow8 hat8; have H8 := Lib.hid (And.intro hown8 hgrow8); clear hown8 hgrow8 hat8))
          have HB8 := Lib.hid (HB7.out.grown H8.out.2 HB7.out.size (fun j hj => (H7.out.1.lt j hj).1))
          have HOW8 := Lib.hid (show w8.ownsRow w5.heap.size 3 1 v3 (zs.length + 1) ((zs.take a ++ [k] ++ zs.drop a).map iv) from own_cast H8.out.1 (by omega) (by simp))
          go_roundw
          case rel => exact ⟨k + 1, zs.take a ++ [k] ++ zs.drop a, by go_num, by omega, by rw [len_ins ha]; rw [HLK.out], (fun y => by rw [mem_ins, HMEM.out]; omega), own_base (own_cast HOW8.out (len_ins ha).symm rfl) HSZ.out, HTP.out.later HB8.out, gTr HGR.out (gBe HB8.out)⟩
          case measure => simp [intOf]; omega
    · obtain rfl : m = k := by omega
      have HX := Lib.hid (show ∀ v5, v5 = u5 → GetRow (fun zs => zs.length = m ∧ ∀ x, x ∈ zs ↔ x < m) w B g o n c z (.returned v5) wr from fun v5 e => by subst e; exact ⟨_, zs, ⟨HLK.out, HMEM.out⟩, rfl, HO.out, HTP0.out, HGR0.out⟩)
      go_wp2
      go_ret
      exact HX.out _ rfl
end Go.Proofs.Ytlmakfeeecbhoaa
