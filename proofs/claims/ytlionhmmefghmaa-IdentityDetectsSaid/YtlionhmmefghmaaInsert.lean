/-
  The reference's insert: a text put into an ascending list, once.
-/
import Derived.Test.YtlionhmmefghmaaNear
import Derived.Sort.Walk0
namespace Go.Proofs.Ytlionhmmefghmaa
open Go.RowKit
set_option linter.unusedSimpArgs false
set_option linter.unusedVariables false
set_option maxRecDepth 100000

/-- the first place whose text isn't less -/
def place (l : List (List UInt8)) (s : List UInt8) : Nat := (l.takeWhile fun x => decide (x < s)).length
def insL (l : List (List UInt8)) (s : List UInt8) : List (List UInt8) := if l[place l s]? = some s then l else l.take (place l s) ++ [s] ++ l.drop (place l s)
theorem place_le (l : List (List UInt8)) (s : List UInt8) : place l s ≤ l.length := (List.takeWhile_sublist _).length_le
theorem place_lt {l : List (List UInt8)} {s : List UInt8} {k : Nat} (h : k < place l s) : l.getD k [] < s := by
  induction l generalizing k with
  | nil => simp [place] at h
  | cons x l ih =>
    by_cases hx : x < s
    · cases k with
      | zero => exact hx
      | succ k => exact ih (by unfold place at h ⊢; rw [List.takeWhile_cons_of_pos (by simpa using hx)] at h; simpa using h)
    · unfold place at h
      rw [List.takeWhile_cons_of_neg (by simpa using hx)] at h
      simp at h
theorem place_at {l : List (List UInt8)} {s : List UInt8} (h : place l s < l.length) : ¬ l.getD (place l s) [] < s := by
  induction l with
  | nil => simp at h
  | cons x l ih =>
    by_cases hx : x < s
    · have e : place (x :: l) s = place l s + 1 := by unfold place; rw [List.takeWhile_cons_of_pos (by simpa using hx)]; rfl
      rw [e] at h ⊢
      exact ih (by simpa using h)
    · have e : place (x :: l) s = 0 := by unfold place; rw [List.takeWhile_cons_of_neg (by simpa using hx)]; rfl
      rw [e]
      exact hx
theorem take_cells {w : World} {B : Nat} {g n cap : Nat} {l : List (List UInt8)} (h : Texts w B (.slice (some ⟨g, 0, none⟩) n cap) l) (k : Nat) : ∀ j u, ((l.take k).map encStr)[j]? = some u → w.cell? ((⟨g, 0, none⟩ : Addr).add j) = some u := fun j u hj => by
  refine World.ownsRow.cells h (g := g) rfl j u ?_
  rw [List.getElem?_map] at hj ⊢
  rcases Nat.lt_or_ge j k with hk | hk
  · rwa [List.getElem?_take_of_lt hk] at hj
  · rw [List.getElem?_take_eq_none hk] at hj
    cases hj
theorem drop_cells {w : World} {B : Nat} {g n cap : Nat} {l : List (List UInt8)} (h : Texts w B (.slice (some ⟨g, 0, none⟩) n cap) l) (k : Nat) : ∀ j u, ((l.drop k).map encStr)[j]? = some u → w.cell? ((⟨g, k, none⟩ : Addr).add j) = some u := fun j u hj => by
  have := World.ownsRow.cells h (g := g) rfl (k + j) u (by rw [List.getElem?_map] at hj ⊢; rwa [List.getElem?_drop] at hj)
  rw [show (⟨g, k, none⟩ : Addr).add j = ⟨g, k + j, none⟩ from by unfold Addr.add; split <;> simp_all]
  rwa [show (⟨g, 0, none⟩ : Addr).add (k + j) = ⟨g, k + j, none⟩ from by unfold Addr.add; split <;> simp_all] at this
theorem texts_kept {w w' : World} {B g n cap : Nat} {l : List (List UInt8)} {row : Option Nat} (h : Texts w B (.slice (some ⟨g, 0, none⟩) n cap) l) (hg : w.grownBy w' row) (hn : ∀ k, row = some k → g < k) : Texts w' B (.slice (some ⟨g, 0, none⟩) n cap) l :=
  World.ownsRow.kept h hg (.inr (fun e => by have := hn g e.symm; omega))
theorem texts_alloc {w : World} {B : Nat} {v : Value} {l : List (List UInt8)} (h : Texts w B v l) (o : Obj) : Texts (w.alloc o) B v l := World.ownsRow.alloc h o
set_option maxHeartbeats 4000000 in
theorem insert_some (g cap : Nat) (l : List (List UInt8)) (s : List UInt8) (w : World) (B : Nat) (hB : B ≤ w.heap.size) (h : Texts w B (.slice (some ⟨g, 0, none⟩) l.length cap) l) (hg : g < w.heap.size) (hnc : l.length ≤ cap) (hl : l.length ≤ 1000) :
    Calls Try.prog 43 #[.slice (some ⟨g, 0, none⟩) l.length cap, .string ⟨s.toArray⟩] w fun e w' => ∃ v', e = .returned v' ∧ Texts w' B v' (insL l s) ∧ Below w.heap.size w w' := by
  obtain ⟨j0, hj0, hy0, hy1, hy2⟩ := info_parts str_info
  go_enter Try.func43, Try.ntmps43
  have HC : Hid (∀ j, j < l.length → w.cell? ⟨g, j, none⟩ = some (.string ⟨(l.getD j []).toArray⟩)) := Lib.hid fun j hj => by
    obtain ⟨o, c, e, hc⟩ := texts_shape h
    obtain ⟨g', e', -, hy⟩ := hc j hj
    injection e with e1 e2 e3
    rw [e'] at e1
    injection e1 with e1
    injection e1 with e1
    subst e1
    exact hy
  have HT := Lib.hid h
  have hPl := place_le l s
  have HP := Lib.hid (fun k (hk : k < place l s) => place_lt hk)
  have HA := Lib.hid (fun (hk : place l s < l.length) => place_at hk)
  have HI := Lib.hid (show insL l s = if l[place l s]? = some s then l else l.take (place l s) ++ [s] ++ l.drop (place l s) from rfl)
  clear h
  obtain ⟨n, hn⟩ : ∃ n, l.length = n := ⟨_, rfl⟩
  rw [hn] at hPl HA hl hnc HC HT ⊢
  have HN := Lib.hid hn
  clear hn
  generalize hP : place l s = P at *
  clear hP
  have hPc : P ≤ cap := by omega
  go_wp2_with fail
  go_loopw [5] (fun a wr => ∃ (k : Nat), a = .int .i64 k ∧ k ≤ P ∧ Hid (Below w.heap.size w wr)) (fun a _ => P - (intOf a).toNat)
  case atStart => exact ⟨0, rfl, by omega, Lib.hid (Below.refl _ _)⟩
  case round =>
    obtain ⟨k, rfl, hk, HB⟩ := hrel
    by_cases hkP : k < P
    · have hkn : (k : Int) < (n : Int) := by omega
      have y0 := (HB.out.cell (p := ⟨g, k, none⟩) hg).trans (HC.out k (by omega))
      have hlt : Op.bytesLess (l.getD k []) s = true := by rw [bytesLess_eq]; exact decide_eq_true (HP.out k hkP)
      generalize l.getD k [] = u at y0 hlt
      go_wp2_with fail
      case roundEnd => exact ⟨⟨k + 1, by simp, by omega, HB⟩, by simp [intOf]; omega⟩
    · obtain rfl : k = P := by omega
      have HT2 : Hid (Texts wr B (.slice (some ⟨g, 0, none⟩) n cap) l) := Lib.hid (own_later HT.out HB.out)
      have HLT := Lib.hid (show (l.take k).length = k by rw [List.length_take]; have := HN.out; omega)
      have HLD := Lib.hid (show (l.drop k).length = n - k by rw [List.length_drop]; have := HN.out; omega)
      have HSZ := Lib.hid HB.out.size
      by_cases hkn : k < n
      · have hkn' : (k : Int) < (n : Int) := by omega
        have y0 := (HB.out.cell (p := ⟨g, k, none⟩) hg).trans (HC.out k (by omega))
        have hnlt : Op.bytesLess (l.getD k []) s = false := by rw [bytesLess_eq]; exact decide_eq_false (HA.out hkn)
        have HQ := Lib.hid (show l[k]? = some (l.getD k []) by rw [List.getD_eq_getElem?_getD, List.getElem?_eq_getElem (by have := HN.out; omega)]; rfl)
        by_cases hes : l.getD k [] = s
        · have HF := Lib.hid (show insL l s = l by rw [HI.out, if_pos (by rw [HQ.out, hes])])
          rw [hes] at y0 hnlt
          go_wp2_with fail
          exact bodyPost_ret (v := .slice (some ⟨g, 0, none⟩) n cap) (by simp [results, Try.results43, go_sem]) rfl ⟨_, rfl, by rw [HF.out]; exact HT2.out, HB.out⟩
        · have HF := Lib.hid (show insL l s = l.take k ++ [s] ++ l.drop k by rw [HI.out, if_neg (by rw [HQ.out]; intro e; exact hes (Option.some.inj e))])
          have hbf : (l.getD k [] == s) = false := beq_eq_false_iff_ne.2 hes
          generalize l.getD k [] = u at y0 hnlt hbf
          go_wp2_with (first | (at_builtin; refine wpList_append_own_at _ rfl (.tmp 34) (.tmp 37) 40 rfl w.heap.size 9 j0 (.string ⟨#[]⟩) 1 16 Try.underlying40 hj0 hy0 hy1 hy2 rfl (by decide) _ 0 [] rfl (World.ownsRow_nil _ _ _ _) ⟨g, 0, none⟩ k cap ((l.take k).map encStr) rfl ?c0 ?c1 ?c2 ?c3 ?c4 ?c5 ?_; (case c0 => rw [List.length_map, HLT.out, Nat.mul_one]); (case c1 => exact take_cells HT2.out k); (case c2 => intro u hu; obtain ⟨_, _, rfl⟩ := List.mem_map.1 hu; rfl); (case c3 => unfold maxLen; omega); (case c4 => omega); (case c5 => exact HSZ.out); intro v10 w10 hown10 hgrow10 hnil10 hat10; have H10 := Lib.hid (And.intro hown10 hgrow10); clear hown10 hgrow10 hnil10 hat10) | (at_builtin; refine wpList_append_own_at _ rfl (.tmp 39) (.tmp 41) 40 rfl w.heap.size 9 j0 (.string ⟨#[]⟩) 1 16 Try.underlying40 hj0 hy0 hy1 hy2 rfl (by decide) _ _ _ rfl (H10.out.1.alloc _) ⟨w10.heap.size, 0, none⟩ 1 1 [encStr s] rfl rfl ?c1 ?c2 ?c3 ?c4 ?c5 ?_; (case c1 => exact cell_one_new _ _ _); (case c2 => intro u hu; simp at hu; subst hu; rfl); (case c3 => unfold maxLen; omega); (case c4 => omega); (case c5 => have := HSZ.out; have := H10.out.2.size; simp; omega); intro v11 w11 hown11 hgrow11 hnil11 hat11; have H11 := Lib.hid (And.intro hown11 hgrow11); clear hown11 hgrow11 hnil11 hat11) | (at_builtin; refine wpList_append_own_at _ rfl (.tmp 43) (.tmp 46) 40 rfl w.heap.size 9 j0 (.string ⟨#[]⟩) 1 16 Try.underlying40 hj0 hy0 hy1 hy2 rfl (by decide) _ _ _ rfl H11.out.1 ⟨g, k, none⟩ (n - k) (cap - k) ((l.drop k).map encStr) rfl ?c0 ?c1 ?c2 ?c3 ?c4 ?c5 ?_; (case c0 => rw [List.length_map, HLD.out, Nat.mul_one]); (case c1 => have HK := texts_kept (texts_alloc (texts_kept HT2.out H10.out.2 (fun j e => by cases e)) (.cells #[encStr s] 9)) H11.out.2 (fun j e => by have := (H10.out.1.lt j e).1; omega); exact drop_cells HK k); (case c2 => intro u hu; obtain ⟨_, _, rfl⟩ := List.mem_map.1 hu; rfl); (case c3 => unfold maxLen; omega); (case c4 => omega); (case c5 => have := HSZ.out; have := H10.out.2.size; have := H11.out.2.size; simp at this; omega); intro v12 w12 hown12 hgrow12 hnil12 hat12; have H12 := Lib.hid (And.intro hown12 hgrow12); clear hown12 hgrow12 hnil12 hat12))
          refine bodyPost_ret (v := v12) (by simp [results, Try.results43, go_sem]) rfl ⟨_, rfl, ?_, ?_⟩
          · rw [HF.out]
            unfold Texts
            rw [List.map_append, List.map_append, List.length_append, List.length_append, HLT.out, HLD.out]
            have := own_up H12.out.1 hB
            rwa [show (0 : Nat) + k = k from Nat.zero_add k, List.nil_append] at this
          · refine (((HB.out.grown H10.out.2 HSZ.out (fun j e => by cases e)).alloc (by have := HSZ.out; have := H10.out.2.size; omega) _).grown H11.out.2 (by have := HSZ.out; have := H10.out.2.size; simp; omega) (fun j e => (H10.out.1.lt _ e).1)).grown H12.out.2 (by have := HSZ.out; have := H10.out.2.size; have := H11.out.2.size; simp at this; omega) (fun j e => (H11.out.1.lt _ e).1)
      · obtain rfl : k = n := by omega
        have hnk : l.length = k := HN.out
        have HD := Lib.hid (show l.drop k = [] from List.drop_eq_nil_of_le (by omega))
        have HF := Lib.hid (show insL l s = l.take k ++ [s] ++ l.drop k by rw [HI.out, if_neg (by rw [List.getElem?_eq_none (by omega)]; simp)])
        have hkk : k - k = 0 := Nat.sub_self k
        by_cases hck : cap = k
        · subst hck
          go_wp2_with (first | (at_builtin; refine wpList_append_own_at _ rfl (.tmp 34) (.tmp 37) 40 rfl w.heap.size 9 j0 (.string ⟨#[]⟩) 1 16 Try.underlying40 hj0 hy0 hy1 hy2 rfl (by decide) _ 0 [] rfl (World.ownsRow_nil _ _ _ _) ⟨g, 0, none⟩ cap cap ((l.take cap).map encStr) rfl ?c0 ?c1 ?c2 ?c3 ?c4 ?c5 ?_; (case c0 => rw [List.length_map, HLT.out, Nat.mul_one]); (case c1 => exact take_cells HT2.out cap); (case c2 => intro u hu; obtain ⟨_, _, rfl⟩ := List.mem_map.1 hu; rfl); (case c3 => unfold maxLen; omega); (case c4 => omega); (case c5 => exact HSZ.out); intro v10 w10 hown10 hgrow10 hnil10 hat10; have H10 := Lib.hid (And.intro hown10 hgrow10); clear hown10 hgrow10 hnil10 hat10) | (at_builtin; refine wpList_append_own_at _ rfl (.tmp 39) (.tmp 41) 40 rfl w.heap.size 9 j0 (.string ⟨#[]⟩) 1 16 Try.underlying40 hj0 hy0 hy1 hy2 rfl (by decide) _ _ _ rfl (H10.out.1.alloc _) ⟨w10.heap.size, 0, none⟩ 1 1 [encStr s] rfl rfl ?c1 ?c2 ?c3 ?c4 ?c5 ?_; (case c1 => exact cell_one_new _ _ _); (case c2 => intro u hu; simp at hu; subst hu; rfl); (case c3 => unfold maxLen; omega); (case c4 => omega); (case c5 => have := HSZ.out; have := H10.out.2.size; simp; omega); intro v11 w11 hown11 hgrow11 hnil11 hat11; have H11 := Lib.hid (And.intro hown11 hgrow11); clear hown11 hgrow11 hnil11 hat11) | (at_builtin; refine wpList_append_own_at _ rfl (.tmp 43) (.tmp 46) 40 rfl w.heap.size 9 j0 (.string ⟨#[]⟩) 1 16 Try.underlying40 hj0 hy0 hy1 hy2 rfl (by decide) _ _ _ rfl H11.out.1 ⟨g, 0, none⟩ 0 0 ((l.drop cap).map encStr) rfl ?c0 ?c1 ?c2 ?c3 ?c4 ?c5 ?_; (case c0 => rw [HD.out]; rfl); (case c1 => rw [HD.out]; intro j u hj; simp at hj); (case c2 => intro u hu; obtain ⟨_, _, rfl⟩ := List.mem_map.1 hu; rfl); (case c3 => unfold maxLen; omega); (case c4 => omega); (case c5 => have := HSZ.out; have := H10.out.2.size; have := H11.out.2.size; simp at this; omega); intro v12 w12 hown12 hgrow12 hnil12 hat12; have H12 := Lib.hid (And.intro hown12 hgrow12); clear hown12 hgrow12 hnil12 hat12))
          refine bodyPost_ret (v := v12) (by simp [results, Try.results43, go_sem]) rfl ⟨_, rfl, ?_, ?_⟩
          · rw [HF.out]
            unfold Texts
            rw [List.map_append, List.map_append, List.length_append, List.length_append, HLT.out, show (List.drop cap l).length = 0 by rw [HD.out]; rfl]
            have := own_up H12.out.1 hB
            rwa [show (0 : Nat) + cap = cap from Nat.zero_add cap, List.nil_append] at this
          · refine (((HB.out.grown H10.out.2 HSZ.out (fun j e => by cases e)).alloc (by have := HSZ.out; have := H10.out.2.size; omega) _).grown H11.out.2 (by have := HSZ.out; have := H10.out.2.size; simp; omega) (fun j e => (H10.out.1.lt _ e).1)).grown H12.out.2 (by have := HSZ.out; have := H10.out.2.size; have := H11.out.2.size; simp at this; omega) (fun j e => (H11.out.1.lt _ e).1)
        · have hlt : k < cap := by omega
          go_wp2_with (first | (at_builtin; refine wpList_append_own_at _ rfl (.tmp 34) (.tmp 37) 40 rfl w.heap.size 9 j0 (.string ⟨#[]⟩) 1 16 Try.underlying40 hj0 hy0 hy1 hy2 rfl (by decide) _ 0 [] rfl (World.ownsRow_nil _ _ _ _) ⟨g, 0, none⟩ k cap ((l.take k).map encStr) rfl ?c0 ?c1 ?c2 ?c3 ?c4 ?c5 ?_; (case c0 => rw [List.length_map, HLT.out, Nat.mul_one]); (case c1 => exact take_cells HT2.out k); (case c2 => intro u hu; obtain ⟨_, _, rfl⟩ := List.mem_map.1 hu; rfl); (case c3 => unfold maxLen; omega); (case c4 => omega); (case c5 => exact HSZ.out); intro v10 w10 hown10 hgrow10 hnil10 hat10; have H10 := Lib.hid (And.intro hown10 hgrow10); clear hown10 hgrow10 hnil10 hat10) | (at_builtin; refine wpList_append_own_at _ rfl (.tmp 39) (.tmp 41) 40 rfl w.heap.size 9 j0 (.string ⟨#[]⟩) 1 16 Try.underlying40 hj0 hy0 hy1 hy2 rfl (by decide) _ _ _ rfl (H10.out.1.alloc _) ⟨w10.heap.size, 0, none⟩ 1 1 [encStr s] rfl rfl ?c1 ?c2 ?c3 ?c4 ?c5 ?_; (case c1 => exact cell_one_new _ _ _); (case c2 => intro u hu; simp at hu; subst hu; rfl); (case c3 => unfold maxLen; omega); (case c4 => omega); (case c5 => have := HSZ.out; have := H10.out.2.size; simp; omega); intro v11 w11 hown11 hgrow11 hnil11 hat11; have H11 := Lib.hid (And.intro hown11 hgrow11); clear hown11 hgrow11 hnil11 hat11) | (at_builtin; refine wpList_append_own_at _ rfl (.tmp 43) (.tmp 46) 40 rfl w.heap.size 9 j0 (.string ⟨#[]⟩) 1 16 Try.underlying40 hj0 hy0 hy1 hy2 rfl (by decide) _ _ _ rfl H11.out.1 ⟨g, k, none⟩ 0 (cap - k) ((l.drop k).map encStr) rfl ?c0 ?c1 ?c2 ?c3 ?c4 ?c5 ?_; (case c0 => rw [HD.out]; rfl); (case c1 => rw [HD.out]; intro j u hj; simp at hj); (case c2 => intro u hu; obtain ⟨_, _, rfl⟩ := List.mem_map.1 hu; rfl); (case c3 => unfold maxLen; omega); (case c4 => omega); (case c5 => have := HSZ.out; have := H10.out.2.size; have := H11.out.2.size; simp at this; omega); intro v12 w12 hown12 hgrow12 hnil12 hat12; have H12 := Lib.hid (And.intro hown12 hgrow12); clear hown12 hgrow12 hnil12 hat12))
          refine bodyPost_ret (v := v12) (by simp [results, Try.results43, go_sem]) rfl ⟨_, rfl, ?_, ?_⟩
          · rw [HF.out]
            unfold Texts
            rw [List.map_append, List.map_append, List.length_append, List.length_append, HLT.out, show (List.drop k l).length = 0 by rw [HD.out]; rfl]
            have := own_up H12.out.1 hB
            rwa [show (0 : Nat) + k = k from Nat.zero_add k, List.nil_append] at this
          · refine (((HB.out.grown H10.out.2 HSZ.out (fun j e => by cases e)).alloc (by have := HSZ.out; have := H10.out.2.size; omega) _).grown H11.out.2 (by have := HSZ.out; have := H10.out.2.size; simp; omega) (fun j e => (H10.out.1.lt _ e).1)).grown H12.out.2 (by have := HSZ.out; have := H10.out.2.size; have := H11.out.2.size; simp at this; omega) (fun j e => (H11.out.1.lt _ e).1)
theorem insert_nil (s : List UInt8) (w : World) (B : Nat) (hB : B ≤ w.heap.size) :
    Calls Try.prog 43 #[.slice none 0 0, .string ⟨s.toArray⟩] w fun e w' => ∃ v', e = .returned v' ∧ Texts w' B v' (insL [] s) ∧ Below w.heap.size w w' := by
  obtain ⟨j0, hj0, hy0, hy1, hy2⟩ := info_parts str_info
  go_enter Try.func43, Try.ntmps43
  go_wp2_with fail
  go_loopw [5] (fun a wr => a = .int .i64 0 ∧ wr = w) (fun _ _ => 0)
  case atStart => exact ⟨rfl, rfl⟩
  case round =>
    obtain ⟨rfl, rfl⟩ := hrel
    go_wp2_with (first | (at_builtin; refine wpList_append_nil rfl (.tmp 34) (.tmp 37) 40 rfl (.slice none 0 0) rfl rfl (append_nil_any none 0 0 (Nat.le_refl _) _) ?_) | (at_builtin; refine wpList_append_own_at _ rfl (.tmp 39) (.tmp 41) 40 rfl wr.heap.size 9 j0 (.string ⟨#[]⟩) 1 16 Try.underlying40 hj0 hy0 hy1 hy2 rfl (by decide) _ 0 [] rfl (World.ownsRow_nil _ _ _ _) ⟨wr.heap.size, 0, none⟩ 1 1 [encStr s] rfl rfl ?c1 ?c2 ?c3 ?c4 ?c5 ?_; (case c1 => exact cell_one_new _ _ _); (case c2 => intro u hu; simp at hu; subst hu; rfl); (case c3 => unfold maxLen; omega); (case c4 => omega); (case c5 => simp); intro v11 w11 hown11 hgrow11 hnil11 hat11; have H11 := Lib.hid (And.intro hown11 hgrow11); obtain ⟨o11, c11, hv11, hc11⟩ := texts_val (show Texts w11 wr.heap.size v11 [s] from hown11); subst hv11; clear hown11 hgrow11 hnil11 hat11) | (at_builtin; refine wpList_append_nil rfl (.tmp 43) (.tmp 46) 40 rfl (.slice o11 [s].length c11) rfl rfl (append_nil_any o11 [s].length c11 hc11 _) ?_))
    exact bodyPost_ret (v := .slice o11 1 c11) (by simp [results, Try.results43, go_sem]) rfl ⟨_, rfl, own_up H11.out.1 hB, ((Below.refl wr.heap.size wr).alloc (Nat.le_refl _) _).grown H11.out.2 (by simp) (fun j e => by cases e)⟩
theorem insert_any (v : Value) (l : List (List UInt8)) (s : List UInt8) (w : World) (B : Nat) (hB : B ≤ w.heap.size) (h : Texts w B v l) (hl : l.length ≤ 1000) :
    Calls Try.prog 43 #[v, .string ⟨s.toArray⟩] w fun e w' => ∃ v', e = .returned v' ∧ Texts w' B v' (insL l s) ∧ Below w.heap.size w w' := by
  rcases h.2 with ⟨rfl, h0⟩ | ⟨g, cap, cur, rfl, hBg, hblk, h1, h2, h3, h4⟩
  · obtain rfl : l = [] := List.eq_nil_of_length_eq_zero h0
    exact insert_nil s w B hB
  · exact insert_some g cap l s w B hB h (Array.getElem?_eq_some_iff.1 hblk).1 h1 hl
end Go.Proofs.Ytlionhmmefghmaa
