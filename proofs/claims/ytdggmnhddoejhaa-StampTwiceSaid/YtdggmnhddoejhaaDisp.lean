/-
  disputed: are the events of a group not all copies?
-/
import Derived.Test.YtdggmnhddoejhaaById
namespace Go.Proofs.Ytdggmnhddoejhaa
open Go.RowKit Go.Sort Go.Lib
set_option linter.unusedSimpArgs false
set_option linter.unusedVariables false

theorem enterDis : ∀ args w, (callFunc 52 args).run Try.prog w = .ok (.enter 52 args) w := enters_of Try.func52 (by kernel_rfl) rfl
def pDis (L : Nat → St) (C : Nat → Int) (f i : Nat) : Bool := !decide (L i = L f) || !decide (C i = C f)
theorem contains_row {n : Nat} {w : World} {Bs Bc bx bf bc c c' q cap : Nat} {o o' : Option Addr} {L : Nat → St} {C : Nat → Int} {g : List Nat} {f : Nat} (hs : RowS w Bs o n L) (hC : RowI w Bc o' n C) (hBs : Bs ≤ w.heap.size) (hBc : Bc ≤ w.heap.size)
    (hbx : w.cell? ⟨bx, 0, none⟩ = some (.slice o n c)) (hbf : w.cell? ⟨bf, 0, none⟩ = some (.int .i64 (f : Int))) (hbc : w.cell? ⟨bc, 0, none⟩ = some (.slice o' n c')) (h1 : bx < w.heap.size) (h2 : bf < w.heap.size) (h3 : bc < w.heap.size)
    (hf : f < n) (hn : n ≤ 1000000) (hall : ∀ i ∈ g, i < n) (hlen : g.length ≤ 1000000) (hg : ∀ j x : Nat, g[j]? = some x → w.cell? ⟨q, j, none⟩ = some (.int .i64 (x : Int))) :
    Calls Try.prog 51 #[.slice (some ⟨q, 0, none⟩) g.length cap, .func (.func 52) #[] #[.pointer (some ⟨bx, 0, none⟩), .pointer (some ⟨bf, 0, none⟩), .pointer (some ⟨bc, 0, none⟩)]] w fun e w' => e = .returned (.bool (g.any (pDis L C f))) ∧ ∃ m, w' = w.drewN m := by
  haveI : Inhabited (Fin n) := ⟨⟨f, hf⟩⟩
  obtain ⟨D, rfl⟩ := lift_list g hall
  have hp : PredAt Try.prog 52 #[.pointer (some ⟨bx, 0, none⟩), .pointer (some ⟨bf, 0, none⟩), .pointer (some ⟨bc, 0, none⟩)] (encF (n := n)) (fun x => pDis L C f x.val) w := by
    intro W x hb
    exact closure_dis W Bs Bc bx bc bf c c' o o' n n L C (hs.below hb hBs) (hC.below hb hBc) ((hb.cell (p := ⟨bx, 0, none⟩) h1).trans hbx) ((hb.cell (p := ⟨bc, 0, none⟩) h3).trans hbc) x.val f ((hb.cell (p := ⟨bf, 0, none⟩) h2).trans hbf) x.isLt hf (by omega)
  have h := AnyE.slices_ContainsFunc Try.contL (encF (n := n)) (fun x => pDis L C f x.val) 52 _ enterDis q 0 (D.map Fin.val).length cap D w hp (by simp) (by omega) (fun j hj => by
    rw [Nat.zero_add, getElem!_pos D j hj]
    exact hg j D[j].val (by rw [List.getElem?_map, List.getElem?_eq_getElem hj]; rfl))
  refine Calls.mono h ?_
  rintro e w' ⟨rfl, m, rfl⟩
  refine ⟨ret_bool ?_, m, rfl⟩
  rw [List.length_map, List.take_length, List.any_map]; rfl

set_option maxHeartbeats 1000000 in
theorem disputed_any (o o' : Option Addr) (n c c' Bs Bc B : Nat) (L : Nat → St) (C : Nat → Int) (x : Value) (g : List Nat) (w : World) (hs : RowS w Bs o n L) (hC : RowI w Bc o' n C) (hBs : Bs ≤ w.heap.size) (hBc : Bc ≤ w.heap.size) (hn : n ≤ 1000000)
    (hne : g ≠ []) (hall : ∀ i ∈ g, i < n) (hlen : g.length ≤ 1000000) (hx : w.ownsRow B 3 1 x g.length (g.map iv)) :
    Calls Try.prog 40 #[.slice o n c, .slice o' n c', x] w fun e w' => e = .returned (.bool (gdis L C g)) ∧ RowKit.Below w.heap.size w w' := by
  obtain ⟨p, cap, rfl, hcells⟩ := own_form hx
  obtain ⟨q, rfl, hqB, hql, hc0⟩ := hcells 0 (hd g) (by cases g with | nil => exact absurd rfl hne | cons a t => rfl)
  have hcells' : ∀ j y : Nat, g[j]? = some y → w.cell? ⟨q, j, none⟩ = some (.int .i64 (y : Int)) := fun j y hy => by
    obtain ⟨q', hq', _, _, h⟩ := hcells j y hy
    injection hq' with hq'
    injection hq' with hq'
    subst hq'
    exact h
  have hf : hd g < n := hall _ (hd_mem hne)
  have hgl : 0 < g.length := List.length_pos_iff.2 hne
  have HG := Lib.hid (show g.any (pDis L C (hd g)) = gdis L C g from rfl)
  generalize hd g = f at *
  have hb := bAl (bAl (bAl (RowKit.Below.refl _ w) (.cells #[.slice o n c] 31)) (.cells #[.slice o' n c'] 28)) (.cells #[.int .i64 (f : Int)] 3)
  have hcon := contains_row (w := ((w.alloc (.cells #[.slice o n c] 31)).alloc (.cells #[.slice o' n c'] 28)).alloc (.cells #[.int .i64 (f : Int)] 3)) (bx := w.heap.size) (bc := w.heap.size + 1) (bf := w.heap.size + 1 + 1) (c := c) (c' := c') (q := q) (cap := cap) (g := g) (f := f) (hs.below hb hBs) (hC.below hb hBc) (by simp; omega) (by simp; omega)
    ((((Blk.new w _ _).alloc _).alloc _).cell 0) ((Blk.newAt (by simp)).cell 0) (((Blk.newAt (by simp)).alloc _).cell 0) (by simp; omega) (by simp) (by simp) hf hn hall hlen (fun j y hy => (hb.cell (p := ⟨q, j, none⟩) hql).trans (hcells' j y hy))
  have HCON := Lib.hid hcon
  have HB := Lib.hid hb
  have hg0 : (0 : Int) < (g.length : Int) := by omega
  clear hcells hcells' hs hC hcon hb hx hall hne
  go_enter Try.func40, Try.ntmps40
  go_wp2_with (go_at_call 51; refine HCON.out.mono ?_; rintro e w' ⟨rfl, m, rfl⟩)
  go_ret
  exact ⟨ret_bool HG.out, bDr HB.out m⟩
end Go.Proofs.Ytdggmnhddoejhaa
