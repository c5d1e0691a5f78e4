/-
  The canonical list of a canonical list; the three rows that grow together.
-/
import Derived.Test.YtdggmnhddoejhaaLawKit
import Derived.Test.YtdggmnhddoejhaaRefKnown
import Derived.Deep.AppendLies
namespace Go.Proofs.Ytdggmnhddoejhaa
open Go.RowKit
set_option linter.unusedSimpArgs false
set_option linter.unusedVariables false

theorem getD_at {a : List Nat} {i : Nat} (h : i < a.length) : a[i]? = some (a.getD i 0) := by rw [List.getD_eq_getElem?_getD, List.getElem?_eq_getElem h]; rfl
theorem canon_lt {L : Nat → St} {C : Nat → Int} {n : Nat} {a : List Nat} (h : IsCanon L C n a) {k i : Nat} (hki : k < i) (hi : i < a.length) : stLt (L (a.getD k 0)) (L (a.getD i 0)) := by
  have h1 := List.pairwise_iff_getElem.1 h.asc k i (by omega) hi hki
  rw [List.getD_eq_getElem?_getD, List.getD_eq_getElem?_getD, List.getElem?_eq_getElem hi, List.getElem?_eq_getElem (show k < a.length by omega)]
  exact h1
theorem canon_mem {L : Nat → St} {C : Nat → Int} {n : Nat} {a : List Nat} (h : IsCanon L C n a) {i : Nat} (hi : i < a.length) : a.getD i 0 < n ∧ cnts L C n (a.getD i 0) = true := (h.mem _).1 (List.mem_of_getElem? (getD_at hi))
theorem canon_calm {L : Nat → St} {C : Nat → Int} {n : Nat} {a : List Nat} (h : IsCanon L C n a) {i j : Nat} (hi : i < a.length) (hj : j < a.length) : dis (L (a.getD i 0)) (L (a.getD j 0)) (C (a.getD i 0)) (C (a.getD j 0)) = false := by
  have h1 := (canon_mem h hi).2
  have h2 := (canon_mem h hj)
  have h3 := (cnts_iff L C n _).1 h2.2
  have h4 := ((cnts_iff L C n _).1 h1).2 _ h2.1
  unfold bars at h4
  rw [h3.1] at h4
  cases hd : dis (L (a.getD i 0)) (L (a.getD j 0)) (C (a.getD i 0)) (C (a.getD j 0))
  · rfl
  · rw [hd] at h4; simp at h4
/-- two events of the list have not one identity -/
theorem canon_other {L : Nat → St} {C : Nat → Int} {n : Nat} {a : List Nat} (h : IsCanon L C n a) {k i : Nat} (hki : k < i) (hi : i < a.length) : (L (a.getD k 0)).2 ≠ (L (a.getD i 0)).2 := by
  intro e
  have h1 := canon_calm h (show k < a.length by omega) hi
  have h2 := canon_lt h hki hi
  unfold dis at h1
  rw [decide_eq_true e, Bool.true_and, Bool.or_eq_false_iff, decide_eq_false_iff_not] at h1
  have h3 : (L (a.getD k 0)).1 = (L (a.getD i 0)).1 := Classical.byContradiction fun g => h1.1 g
  have h4 : L (a.getD k 0) = L (a.getD i 0) := Prod.ext h3 e
  rw [h4] at h2
  exact stLt_irr _ h2
theorem canon_twice {L : Nat → St} {C : Nat → Int} {n : Nat} {a : List Nat} (h : IsCanon L C n a) : IsCanon (lsF (a.map L)) (csF (a.map C)) a.length (List.range a.length) := by
  have eL : ∀ i, i < a.length → lsF (a.map L) i = L (a.getD i 0) := fun i hi => by unfold lsF; rw [List.getD_eq_getElem?_getD, List.getElem?_map, getD_at hi]; rfl
  have eC : ∀ i, i < a.length → csF (a.map C) i = C (a.getD i 0) := fun i hi => by unfold csF; rw [List.getD_eq_getElem?_getD, List.getElem?_map, getD_at hi]; rfl
  refine ⟨fun i => ?_, ?_⟩
  · rw [List.mem_range]
    refine ⟨fun hi => ⟨hi, (cnts_iff _ _ _ _).2 ⟨?_, fun j hj => ?_⟩⟩, fun hi => hi.1⟩
    · rw [eL i hi]; exact ((cnts_iff L C n _).1 (canon_mem h hi).2).1
    · unfold bars
      rw [eL i hi, eL j hj, eC i hi, eC j hj, canon_calm h hi hj]
      have : (decide (j < i) && decide (L (a.getD j 0) = L (a.getD i 0))) = false := by
        rw [Bool.and_eq_false_iff]
        by_cases hji : j < i
        · exact .inr (decide_eq_false fun e => canon_other h hji hi (congrArg Prod.snd e))
        · exact .inl (decide_eq_false hji)
      rw [this, Bool.or_false, Bool.and_false]
  · rw [List.pairwise_iff_getElem]
    intro i j hi hj hij
    simp only [List.length_range] at hi hj
    simp only [List.getElem_range]
    rw [eL i hi, eL j hj]
    exact canon_lt h hij hj

/-- the cells at the head of block B -/
def News (W : World) (B : Nat) (l : List Value) : Prop := ∀ j u, l[j]? = some u → W.cell? ((⟨B, 0, none⟩ : Addr).add j) = some u
theorem add_block (B j : Nat) : ((⟨B, 0, none⟩ : Addr).add j).block = B := by unfold Addr.add; split <;> rfl
theorem nAt (W : World) (cs : Array Value) (t : TypeId) (B : Nat) (hB : B = W.heap.size) : News (W.alloc (.cells cs t)) B cs.toList := fun j u hu => by
  subst hB
  have e : ((⟨W.heap.size, 0, none⟩ : Addr).add j) = ⟨W.heap.size, j, none⟩ := by unfold Addr.add; split <;> simp_all
  have h := (Blk.new W t cs).cell j
  rw [e, h]
  simpa using hu
theorem nAt2 (W : World) (cs : Array Value) (t : TypeId) (B : Nat) (l : List Value) (hB : B = W.heap.size) (hl : cs.toList = l) : News (W.alloc (.cells cs t)) B l := by subst hl; exact nAt W cs t B hB
theorem nUp (W : World) (o : Obj) (B : Nat) (l : List Value) (hB : B < W.heap.size) (h : News W B l) : News (W.alloc o) B l := fun j u hu =>
  (((RowKit.Below.refl W.heap.size W).alloc (Nat.le_refl _) o).cell (by rw [add_block]; exact hB)).trans (h j u hu)
theorem nFar {W W' : World} {row : Option Nat} (hg : W.grownBy W' row) (B : Nat) (l : List Value) (hB : B < W.heap.size) (hn : some B ≠ row) (h : News W B l) : News W' B l := fun j u hu =>
  (hg.cell_far _ (by rw [add_block]; exact hB) (by rw [add_block]; exact hn)).trans (h j u hu)

/-- the three rows that the loop fills -/
structure Mt (w : World) (vm vc va : Value) (ls : List St) (cs zs : List Int) (wr : World) : Prop where
  rl : wr.ownsRow w.heap.size 23 3 vm ls.length (stCells ls)
  rc : wr.ownsRow w.heap.size 3 1 vc cs.length (cs.map (Value.int .i64))
  ra : wr.ownsRow w.heap.size 3 1 va zs.length (zs.map (Value.int .i64))
  ap : vc.ownBlock = none ∨ vc.ownBlock ≠ va.ownBlock
  pa : va.ownBlock = none ∨ va.ownBlock ≠ vc.ownBlock
  bl : RowKit.Below w.heap.size w wr
theorem Mt.alloc {w : World} {vm vc va : Value} {ls : List St} {cs zs : List Int} {w1 : World} (h : Mt w vm vc va ls cs zs w1) (x : Obj) : Mt w vm vc va ls cs zs (w1.alloc x) := ⟨h.rl.alloc x, h.rc.alloc x, h.ra.alloc x, h.ap, h.pa, h.bl.alloc h.bl.size x⟩
theorem Mt.later {w : World} {vm vc va : Value} {ls : List St} {cs zs : List Int} {w1 w2 : World} (h : Mt w vm vc va ls cs zs w1) (g : Gro w1 w2) : Mt w vm vc va ls cs zs w2 :=
  ⟨own_later h.rl g.below, own_later h.rc g.below, own_later h.ra g.below, h.ap, h.pa, h.bl.trans (g.below.mono h.bl.size)⟩
theorem Mt.putL {w : World} {vm vc va vm' : Value} {ls : List St} {cs zs : List Int} {x : St} {w1 w2 : World} (h : Mt w vm vc va ls cs zs w1)
    (h1 : w2.ownsRow w.heap.size 23 3 vm' (ls.length + 1) (stCells ls ++ [.int .i64 x.1, .int .i64 x.2.1, .int .i64 x.2.2])) (g1 : w1.grownBy w2 vm.ownBlock) : Mt w vm' vc va (ls ++ [x]) cs zs w2 :=
  ⟨by rw [stCells_snoc]; simpa using h1, h.rc.kept g1 (own_apart h.rc h.rl (by decide)), h.ra.kept g1 (own_apart h.ra h.rl (by decide)), h.ap, h.pa, h.bl.grown g1 h.bl.size (fun j hj => (h.rl.lt j hj).1)⟩
theorem Mt.putC {w : World} {vm vc va : Value} {ls : List St} {cs zs : List Int} {d : Int} {w1 w2 : World} {g cap m : Nat} (h : Mt w vm vc va ls cs zs w1)
    (h1 : w2.ownsRow w.heap.size 3 1 (.slice (some ⟨g, 0, none⟩) m cap) (cs.length + 1) (cs.map (Value.int .i64) ++ [.int .i64 d])) (g1 : w1.grownBy w2 vc.ownBlock) (hg : vc.ownBlock = some g ∨ g = w1.heap.size) : Mt w vm (.slice (some ⟨g, 0, none⟩) m cap) va ls (cs ++ [d]) zs w2 := by
  have hne : (Value.slice (some ⟨g, 0, none⟩) m cap).ownBlock ≠ va.ownBlock := fun e => by
    have e' : va.ownBlock = some g := e.symm
    rcases hg with hg | hg
    · rcases h.ap with k | k
      · rw [hg] at k; cases k
      · exact k (hg.trans e'.symm)
    · have := (h.ra.lt g e').2; omega
  exact ⟨h.rl.kept g1 (own_apart h.rl h.rc (by decide)), by simpa using h1, h.ra.kept g1 h.pa, .inr hne, .inr fun e => hne e.symm, h.bl.grown g1 h.bl.size (fun j hj => (h.rc.lt j hj).1)⟩
theorem Mt.putA {w : World} {vm vc va : Value} {ls : List St} {cs zs : List Int} {d : Int} {w1 w2 : World} {g cap m : Nat} (h : Mt w vm vc va ls cs zs w1)
    (h1 : w2.ownsRow w.heap.size 3 1 (.slice (some ⟨g, 0, none⟩) m cap) (zs.length + 1) (zs.map (Value.int .i64) ++ [.int .i64 d])) (g1 : w1.grownBy w2 va.ownBlock) (hg : va.ownBlock = some g ∨ g = w1.heap.size) : Mt w vm vc (.slice (some ⟨g, 0, none⟩) m cap) ls cs (zs ++ [d]) w2 := by
  have hne : (Value.slice (some ⟨g, 0, none⟩) m cap).ownBlock ≠ vc.ownBlock := fun e => by
    have e' : vc.ownBlock = some g := e.symm
    rcases hg with hg | hg
    · rcases h.pa with k | k
      · rw [hg] at k; cases k
      · exact k (hg.trans e'.symm)
    · have := (h.rc.lt g e').2; omega
  exact ⟨h.rl.kept g1 (own_apart h.rl h.ra (by decide)), h.rc.kept g1 h.ap, by simpa using h1, .inr fun e => hne e.symm, .inr hne, h.bl.grown g1 h.bl.size (fun j hj => (h.ra.lt j hj).1)⟩
section
variable (w : World) {ops : Array Oper} {o : Oper} {a : Act} {K : Act → World → Prop} {Q : Exit → Act → World → Prop} {E : Prop}
theorem tstepL (hgd : o.guard = none) (s x : Operand)
    (ho : o.op = .call { callee := .builtin .append, args := #[s, x], argTypes := #[31, 31] }) {w0 : World} {vm vc va : Value} {ls : List St} {cs zs : List Int} (hm : Mt w0 vm vc va ls cs zs w) (hl : ls.length ≤ 1000)
    (hs : a.eval s = vm) (B : Nat) (c : Nat) (y : St) (hx : a.eval x = .slice (some ⟨B, 0, none⟩) 1 c) (hnews : News w B [Value.int .i64 y.1, .int .i64 y.2.1, .int .i64 y.2.2])
    (h : ∀ v' w', Mt w0 v' vc va (ls ++ [y]) cs zs w' → w.grownBy w' vm.ownBlock → K (a.put o.dst v') w') : if Region.wanted o (yielded ops a.tmps) = true then Oper.wp Try.prog o a w K Q else E := by
  obtain ⟨j0, hj0, hy0, hy1, hy2⟩ := info_parts st_info
  exact step_append_lies w hgd s x _ ho w0.heap.size 23 j0 (.agg #[.int .i64 0, .int .i64 0, .int .i64 0]) 3 24 Try.underlying31 hj0 hy0 hy1 hy2 rfl (by decide) _ _ _ hs hm.rl ⟨B, 0, none⟩ 1 c _ hx rfl hnews three_one (by decide) (by unfold maxLen; omega) (by omega) hm.bl.size _ rfl
    fun g cap w' h1 h2 _ _ => h _ _ (hm.putL h1 h2) h2
theorem tstepC (hgd : o.guard = none) (s x : Operand)
    (ho : o.op = .call { callee := .builtin .append, args := #[s, x], argTypes := #[28, 28] }) {w0 : World} {vm vc va : Value} {ls : List St} {cs zs : List Int} (hm : Mt w0 vm vc va ls cs zs w) (hl : cs.length ≤ 1000)
    (hs : a.eval s = vc) (B : Nat) (c : Nat) (y : Int) (hx : a.eval x = .slice (some ⟨B, 0, none⟩) 1 c) (hnews : News w B [Value.int .i64 y])
    (h : ∀ v' w', Mt w0 vm v' va ls (cs ++ [y]) zs w' → w.grownBy w' vc.ownBlock → K (a.put o.dst v') w') : if Region.wanted o (yielded ops a.tmps) = true then Oper.wp Try.prog o a w K Q else E := by
  obtain ⟨i0, hi0, hz0, hz1, hz2⟩ := info_parts int_info
  exact step_append_lies w hgd s x _ ho w0.heap.size 3 i0 (.int .i64 0) 1 8 Try.underlying28 hi0 hz0 hz1 hz2 rfl (by decide) _ _ _ hs hm.rc ⟨B, 0, none⟩ 1 c _ hx rfl hnews (by intro u hu; simp at hu; subst hu; rfl) (by decide) (by unfold maxLen; omega) (by omega) hm.bl.size _ rfl
    fun g cap w' h1 h2 h3 _ => h _ _ (hm.putC h1 h2 h3) h2
theorem tstepA (hgd : o.guard = none) (s x : Operand)
    (ho : o.op = .call { callee := .builtin .append, args := #[s, x], argTypes := #[28, 28] }) {w0 : World} {vm vc va : Value} {ls : List St} {cs zs : List Int} (hm : Mt w0 vm vc va ls cs zs w) (hl : zs.length ≤ 1000)
    (hs : a.eval s = va) (B : Nat) (c : Nat) (y : Int) (hx : a.eval x = .slice (some ⟨B, 0, none⟩) 1 c) (hnews : News w B [Value.int .i64 y])
    (h : ∀ v' w', Mt w0 vm vc v' ls cs (zs ++ [y]) w' → w.grownBy w' va.ownBlock → K (a.put o.dst v') w') : if Region.wanted o (yielded ops a.tmps) = true then Oper.wp Try.prog o a w K Q else E := by
  obtain ⟨i0, hi0, hz0, hz1, hz2⟩ := info_parts int_info
  exact step_append_lies w hgd s x _ ho w0.heap.size 3 i0 (.int .i64 0) 1 8 Try.underlying28 hi0 hz0 hz1 hz2 rfl (by decide) _ _ _ hs hm.ra ⟨B, 0, none⟩ 1 c _ hx rfl hnews (by intro u hu; simp at hu; subst hu; rfl) (by decide) (by unfold maxLen; omega) (by omega) hm.bl.size _ rfl
    fun g cap w' h1 h2 h3 _ => h _ _ (hm.putA h1 h2 h3) h2
end
end Go.Proofs.Ytdggmnhddoejhaa
