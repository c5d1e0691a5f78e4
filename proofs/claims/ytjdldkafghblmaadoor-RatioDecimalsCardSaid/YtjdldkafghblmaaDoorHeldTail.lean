/-
  A region that draws its order and ends in operations in a forced order: ahead of these its loads may be taken first wherever one condition on the world gives what they read, and the calls may write. The condition is not asked for behind the last operations.
-/
import Derived.Test.YtjdldkafghblmaaDoorQuietTail
import Derived.Deep.RegionHeld3
namespace Go.Proofs.YtjdldkafghblmaaDoor
open Go Go.RowKit
set_option linter.unusedSimpArgs false
set_option linter.unusedVariables false

section
variable {P : Program} {ops : Array Oper} {md : Region.Mode} {S : World → Prop} {Q : Exit → Act → World → Prop}

/-- the first f picks all lie below n, behind each the condition holds; then L -/
def HeadH (P : Program) (md : Region.Mode) (ops : Array Oper) (Q : Exit → Act → World → Prop) (S : World → Prop) (n : Nat) (L : Array Bool → Act → World → Prop) : Nat → Array Bool → Act → World → Prop
  | 0, s, a, w => L s a w
  | f + 1, s, a, w => Region.ready md ops s ≠ [] ∧ ∀ i, i ∈ Region.ready md ops s → i < n ∧ wpOp P ops Q i (fun a' w' => S w' ∧ HeadH P md ops Q S n L f (s.setIfInBounds i true) a' w') a w
theorem HeadH.any {n g : Nat} {L : Array Bool → Act → World → Prop} (hL : ∀ s a w, L s a w → wpAny P md ops Q g s a w) : ∀ (f : Nat) (s : Array Bool) (a : Act) (w : World), HeadH P md ops Q S n L f s a w → wpAny P md ops Q (f + g) s a w
  | 0, s, a, w, h => by rw [Nat.zero_add]; exact hL s a w h
  | f + 1, s, a, w, h => by
    rw [Nat.succ_add]
    exact ⟨fun h0 => absurd h0 h.1, fun i hi => wpOp_mono (fun a' w' h' => HeadH.any hL f _ a' w' h'.2) (h.2 i hi).2⟩
theorem HeadH.first {n i : Nat} {oi : Oper} {v : Value} {L : Array Bool → Act → World → Prop} (hi : ops[i]? = some oi) (hsel : ∀ (j : Nat) (o : Oper) cs b, ops[j]? = some o → o.op ≠ .select cs b)
    (hQ : ∀ c a w, Q (.panic c) (a.put oi.dst v) w → Q (.panic c) a w) (hs : Region.sinkB md ops n = true) (hc : Region.chainB md ops n = true) (hn : n < ops.size) (hin : i < n) (hL : ∀ s a w, L s a w → ∀ j, j ∈ Region.ready md ops s → n ≤ j) (f : Nat) :
    ∀ s a w, HeadInv md ops n s → (∀ j oj, ops[j]? = some oj → j ≠ i → s.getD j true = false → (∀ e, e ∈ oj.after → Region.binds md e = true → e.on ≠ i) → oi.apart ops oj = true) →
      i ∈ Region.ready md ops s → YieldsIf P ops S oi v a → S w → HeadH P md ops Q S n L f (s.setIfInBounds i true) (a.put oi.dst v) w → HeadH P md ops Q S n L (f + 1) s a w := by
  induction f with
  | zero =>
    intro s a w inv _ hr hy hS H
    refine ⟨List.ne_nil_of_mem hr, fun j hj => ?_⟩
    have hjn : j < n := Nat.lt_of_not_le fun h => tail_waits hs hc hn inv _ i rfl hin (mem_ready.1 hr).1 j h hj
    refine ⟨hjn, ?_⟩
    rcases Nat.decEq j i with hji | rfl
    · have := hL _ _ _ H j (ready_mono hj hji)
      omega
    · exact hy.wpOp hi hS ⟨hS, H⟩
  | succ f ih =>
    intro s a w inv hfree hr hy hS H
    refine ⟨List.ne_nil_of_mem hr, fun j hj => ?_⟩
    have hjn : j < n := Nat.lt_of_not_le fun h => tail_waits hs hc hn inv _ i rfl hin (mem_ready.1 hr).1 j h hj
    refine ⟨hjn, ?_⟩
    rcases Nat.decEq j i with hji | rfl
    · obtain ⟨hjun, oj, hoj, hall⟩ := mem_ready.1 hj
      have hno : ∀ e, e ∈ oj.after → Region.binds md e = true → e.on ≠ i := fun e he hb heq => by
        have h1 := hall e he hb
        rw [heq, getD_both (mem_ready.1 hr).1] at h1
        cases h1
      have h2 := wpOp_putIf hoj (hfree j oj hoj hji hjun hno) (fun cs b => hsel i oi cs b hi) (fun cs b => hsel j oj cs b hoj) hQ hy (H.2 j (ready_mono hj hji)).2
      refine wpOp_mono (fun a' w' h3 => ⟨h3.2.1, ih (s.setIfInBounds j true) a' w' (inv.set hj hjn) (fun k ok hk hki hun hn' => hfree k ok hk hki ?_ hn') (ready_mono hr (Ne.symm hji)) h3.1 h3.2.1 ?_⟩) h2
      · rcases Nat.decEq j k with hjk | rfl
        · rwa [getD_set_ne true hjk] at hun
        · exact hjun
      · rw [Array.setIfInBounds_comm _ _ hji]
        exact h3.2.2
    · exact hy.wpOp hi hS ⟨hS, H⟩

/-- the walk: what is left of the head behind the picks s, then the tail in its order -/
def HeadW (P : Program) (md : Region.Mode) (ops : Array Oper) (Q : Exit → Act → World → Prop) (S : World → Prop) (n g : Nat) (R : Act → World → Prop) (f : Nat) (s : Array Bool) (a : Act) (w : World) : Prop :=
  HeadInv md ops n s → HeadH P md ops Q S n (fun s' a' w' => Region.seqB md ops g n s' = true ∧ R a' w') f s a w
theorem HeadW.take {n g i f : Nat} {oi : Oper} {v : Value} {R : Act → World → Prop} {s : Array Bool} {a : Act} {w : World} (hi : ops[i]? = some oi) (hB : (Region.noSelect ops && Region.sinkB md ops n && Region.chainB md ops n && decide (n < ops.size) && decide (i < n) && Region.free md ops s i && (Region.ready md ops s).contains i) = true)
    (hQ : ∀ c a w, Q (.panic c) (a.put oi.dst v) w → Q (.panic c) a w) (hy : YieldsIf P ops S oi v a) (hS : S w) (h : HeadW P md ops Q S n g R f (s.setIfInBounds i true) (a.put oi.dst v) w) : HeadW P md ops Q S n g R (f + 1) s a w := by
  simp only [Bool.and_eq_true, decide_eq_true_eq] at hB
  obtain ⟨⟨⟨⟨⟨⟨h1, h2⟩, h3⟩, h4⟩, h5⟩, h6⟩, h7⟩ := hB
  have hr : i ∈ Region.ready md ops s := List.contains_iff_mem.1 h7
  intro inv
  exact HeadH.first hi (Region.noSelect_spec h1) hQ h2 h3 h4 h5 (fun s a w hL => seqB_ready hL.1) f s a w inv (Region.free_spec hi h6) hr hy hS (h (inv.set hr h5))
theorem HeadW.one {n g i f : Nat} {o : Oper} {R : Act → World → Prop} {s : Array Bool} {a : Act} {w : World} (hi : ops[i]? = some o) (hB : (decide (Region.ready md ops s = [i]) && decide (i < n)) = true)
    (h : ∀ K' : Act → World → Prop, Shut (∀ a w, S w → HeadW P md ops Q S n g R f (s.setIfInBounds i true) a w → K' a w) → if Region.wanted o (yielded ops a.tmps) = true then Oper.wp P o a w K' Q else K' (a.put o.dst undef) w) : HeadW P md ops Q S n g R (f + 1) s a w := by
  simp only [Bool.and_eq_true, decide_eq_true_eq] at hB
  intro inv
  have hr : i ∈ Region.ready md ops s := by rw [hB.1]; exact List.mem_cons_self ..
  refine ⟨List.ne_nil_of_mem hr, fun j hj => ?_⟩
  obtain rfl : j = i := by rw [hB.1] at hj; simpa using hj
  refine ⟨hB.2, wpOp_step hi fun K' hK => h K' ?_⟩
  exact fun a w hS hW => hK a w ⟨hS, hW (inv.set hr hB.2)⟩
theorem HeadW.two {n g i j f : Nat} {oi oj : Oper} {R : Act → World → Prop} {s : Array Bool} {a : Act} {w : World} (hi : ops[i]? = some oi) (hj : ops[j]? = some oj) (hB : (decide (Region.ready md ops s = [i, j]) && decide (i < n) && decide (j < n)) = true)
    (h1 : ∀ K' : Act → World → Prop, Shut (∀ a w, S w → HeadW P md ops Q S n g R f (s.setIfInBounds i true) a w → K' a w) → if Region.wanted oi (yielded ops a.tmps) = true then Oper.wp P oi a w K' Q else K' (a.put oi.dst undef) w)
    (h2 : ∀ K' : Act → World → Prop, Shut (∀ a w, S w → HeadW P md ops Q S n g R f (s.setIfInBounds j true) a w → K' a w) → if Region.wanted oj (yielded ops a.tmps) = true then Oper.wp P oj a w K' Q else K' (a.put oj.dst undef) w) : HeadW P md ops Q S n g R (f + 1) s a w := by
  simp only [Bool.and_eq_true, decide_eq_true_eq] at hB
  obtain ⟨⟨hB1, hB2⟩, hB3⟩ := hB
  intro inv
  have hri : i ∈ Region.ready md ops s := by rw [hB1]; exact List.mem_cons_self ..
  have hrj : j ∈ Region.ready md ops s := by rw [hB1]; exact List.mem_cons_of_mem _ (List.mem_cons_self ..)
  refine ⟨List.ne_nil_of_mem hri, fun k hk => ?_⟩
  rw [hB1] at hk
  simp only [List.mem_cons, List.mem_nil_iff, or_false] at hk
  rcases hk with rfl | rfl
  · exact ⟨hB2, wpOp_step hi fun K' hK => h1 K' fun a w hS hW => hK a w ⟨hS, hW (inv.set hri hB2)⟩⟩
  · exact ⟨hB3, wpOp_step hj fun K' hK => h2 K' fun a w hS hW => hK a w ⟨hS, hW (inv.set hrj hB3)⟩⟩
theorem HeadW.done {n g : Nat} {R : Act → World → Prop} {s : Array Bool} {a : Act} {w : World} (hB : Region.seqB md ops g n s = true) (h : R a w) : HeadW P md ops Q S n g R 0 s a w := fun _ => ⟨hB, h⟩
theorem wp_region_held_tail {id : Nat} {a : Act} {w : World} {l : List Oper} (S : World → Prop) (n : Nat) (hm : P.follows .mixedOrders = true) (hn : decide (n < l.toArray.size) = true)
    (h : HeadW P .any l.toArray Q S n (l.toArray.size - n) (fun a' w' => wpList P l.toArray Q (l.drop n) a' w') n (Array.replicate l.toArray.size false) a w.drew) : (Code.region id l.toArray true).wp P Q a w := by
  have hn' := of_decide_eq_true hn
  have hdl : (l.drop n).length = l.toArray.size - n := by simp
  have inv : HeadInv .any l.toArray n (Array.replicate l.toArray.size false) :=
    ⟨by simp, fun j oj _ hl => (by rw [getD_replicate_false] at hl; cases hl), fun t _ ht => getD_in (by simpa using ht) (getD_replicate_false _ _)⟩
  have := HeadH.any (g := l.toArray.size - n) (fun s a' w' hL => by
    have := wpAny_of_seq (md := .any) (Q' := Q) (l.drop n) n s a' w' (fun j => by simp [List.getElem?_drop]) (by rw [hdl]; exact hL.1) hL.2
    rwa [hdl] at this) _ _ _ _ (h inv)
  rw [show n + (l.toArray.size - n) = l.toArray.size by omega] at this
  exact wp_region_any hm this
end
end Go.Proofs.YtjdldkafghblmaaDoor
