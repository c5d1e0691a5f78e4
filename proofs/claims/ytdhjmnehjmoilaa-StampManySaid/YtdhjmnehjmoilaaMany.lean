/-
  Plain mathematics of the statement on many events.
-/
import Derived.Test.YtdhjmnehjmoilaaPlain
namespace Go.Proofs.Ytdhjmnehjmoilaa
set_option linter.unusedVariables false

def mJ (N i : Nat) : Nat := if i < N then i else i - N
def mL (N i : Nat) : St := ((N : Int) - (mJ N i : Int), 1, (mJ N i : Int))
theorem mJ_lt {N i : Nat} (h : i < N) : mJ N i = i := by unfold mJ; rw [if_pos h]
theorem mL_eq {N i k : Nat} : mL N i = mL N k ↔ mJ N i = mJ N k := by
  unfold mL; rw [Prod.ext_iff, Prod.ext_iff]; constructor
  · rintro ⟨h1, h2, h3⟩; dsimp only at *; omega
  · intro h; rw [h]; exact ⟨rfl, rfl, rfl⟩
theorem many_canon (N cp : Nat) (h1 : 1 ≤ N) (hN : N ≤ 306) (hc : cp ≤ N) : IsCanon (mL N) (fun _ => 0) (N + cp) (List.range N).reverse := by
  have hdis : ∀ i k, dis (mL N i) (mL N k) 0 0 = false := by
    intro i k
    by_cases e : (mL N i).2 = (mL N k).2
    · rw [dis_false e]
      refine ⟨mL_eq.2 ?_, rfl⟩
      unfold mL at e
      rw [Prod.ext_iff] at e
      have := e.2
      dsimp only at this
      omega
    · exact dis_far e
  refine ⟨fun i => ?_, ?_⟩
  · rw [List.mem_reverse, List.mem_range, cnts_iff]
    constructor
    · intro hi
      refine ⟨by omega, ?_, fun k hk => ?_⟩
      · unfold vld mL; rw [mJ_lt hi]; simp; omega
      · unfold bars
        rw [hdis, Bool.false_or]
        by_cases hlt : k < i
        · rw [decide_eq_false (fun e => ?_ : ¬ mL N k = mL N i)]
          · simp
          · rw [mL_eq, mJ_lt hi, mJ_lt (by omega)] at e; omega
        · rw [decide_eq_false hlt]; simp
    · rintro ⟨hi, hv, hb⟩
      refine Classical.byContradiction fun hge => ?_
      have hb' := hb (i - N) (by omega)
      unfold bars at hb'
      have hvk : vld (mL N (i - N)) = true := by unfold vld mL; rw [mJ_lt (by omega)]; simp; omega
      have he : mL N (i - N) = mL N i := by rw [mL_eq, mJ_lt (by omega)]; unfold mJ; rw [if_neg hge]
      rw [hvk, hdis, decide_eq_true (show i - N < i by omega), decide_eq_true he] at hb'
      simp at hb'
  · rw [List.pairwise_reverse]
    refine List.Pairwise.imp_of_mem (fun {a b} ha hb hab => ?_) List.pairwise_lt_range
    rw [List.mem_range] at ha hb
    unfold stLt mL
    rw [mJ_lt ha, mJ_lt hb]
    left; dsimp only; omega
end Go.Proofs.Ytdhjmnehjmoilaa
