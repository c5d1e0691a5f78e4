/-
  Disputed of the reference: the comparison of identities, the mathematics of its list.
-/
import Derived.Test.YtdggmnhddoejhaaCounts
import Derived.Test.YtdggmnhddoejhaaDisputed
import Derived.Test.YtdggmnhddoejhaaRefCanon
namespace Go.Proofs.Ytdggmnhddoejhaa
open Go.RowKit
set_option linter.unusedSimpArgs false
set_option linter.unusedVariables false

def pB (a b c d : Int) : Bool := decide (a < c ∨ a = c ∧ b < d)
theorem pB_pLt (x y : Int × Int) : pB x.1 x.2 y.1 y.2 = true ↔ pLt x y := by unfold pB pLt; rw [decide_eq_true_eq]
set_option maxHeartbeats 1000000 in
theorem ref_before (a b c d : Int) (w : World) :
    Calls Try.prog 45 #[.agg #[.int .i64 a, .int .i64 b], .agg #[.int .i64 c, .int .i64 d]] w fun e w' => e = .returned (.bool (pB a b c d)) ∧ Gro w w' := by
  by_cases h1 : a < c
  · have H := Lib.hid (show true = pB a b c d from (decide_eq_true (by omega)).symm)
    have h1' : decide (a < c) = true := decide_eq_true h1
    clear h1
    go_enter Try.func45, Try.ntmps45
    go_wp2
    go_ret
    exact ⟨ret_bool H.out, ((Gro.refl w).alloc _).alloc _⟩
  · by_cases h2 : a = c
    · subst h2
      by_cases h3 : b < d
      · have H := Lib.hid (show true = pB a b a d from (decide_eq_true (by omega)).symm)
        have h3' : decide (b < d) = true := decide_eq_true h3
        clear h3 h1
        go_enter Try.func45, Try.ntmps45
        go_wp2
        go_ret
        exact ⟨ret_bool (by first | exact H.out | rw [← H.out]), ((Gro.refl w).alloc _).alloc _⟩
      · have H := Lib.hid (show false = pB a b a d from (decide_eq_false (by omega)).symm)
        have h3' : decide (b < d) = false := decide_eq_false h3
        clear h3 h1
        go_enter Try.func45, Try.ntmps45
        go_wp2
        go_ret
        exact ⟨ret_bool (by first | exact H.out | rw [← H.out]), ((Gro.refl w).alloc _).alloc _⟩
    · have H := Lib.hid (show false = pB a b c d from (decide_eq_false (by omega)).symm)
      have h1' : decide (a < c) = false := decide_eq_false h1
      have h2' : (a == c) = false := by rw [beq_eq_false_iff_ne]; exact h2
      clear h1 h2
      go_enter Try.func45, Try.ntmps45
      go_wp2
      go_ret
      exact ⟨ret_bool H.out, ((Gro.refl w).alloc _).alloc _⟩
theorem ref_before_b {a b c d : Int} {v : Bool} (h : pB a b c d = v) (w : World) :
    Calls Try.prog 45 #[.agg #[.int .i64 a, .int .i64 b], .agg #[.int .i64 c, .int .i64 d]] w fun e w' => e = .returned (.bool v) ∧ Gro w w' := h ▸ ref_before a b c d w

/-- is event i disputed by one of the first k? -/
def fnd (L : Nat → St) (C : Nat → Int) (i k : Nat) : Bool := (List.range k).any fun j => vld (L i) && (vld (L j) && dis (L i) (L j) (C i) (C j))
theorem fnd_zero (L : Nat → St) (C : Nat → Int) (i : Nat) : fnd L C i 0 = false := rfl
theorem fnd_succ (L : Nat → St) (C : Nat → Int) (i k : Nat) : fnd L C i (k + 1) = (fnd L C i k || (vld (L i) && (vld (L k) && dis (L i) (L k) (C i) (C k)))) := by
  unfold fnd; rw [List.range_succ, List.any_append]; simp
theorem fnd_iff {L : Nat → St} {C : Nat → Int} {i k : Nat} : fnd L C i k = true ↔ vld (L i) = true ∧ ∃ j, j < k ∧ vld (L j) = true ∧ dis (L i) (L j) (C i) (C j) = true := by
  unfold fnd
  rw [List.any_eq_true]
  simp only [List.mem_range, Bool.and_eq_true]
  constructor
  · rintro ⟨j, hj, h1, h2, h3⟩; exact ⟨h1, j, hj, h2, h3⟩
  · rintro ⟨h1, j, hj, h2, h3⟩; exact ⟨j, hj, h1, h2, h3⟩
structure IsDPre (L : Nat → St) (C : Nat → Int) (n k : Nat) (out : List (Int × Int)) : Prop where
  mem : ∀ x, x ∈ out ↔ ∃ i, i < k ∧ (L i).2 = x ∧ fnd L C i n = true
  asc : out.Pairwise pLt
theorem IsDPre.nil (L : Nat → St) (C : Nat → Int) (n : Nat) : IsDPre L C n 0 [] := ⟨by simp, by simp⟩
theorem IsDPre.fin {L : Nat → St} {C : Nat → Int} {n : Nat} {out : List (Int × Int)} (h : IsDPre L C n n out) : IsDis L C n out := by
  refine ⟨fun x => (h.mem x).trans ⟨?_, ?_⟩, h.asc⟩
  · rintro ⟨i, hi, he, hf⟩
    obtain ⟨hv, j, hj, hvj, hd⟩ := fnd_iff.1 hf
    exact ⟨i, hi, hv, he, j, hj, hvj, hd⟩
  · rintro ⟨i, hi, hv, he, j, hj, hvj, hd⟩
    exact ⟨i, hi, he, fnd_iff.2 ⟨hv, j, hj, hvj, hd⟩⟩
theorem IsDPre.skip {L : Nat → St} {C : Nat → Int} {n k : Nat} {out : List (Int × Int)} (h : IsDPre L C n k out) (hs : fnd L C k n = true → (L k).2 ∈ out) : IsDPre L C n (k + 1) out := by
  refine ⟨fun x => (h.mem x).trans ⟨?_, ?_⟩, h.asc⟩
  · rintro ⟨i, hi, r⟩; exact ⟨i, by omega, r⟩
  · rintro ⟨i, hi, he, hf⟩
    rcases Nat.lt_succ_iff_lt_or_eq.1 hi with g | g
    · exact ⟨i, g, he, hf⟩
    · subst g
      obtain ⟨j, hj, hje, hjf⟩ := (h.mem _).1 (hs hf)
      exact ⟨j, hj, hje.trans he, hjf⟩
theorem IsDPre.ins {L : Nat → St} {C : Nat → Int} {n k a : Nat} {out : List (Int × Int)} (h : IsDPre L C n k out) (hf : fnd L C k n = true) (ha : a ≤ out.length)
    (hlo : ∀ j x, j < a → out[j]? = some x → pLt x (L k).2) (hup : ∀ x, out[a]? = some x → pLt (L k).2 x) : IsDPre L C n (k + 1) (out.take a ++ [(L k).2] ++ out.drop a) := by
  have hsplit : out = out.take a ++ out.drop a := (List.take_append_drop a out).symm
  have hlow : ∀ x ∈ out.take a, pLt x (L k).2 := by
    intro x hx
    obtain ⟨j, hj, rfl⟩ := List.getElem_of_mem hx
    rw [List.length_take] at hj
    rw [List.getElem_take]
    exact hlo j _ (by omega) (List.getElem?_eq_getElem (by omega))
  have hhigh : ∀ x ∈ out.drop a, pLt (L k).2 x := by
    intro x hx
    obtain ⟨j, hj, rfl⟩ := List.getElem_of_mem hx
    rw [List.length_drop] at hj
    rw [List.getElem_drop]
    have h0 := hup _ (List.getElem?_eq_getElem (show a < out.length by omega))
    rcases Nat.eq_zero_or_pos j with g | g
    · subst g; exact h0
    · have := List.pairwise_iff_getElem.1 h.asc a (a + j) (by omega) (by omega) (by omega)
      unfold pLt at *; omega
  have hasc := h.asc
  rw [hsplit, List.pairwise_append] at hasc
  refine ⟨fun x => ?_, ?_⟩
  · have hm := h.mem x
    rw [hsplit, List.mem_append] at hm
    simp only [List.mem_append, List.mem_singleton]
    constructor
    · rintro ((hx | rfl) | hx)
      · obtain ⟨i, hi, r⟩ := hm.1 (.inl hx); exact ⟨i, by omega, r⟩
      · exact ⟨k, by omega, rfl, hf⟩
      · obtain ⟨i, hi, r⟩ := hm.1 (.inr hx); exact ⟨i, by omega, r⟩
    · rintro ⟨i, hi, he, hfi⟩
      rcases Nat.lt_succ_iff_lt_or_eq.1 hi with g | g
      · rcases hm.2 ⟨i, g, he, hfi⟩ with g | g
        · exact .inl (.inl g)
        · exact .inr g
      · subst g; exact .inl (.inr he.symm)
  · rw [List.pairwise_append, List.pairwise_append]
    refine ⟨⟨hasc.1, by simp, fun x hx y hy => ?_⟩, hasc.2.1, fun x hx y hy => ?_⟩
    · simp only [List.mem_singleton] at hy; subst hy; exact hlow x hx
    · simp only [List.mem_append, List.mem_singleton] at hx
      rcases hx with hx | rfl
      · exact hasc.2.2 x hx y hy
      · exact hhigh y hy
theorem pLt_tri (x y : Int × Int) : pLt x y ∨ x = y ∨ pLt y x := by unfold pLt; rw [Prod.ext_iff]; omega
end Go.Proofs.Ytdggmnhddoejhaa
