/-
  The fractions that a statement holds in memory; what is told of a drawn small fraction; the four operations on fractions that are told so.
-/
import Derived.Test.YtlocgjhblcgpbaaSubDiv
import Derived.Test.YtlocgjhblcgpbaaRowOf
import Derived.Laws.StructEq
namespace Go.Proofs.Ytlocgjhblcgpbaa
open Go.RowKit
set_option linter.unusedSimpArgs false
set_option linter.unusedVariables false

def Held (w : World) (l : List (Nat × Int × Int)) : Prop := ∀ x ∈ l, Blk w x.1 26 #[.int .i64 x.2.1, .int .i64 x.2.2]
theorem Held.nil (w : World) : Held w [] := fun x hx => by cases hx
theorem Held.later {w w' : World} {l : List (Nat × Int × Int)} (h : Held w l) (hb : Below w.heap.size w w') : Held w' l := fun x hx => (h x hx).later hb
theorem Held.add {w : World} {l : List (Nat × Int × Int)} (h : Held w l) (p q : Int) : Held (w.alloc (.cells #[.int .i64 p, .int .i64 q] 26)) ((w.heap.size, p, q) :: l) := fun x hx => by
  rcases List.mem_cons.1 hx with rfl | hx
  · exact Blk.new _ _ _
  · exact (h x hx).alloc _
theorem Held.alloc {w : World} {l : List (Nat × Int × Int)} (h : Held w l) (o : Obj) : Held (w.alloc o) l := fun x hx => (h x hx).alloc o
theorem Held.grown {w w' : World} {l : List (Nat × Int × Int)} {g : Nat} (h : Held w l) (hg : w.grownBy w' (some g)) (hn : ∀ x ∈ l, x.1 ≠ g) : Held w' l := fun x hx => (h x hx).grown hg (fun e => hn x hx (by injection e))
theorem Held.at_ {w : World} {l : List (Nat × Int × Int)} (h : Held w l) {g : Nat} {p q : Int} (hm : (g, p, q) ∈ l) :
    (w.cell? ⟨g, 0, none⟩ = some (.int .i64 p) ∧ w.cell? ⟨g, 1, none⟩ = some (.int .i64 q)) ∧ (w.frozen? ⟨g, 0, none⟩ = false ∧ w.frozen? ⟨g, 1, none⟩ = false) ∧ g < w.heap.size := (h _ hm).two
theorem Q.self {p q : Int} {A B : Nat} (h : Frac.valid p q = true) (hA : p.natAbs ≤ A) (hB : q.natAbs ≤ B) : Q p q p q A B := ⟨h, rfl, by have := ((valid_iff p q).1 h).1; omega, hA, hB⟩
theorem small_q {a d : Int} (h : SmallR a d) : Q a d a d 30 12 := by
  obtain ⟨x, y, hx0, hx1, hy0, hy1, rfl, rfl⟩ := h
  have e1 : newNum x y = qn x y := by
    unfold newNum qn sgnOf
    rw [if_neg (by omega), decide_eq_false (show ¬ y < 0 by omega), Bool.bne_false]
  have e2 : newDen x y = qd x y := by
    unfold newDen qd
    rw [if_neg (by omega)]
  have he := q_fits x y (by omega) (by omega) (by omega) (by omega)
  obtain ⟨hv, -⟩ := q_ok x y (by omega) he
  obtain ⟨h1, h2⟩ := q_le (show 0 < y by omega) he
  rw [e1, e2]
  exact Q.self hv (by omega) (by omega)
/-- an operation's answer that is told: a fraction, no error -/
def RetQ (N D : Int) (A B : Nat) (w : World) (e : Ending) (w' : World) : Prop :=
  ∃ x y, Q x y N D A B ∧ e = .returned (.tuple #[.agg #[.int .i64 x, .int .i64 y], .int .i64 0]) ∧ Below w.heap.size w w'
theorem retq {x y z N D : Int} {A B : Nat} {w w' : World} {e : Ending} (h : Q x y N D A B ∧ z = 0) (k : e = .returned (.tuple #[.agg #[.int .i64 x, .int .i64 y], .int .i64 z]) ∧ Below w.heap.size w w') : RetQ N D A B w e w' := by
  obtain ⟨h1, rfl⟩ := h
  exact ⟨x, y, h1, k⟩
section
variable {p q N D p' q' N' D' : Int} {A B A' B' : Nat} (h : Q p q N D A B) (k : Q p' q' N' D' A' B')
include h k
theorem add_q (hA : A * B' + A' * B ≤ 1152921504606846976) (hB : B * B' ≤ 1152921504606846976) (w : World) :
    Calls Try.prog 13 #[.agg #[.int .i64 p, .int .i64 q], .agg #[.int .i64 p', .int .i64 q']] w (RetQ (N * D' + N' * D) (D * D') (A * B' + A' * B) (B * B') w) :=
  (add_yes p q p' q' h.v k.v w).mono fun _ _ r => retq (h.add k hA hB) r
theorem sub_q (hA : A * B' + A' * B ≤ 1152921504606846976) (hB : B * B' ≤ 1152921504606846976) (w : World) :
    Calls Try.prog 15 #[.agg #[.int .i64 p, .int .i64 q], .agg #[.int .i64 p', .int .i64 q']] w (RetQ (N * D' - N' * D) (D * D') (A * B' + A' * B) (B * B') w) :=
  (sub_yes p q p' q' h.v k.v w).mono fun _ _ r => retq (h.sub k hA hB) r
theorem mul_q (hA : A * A' ≤ 1152921504606846976) (hB : B * B' ≤ 1152921504606846976) (w : World) :
    Calls Try.prog 18 #[.agg #[.int .i64 p, .int .i64 q], .agg #[.int .i64 p', .int .i64 q']] w (RetQ (N * N') (D * D') (A * A') (B * B') w) :=
  (mul_yes p q p' q' h.v k.v w).mono fun _ _ r => retq (h.mul k hA hB) r
end
theorem eqlR (a b c d : Int) (w : World) : (binOp .eql 26 (.agg #[.int .i64 a, .int .i64 b]) (.agg #[.int .i64 c, .int .i64 d])).run Try.prog w = .ok (.bool (decide ((a, b) = (c, d)))) w := by
  have u3 := Try.underlying3
  have a3 := Try.isAgg3
  have z3 := Try.sizeOf3
  have hS : Try.prog.underlying 26 = some (.struct (Try.prog.fieldsOf 26)) := by kernel_rfl
  have hp : Try.prog.stoodInHeld 26 = false := by kernel_rfl
  rw [run_eql_struct, show (10000 : Nat) = 9999 + 1 from rfl, run_equalIn_agg w 9999 26 _ _ hS hp]
  simp only [Program.fieldsOf, Try.underlying26]
  go_simp
  by_cases h1 : a = c <;> by_cases h2 : b = d <;> simp [h1, h2]
end Go.Proofs.Ytlocgjhblcgpbaa
