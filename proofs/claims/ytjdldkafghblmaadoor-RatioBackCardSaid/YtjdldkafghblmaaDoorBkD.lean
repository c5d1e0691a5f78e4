/-
  Structs of two numbers that a walk owns, and their comparison.
-/
import Derived.Test.YtjdldkafghblmaaDoorBkA
import Derived.Laws.StructEq
namespace Go.Proofs.YtjdldkafghblmaaDoor
open Go.RowKit
set_option linter.unusedSimpArgs false
set_option linter.unusedVariables false

def Held (w : World) (l : List (Nat × Int × Int)) : Prop := ∀ x ∈ l, Blk w x.1 24 #[.int .i64 x.2.1, .int .i64 x.2.2]
theorem Held.nil (w : World) : Held w [] := fun x hx => by cases hx
theorem Held.later {w w' : World} {l : List (Nat × Int × Int)} (h : Held w l) (hb : Below w.heap.size w w') : Held w' l := fun x hx => (h x hx).later hb
theorem Held.add {w : World} {l : List (Nat × Int × Int)} (h : Held w l) (p q : Int) : Held (w.alloc (.cells #[.int .i64 p, .int .i64 q] 24)) ((w.heap.size, p, q) :: l) := fun x hx => by
  rcases List.mem_cons.1 hx with rfl | hx
  · exact Blk.new _ _ _
  · exact (h x hx).alloc _
theorem Held.alloc {w : World} {l : List (Nat × Int × Int)} (h : Held w l) (o : Obj) : Held (w.alloc o) l := fun x hx => (h x hx).alloc o
theorem Held.at_ {w : World} {l : List (Nat × Int × Int)} (h : Held w l) {g : Nat} {p q : Int} (hm : (g, p, q) ∈ l) :
    (w.cell? ⟨g, 0, none⟩ = some (.int .i64 p) ∧ w.cell? ⟨g, 1, none⟩ = some (.int .i64 q)) ∧ (w.frozen? ⟨g, 0, none⟩ = false ∧ w.frozen? ⟨g, 1, none⟩ = false) ∧ g < w.heap.size := (h _ hm).two
theorem eqlR (a b c d : Int) (w : World) : (binOp .eql 24 (.agg #[.int .i64 a, .int .i64 b]) (.agg #[.int .i64 c, .int .i64 d])).run Tryd.prog w = .ok (.bool (decide ((a, b) = (c, d)))) w := by
  have u3 := Tryd.underlying3
  have a3 := Tryd.isAgg3
  have z3 := Tryd.sizeOf3
  have hS : Tryd.prog.underlying 24 = some (.struct (Tryd.prog.fieldsOf 24)) := by kernel_rfl
  have hp : Tryd.prog.stoodInHeld 24 = false := by kernel_rfl
  rw [run_eql_struct, show (10000 : Nat) = 9999 + 1 from rfl, run_equalIn_agg w 9999 24 _ _ hS hp]
  simp only [Program.fieldsOf, Tryd.underlying24]
  go_simp
  by_cases h1 : a = c <;> by_cases h2 : b = d <;> simp [h1, h2]
theorem Held.addAt {w : World} {l : List (Nat × Int × Int)} (h : Held w l) (p q : Int) {n : Nat} (e : n = w.heap.size) : Held (w.alloc (.cells #[.int .i64 p, .int .i64 q] 24)) ((n, p, q) :: l) := by subst e; exact h.add p q
theorem Held.lt {w : World} {l : List (Nat × Int × Int)} (h : Held w l) {g : Nat} {p q : Int} (hm : (g, p, q) ∈ l) : g < w.heap.size := (h _ hm).lt
theorem neqR (a b c d : Int) (w : World) : (binOp .neq 24 (.agg #[.int .i64 a, .int .i64 b]) (.agg #[.int .i64 c, .int .i64 d])).run Tryd.prog w = .ok (.bool (!decide ((a, b) = (c, d)))) w := by
  have h := eqlR a b c d w
  rw [run_eql_struct] at h
  rw [run_neq_struct]
  cases hr : ((Op.equalIn 10000 24 (.agg #[.int .i64 a, .int .i64 b]) (.agg #[.int .i64 c, .int .i64 d])).run Tryd.prog w) with
  | ok r w1 =>
    rw [hr] at h
    simp only [Result.andThen_ok, Result.ok.injEq, Value.bool.injEq] at h ⊢
    obtain ⟨h1, h2⟩ := h
    exact ⟨by rw [h1], h2⟩
  | halt s w1 => rw [hr] at h; simp at h
end Go.Proofs.YtjdldkafghblmaaDoor
