/-
  What the statements draw from a tape: choices and stamps.
-/
import Derived.Test.YtjciniffkdadaaaTape
import Derived.Deep.DeepCutAuto
import Derived.Deep.CutBlock
namespace Go.Proofs.Ytjciniffkdadaaa
open Go.RowKit
set_option linter.unusedSimpArgs false
set_option linter.unusedVariables false

theorem gNew {a b : World} {row : Option Nat} (h : a.grownBy b row) {p : Addr} (hp : a.heap.size ≤ p.block) (v : Value) : a.grownBy (b.setCell p v) row :=
  ⟨h.os, h.tape, h.output, by simpa using h.size, fun j hj hn => (Below.heap_setCell b p v j (by omega)).trans (h.block j hj hn)⟩
theorem gAlc {a b : World} {row : Option Nat} (h : a.grownBy b row) (o : Obj) : a.grownBy (b.alloc o) row :=
  ⟨h.os, h.tape, h.output, by have := h.size; simp; omega, fun j hj hn => (Below.heap_alloc b o j (Nat.lt_of_lt_of_le hj h.size)).trans (h.block j hj hn)⟩
theorem Tp.setFar {w : World} {B g : Nat} {o : Option Addr} {n c : Nat} {z : Nat → Int} (h : Tp w B g o n c z) {p : Addr} (hp : g < p.block) (v : Value) : Tp (w.setCell p v) B g o n c z := by
  obtain ⟨k, hk, hB⟩ := h.blk
  exact ⟨h.row.keep fun j hj => Below.heap_setCell w p v j (by have := h.bg; omega), h.bg, h.few, k, hk, hB.far (by omega) v⟩

def GetBool (w : World) (B g : Nat) (o : Option Addr) (n c : Nat) (z : Nat → Int) (e : Ending) (w' : World) : Prop :=
  ∃ v : Bool, e = .returned (.bool v) ∧ Tp w' B g o n c z ∧ w.grownBy w' (some g)
set_option maxHeartbeats 1000000 in
theorem tape_one (N : Int) (hN : 1 ≤ N) (hN1 : N < 1000000) {w : World} {B g : Nat} {o : Option Addr} {n c : Nat} {z : Nat → Int} (h : Tp w B g o n c z) :
    Calls Try.prog 39 #[.pointer (some ⟨g, 0, none⟩), .int .i64 N] w (GetBool w B g o n c z) := by
  go_enter Try.func39, Try.ntmps39
  go_wp2_with fail
  refine (tape_next N hN (by omega) h).mono ?_
  rintro e w1 ⟨v, ⟨hv0, hv1⟩, rfl, ht, hg⟩
  have hfin : ∀ b, GetBool w B g o n c z (.returned (.bool b)) w1 := fun b => ⟨b, rfl, ht, hg⟩
  have HF := Lib.hid hfin
  clear hfin ht hg h
  go_wp2
  go_ret
  exact HF.out _

set_option maxHeartbeats 1000000 in
theorem tape_pick (b m cap : Nat) (y : Nat → Int) (hm : 1 ≤ m) (hm1 : m < 1000000) {w : World} {B g : Nat} {o : Option Addr} {n c : Nat} {z : Nat → Int} (h : Tp w B g o n c z)
    (hc : ∀ i, i < m → w.cell? ⟨b, i, none⟩ = some (.int .i64 (y i))) (hb : b < w.heap.size) (hbg : b ≠ g) :
    Calls Try.prog 41 #[.pointer (some ⟨g, 0, none⟩), .slice (some ⟨b, 0, none⟩) m cap] w (GetInt (fun v => ∃ i, i < m ∧ v = y i) w B g o n c z) := by
  have HC := Lib.hid hc
  clear hc
  go_enter Try.func41, Try.ntmps41
  go_wp2_with fail
  refine (tape_next (m : Int) (by omega) (by omega) h).mono ?_
  rintro e w1 ⟨v, ⟨hv0, hv1⟩, rfl, ht, hg⟩
  obtain ⟨i, rfl⟩ := Int.eq_ofNat_of_zero_le hv0
  have hi : i < m := by omega
  have hcell : w1.cell? ⟨b, i, none⟩ = some (.int .i64 (y i)) := (World.cell?_of_block (a := ⟨b, i, none⟩) (hg.block b hb (by intro e; cases e; exact hbg rfl))).trans (HC.out i hi)
  have hfin : ∀ k, GetInt (fun v => ∃ i, i < m ∧ v = y i) w B g o n c z (.returned (.int .i64 (y i))) (w1.drewN k) := fun k => ⟨_, ⟨i, hi, rfl⟩, rfl, ht.later (bDr (Below.refl _ _) k), gTr hg (gDr w1 k _)⟩
  have HF := Lib.hid hfin
  clear hfin ht hg h
  go_wp2
  go_ret
  exact HF.out 0

def wildAt (i : Nat) : Int := [-1, 0, 1, 2, 31, 32, 99, 100, 200, 201, 9999, 10000, 1000000, 1000001, 1152921504606846976, 1152921504606846977, -1152921504606846976, 9223372036854775807, -9223372036854775808].getD i 0
theorem wildAt_bd (i : Nat) (h : i < 19) : I64 (wildAt i) := by
  have : i = 0 ∨ i = 1 ∨ i = 2 ∨ i = 3 ∨ i = 4 ∨ i = 5 ∨ i = 6 ∨ i = 7 ∨ i = 8 ∨ i = 9 ∨ i = 10 ∨ i = 11 ∨ i = 12 ∨ i = 13 ∨ i = 14 ∨ i = 15 ∨ i = 16 ∨ i = 17 ∨ i = 18 := by omega
  unfold I64
  rcases this with rfl | rfl | rfl | rfl | rfl | rfl | rfl | rfl | rfl | rfl | rfl | rfl | rfl | rfl | rfl | rfl | rfl | rfl | rfl <;> decide

set_option maxHeartbeats 1000000 in
theorem tape_wild {w : World} {B g : Nat} {o : Option Addr} {n c : Nat} {z : Nat → Int} (h : Tp w B g o n c z) :
    Calls Try.prog 40 #[.pointer (some ⟨g, 0, none⟩)] w (GetInt I64 w B g o n c z) := by
  have hgl := h.lt
  have H := Lib.hid h
  go_enter Try.func40, Try.ntmps40
  go_wp2_with fail
  refine (tape_pick w.heap.size 19 19 wildAt (by omega) (by omega) (h.alloc _) ?_ (by simp) (by omega)).mono ?_
  · intro i hi
    have : i = 0 ∨ i = 1 ∨ i = 2 ∨ i = 3 ∨ i = 4 ∨ i = 5 ∨ i = 6 ∨ i = 7 ∨ i = 8 ∨ i = 9 ∨ i = 10 ∨ i = 11 ∨ i = 12 ∨ i = 13 ∨ i = 14 ∨ i = 15 ∨ i = 16 ∨ i = 17 ∨ i = 18 := by omega
    rcases this with rfl | rfl | rfl | rfl | rfl | rfl | rfl | rfl | rfl | rfl | rfl | rfl | rfl | rfl | rfl | rfl | rfl | rfl | rfl <;> exact Blk.cell (Blk.newAt rfl) _
  rintro e w1 ⟨u, ⟨i, hi, rfl⟩, rfl, ht, hg⟩
  have hfin : GetInt I64 w B g o n c z (.returned (.int .i64 (wildAt i))) w1 := ⟨_, wildAt_bd i hi, rfl, ht, gTr (gBe (bAl (Below.refl _ w) _)) hg⟩
  have HF := Lib.hid hfin
  clear hfin ht hg h
  go_wp2
  go_ret
  exact HF.out

end Go.Proofs.Ytjciniffkdadaaa
