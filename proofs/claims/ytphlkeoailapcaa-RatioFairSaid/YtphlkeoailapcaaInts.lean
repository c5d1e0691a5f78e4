/-
  Ints: a list of numbers off the tape.
-/
import Derived.Test.YtphlkeoailapcaaTape
import Derived.Test.YtphlkeoailapcaaAwaken
import Derived.Laws.AppendOwnNone
import Derived.Deep.AppendLies
import Derived.Maps.AppendAt
import Derived.LoopN
import Derived.IntWalk
import Derived.BigQuiet
import Derived.Deep.QuietTactic
import Derived.WalkLawsBesides
import Derived.WalkSpells
import Derived.Deep.LoopGhost
namespace Go.Proofs.Ytphlkeoailapcaa
open Go.RowKit
set_option linter.unusedSimpArgs false
set_option linter.unusedVariables false

theorem int_info : (Try.prog.info? 3).map (fun i => (i.zero, i.size, i.bytes)) = some (some (.int .i64 0), 1, 8) := by kernel_rfl
def iv (j : Nat) : Value := .int .i64 (j : Int)
theorem gAl {a b : World} {row : Option Nat} (h : a.grownBy b row) (o : Obj) : a.grownBy (b.alloc o) row :=
  ⟨h.os, h.tape, h.output, by have := h.size; simp; omega, fun j hj hn => (Below.heap_alloc b o j (Nat.lt_of_lt_of_le hj h.size)).trans (h.block j hj hn)⟩
theorem Tp.grown {w w' : World} {B g : Nat} {o : Option Addr} {n c : Nat} {z : Nat → Int} {row : Option Nat} (h : Tp w B g o n c z) (hg : w.grownBy w' row) (hn : ∀ j, row = some j → g < j) : Tp w' B g o n c z := by
  obtain ⟨k, hk, hB⟩ := h.blk
  have h1 := hB.lt
  have h2 := h.bg
  exact ⟨h.row.keep fun j hj => hg.block j (by omega) (fun e => by have := hn _ e.symm; omega), h.bg, h.few, k, hk, hB.grown hg (fun e => by have := hn _ e.symm; omega)⟩
theorem gTr2 {a b c : World} {g : Nat} {row : Option Nat} (h : a.grownBy b (some g)) (k : b.grownBy c row) (hr : ∀ j, row = some j → a.heap.size ≤ j) : a.grownBy c (some g) :=
  ⟨k.os.trans h.os, k.tape.trans h.tape, k.output.trans h.output, Nat.le_trans h.size k.size, fun j hj hn => (k.block j (Nat.lt_of_lt_of_le hj h.size) (fun e => by have := hr _ e.symm; omega)).trans (h.block j hj hn)⟩
def GetRow (P : List Nat → Prop) (w : World) (B g : Nat) (o : Option Addr) (n c : Nat) (z : Nat → Int) (e : Ending) (w' : World) : Prop :=
  ∃ (v : Value) (zs : List Nat), P zs ∧ e = .returned v ∧ w'.ownsRow w.heap.size 3 1 v zs.length (zs.map iv) ∧ Tp w' B g o n c z ∧ w.grownBy w' (some g)
structure IS (w : World) (B g : Nat) (o : Option Addr) (n c : Nat) (z : Nat → Int) (v : Value) (zs : List Nat) (wr : World) : Prop where
  own : wr.ownsRow w.heap.size 3 1 v zs.length (zs.map iv)
  tp : Tp wr B g o n c z
  gr : w.grownBy wr (some g)
theorem IS.on {w : World} {B g : Nat} {o : Option Addr} {n c : Nat} {z : Nat → Int} {v : Value} {zs : List Nat} {w1 w2 : World} (h : IS w B g o n c z v zs w1) (hgl : g < w.heap.size) (ht : Tp w2 B g o n c z) (hg : w1.grownBy w2 (some g)) : IS w B g o n c z v zs w2 :=
  ⟨h.own.kept hg (.inr fun e => by have := (h.own.lt g e).1; omega), ht, gTr h.gr hg⟩
theorem IS.push {w : World} {B g : Nat} {o : Option Addr} {n c : Nat} {z : Nat → Int} {v v' : Value} {zs : List Nat} {w1 w2 : World} {a : Nat} {ob : Obj} (h : IS w B g o n c z v zs w1) (hgl : g < w.heap.size)
    (h1 : w2.ownsRow w.heap.size 3 1 v' (zs.length + 1) (zs.map iv ++ [iv a])) (h2 : (w1.alloc ob).grownBy w2 v.ownBlock) : IS w B g o n c z v' (zs ++ [a]) w2 := by
  have hr : ∀ j, v.ownBlock = some j → w.heap.size ≤ j := fun j hj => (h.own.lt j hj).1
  refine ⟨by simpa using h1, (h.tp.alloc ob).grown h2 (fun j hj => by have := hr j hj; omega), gTr2 (gAl h.gr ob) h2 hr⟩
def IAt (lo hi m : Nat) (w : World) (B g : Nat) (o : Option Addr) (n c : Nat) (z : Nat → Int) (v i : Value) (wr : World) : Prop :=
  ∃ (k : Nat) (zs : List Nat), i = .int .i64 k ∧ zs.length + k ≤ m ∧ (∀ x ∈ zs, lo ≤ x ∧ x ≤ hi) ∧ IS w B g o n c z v zs wr
theorem all_push {P : Nat → Prop} {ls : List Nat} {a : Nat} (h : ∀ x ∈ ls, P x) (ha : P a) : ∀ x ∈ ls ++ [a], P x := fun x hx => by
  rcases List.mem_append.1 hx with hx | hx
  · exact h x hx
  · rw [List.mem_singleton] at hx; subst hx; exact ha

set_option maxRecDepth 100000 in
set_option maxHeartbeats 8000000 in
theorem tape_ints (m lo hi : Nat) (hm : m ≤ 1000) (hle : lo ≤ hi) (hhi : hi ≤ 1000000) {w : World} {B g : Nat} {o : Option Addr} {n c : Nat} {z : Nat → Int} (h : Tp w B g o n c z) :
    Calls Try.prog 32 #[.pointer (some ⟨g, 0, none⟩), .int .i64 (m : Int), .int .i64 (lo : Int), .int .i64 (hi : Int)] w (GetRow (fun zs => zs.length ≤ m ∧ ∀ x ∈ zs, lo ≤ x ∧ x ≤ hi) w B g o n c z) := by
  have hgl := h.lt
  obtain ⟨i0, hi0, hz0, hz1, hz2⟩ := info_parts int_info
  go_enter Try.func32, Try.ntmps32
  go_wp2_with fail
  refine (tape_range 0 (m : Int) (by omega) (by omega) (by omega) h).mono ?_
  rintro e w1 ⟨v, ⟨hv0, hv1⟩, rfl, ht, hg⟩
  obtain ⟨k, rfl⟩ := Int.eq_ofNat_of_zero_le hv0
  have hkm : k ≤ m := by omega
  clear h hv0 hv1
  go_wp2_with fail
  go_loopw [9, 10] (fun v i wr => IAt lo hi m w B g o n c z v i wr) (fun _ i _ => (intOf i).toNat)
  case atStart => exact ⟨k, [], rfl, by simpa using hkm, (fun x hx => by cases hx), World.ownsRow_nil _ _ _ _, ht, hg⟩
  case round =>
    clear ht hg hkm
    obtain ⟨k, zs, rfl, hlk, hall, hS⟩ := hrel
    have HS := Lib.hid hS
    have HA := Lib.hid hall
    clear hS hall
    have hlen : zs.length ≤ m := by omega
    by_cases hk0 : 0 < k
    · have hk0' : (0 : Int) < (k : Int) := by omega
      go_wp2_with fail
      refine (tape_range (lo : Int) (hi : Int) (by omega) (by omega) (by omega) HS.out.tp).mono ?_
      rintro e w3 ⟨u, ⟨hu0, hu1⟩, rfl, ht3, hg3⟩
      obtain ⟨a, rfl⟩ := Int.eq_ofNat_of_zero_le (a := u) (by omega)
      have S5 := Lib.hid (HS.out.on hgl ht3 hg3)
      have HI := Lib.hid (show lo ≤ a ∧ a ≤ hi from ⟨by omega, by omega⟩)
      have HSZ := Lib.hid S5.out.gr.size
      clear HS ht3 hg3 hu0 hu1

      go_wp2_with ((at_builtin; refine wpList_append_own_at _ rfl _ _ 22 rfl w.heap.size 3 i0 (.int .i64 0) 1 8 Try.underlying22 hi0 hz0 hz1 hz2 rfl (by decide) _ _ _ rfl (S5.out.own.alloc _) ⟨w3.heap.size, 0, none⟩ 1 1 [iv a] rfl rfl ?c1 ?c2 ?c3 ?c4 ?c5 ?_; (case c1 => exact cell_one_new _ _ _); (case c2 => intro u hu; simp at hu; subst hu; rfl); (case c3 => unfold maxLen; omega); (case c4 => omega); (case c5 => have := HSZ.out; simp; omega); intro v' w6 hown6 hgrow6 hnil6 hat6; have H6 := Lib.hid (And.intro hown6 hgrow6); clear hown6 hgrow6 hnil6 hat6))
      go_roundw
      case rel => exact ⟨k - 1, zs ++ [a], by go_num, by simp; omega, all_push HA.out HI.out, S5.out.push hgl H6.out.1 H6.out.2⟩
      case measure => simp [intOf]; omega
    · obtain rfl : k = 0 := by omega
      have HX := Lib.hid (show ∀ v5, v5 = u9 → GetRow (fun zs => zs.length ≤ m ∧ ∀ x ∈ zs, lo ≤ x ∧ x ≤ hi) w B g o n c z (.returned v5) wr from fun v5 e => by subst e; exact ⟨_, zs, ⟨hlen, HA.out⟩, rfl, HS.out.own, HS.out.tp, HS.out.gr⟩)
      go_wp2
      go_ret
      exact HX.out _ rfl
end Go.Proofs.Ytphlkeoailapcaa
