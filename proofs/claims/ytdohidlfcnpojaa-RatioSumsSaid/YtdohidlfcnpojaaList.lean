/-
  The list of fractions that the statements draw.
-/
import Derived.Test.YtdohidlfcnpojaaRowR
namespace Go.Proofs.Ytdohidlfcnpojaa
open Go.RowKit
set_option linter.unusedSimpArgs false
set_option linter.unusedVariables false

theorem Tp.grown {w w' : World} {B g : Nat} {o : Option Addr} {n c : Nat} {z : Nat → Int} {row : Option Nat} (h : Tp w B g o n c z) (hg : w.grownBy w' row) (hn : ∀ j, row = some j → g < j) : Tp w' B g o n c z := by
  obtain ⟨k, hk, hB⟩ := h.blk
  have h1 := hB.lt
  have h2 := h.bg
  exact ⟨h.row.keep fun j hj => hg.block j (by omega) (fun e => by have := hn _ e.symm; omega), h.bg, h.few, k, hk, hB.grown hg (fun e => by have := hn _ e.symm; omega)⟩
theorem gTr2 {a b c : World} {g : Nat} {row : Option Nat} (h : a.grownBy b (some g)) (k : b.grownBy c row) (hr : ∀ j, row = some j → a.heap.size ≤ j) : a.grownBy c (some g) :=
  ⟨k.os.trans h.os, k.tape.trans h.tape, k.output.trans h.output, Nat.le_trans h.size k.size, fun j hj hn => (k.block j (Nat.lt_of_lt_of_le hj h.size) (fun e => by have := hr _ e.symm; omega)).trans (h.block j hj hn)⟩
def I2 (x : Fr) : Prop := I64 x.1 ∧ I64 x.2
structure LS (w : World) (B g : Nat) (o : Option Addr) (n c : Nat) (z : Nat → Int) (v : Value) (ls : List Fr) (wr : World) : Prop where
  own : wr.ownsRow w.heap.size 26 2 v ls.length (frCells ls)
  tp : Tp wr B g o n c z
  gr : w.grownBy wr (some g)
theorem LS.on {w : World} {B g : Nat} {o : Option Addr} {n c : Nat} {z : Nat → Int} {v : Value} {ls : List Fr} {w1 w2 : World} (h : LS w B g o n c z v ls w1) (hgl : g < w.heap.size) (ht : Tp w2 B g o n c z) (hg : w1.grownBy w2 (some g)) : LS w B g o n c z v ls w2 :=
  ⟨h.own.kept hg (.inr fun e => by have := (h.own.lt g e).1; omega), ht, gTr h.gr hg⟩
theorem LS.push {w : World} {B g : Nat} {o : Option Addr} {n c : Nat} {z : Nat → Int} {v v' : Value} {ls : List Fr} {w1 w2 : World} {a d : Int} {ob : Obj} (h : LS w B g o n c z v ls w1) (hgl : g < w.heap.size)
    (h1 : w2.ownsRow w.heap.size 26 2 v' (ls.length + 1) (frCells ls ++ [.int .i64 a, .int .i64 d])) (h2 : (w1.alloc ob).grownBy w2 v.ownBlock) : LS w B g o n c z v' (ls ++ [(a, d)]) w2 := by
  have hr : ∀ j, v.ownBlock = some j → w.heap.size ≤ j := fun j hj => (h.own.lt j hj).1
  refine ⟨by rw [frCells_snoc]; simpa using h1, (h.tp.alloc ob).grown h2 (fun j hj => by have := hr j hj; omega), gTr2 (gAl h.gr ob) h2 hr⟩
def LAt (w : World) (B g : Nat) (o : Option Addr) (n c : Nat) (z : Nat → Int) (v i : Value) (wr : World) : Prop :=
  ∃ (k : Nat) (ls : List Fr), i = .int .i64 k ∧ ls.length + k ≤ 6 ∧ (∀ x ∈ ls, I2 x) ∧ LS w B g o n c z v ls wr
def GetList (w : World) (B g : Nat) (o : Option Addr) (n c : Nat) (z : Nat → Int) (e : Ending) (w' : World) : Prop :=
  ∃ (v : Value) (ls : List Fr), ls.length ≤ 6 ∧ (∀ x ∈ ls, I2 x) ∧ e = .returned v ∧ LS w B g o n c z v ls w'
theorem all_push {ls : List Fr} {a d : Int} (h : ∀ x ∈ ls, I2 x) (ha : I64 a) (hd : I64 d) : ∀ x ∈ ls ++ [(a, d)], I2 x := fun x hx => by
  rcases List.mem_append.1 hx with hx | hx
  · exact h x hx
  · rw [List.mem_singleton] at hx; subst hx; exact ⟨ha, hd⟩
theorem small_i64 {a d : Int} (h : SmallR a d) : I64 a ∧ I64 d := valid_bd (small_q h).v
set_option maxRecDepth 100000 in
set_option maxHeartbeats 8000000 in
theorem list_any {w : World} {B g : Nat} {o : Option Addr} {n c : Nat} {z : Nat → Int} (h : Tp w B g o n c z) :
    Calls Try.prog 22 #[.pointer (some ⟨g, 0, none⟩), .bool true] w (GetList w B g o n c z) := by
  have hgl := h.lt
  obtain ⟨j0, hj0, hy0, hy1, hy2⟩ := info_parts fr_info
  go_enter Try.func22, Try.ntmps22
  go_wp2_with fail
  refine (tape_next 7 (by omega) (by omega) h).mono ?_
  rintro e w1 ⟨v, ⟨hv0, hv1⟩, rfl, ht, hg⟩
  obtain ⟨k, rfl⟩ := Int.eq_ofNat_of_zero_le hv0
  have hk6 : k ≤ 6 := by omega
  clear h hv0 hv1
  go_wp2_with fail
  go_loopw [5, 6] (fun v i wr => LAt w B g o n c z v i wr) (fun _ i _ => (intOf i).toNat)
  case atStart => exact ⟨k, [], rfl, by simpa using hk6, (fun x hx => by cases hx), World.ownsRow_nil _ _ _ _, ht, hg⟩
  case round =>
    clear ht hg hk6
    obtain ⟨k, ls, rfl, hlk, hall, hS⟩ := hrel
    have HS := Lib.hid hS
    have HA := Lib.hid hall
    clear hS hall
    have hlen : ls.length ≤ 6 := by omega
    by_cases hk0 : 0 < k
    · have hk0' : (0 : Int) < (k : Int) := by omega
      go_wp2_with fail
      refine (tape_one 6 (by omega) (by omega) HS.out.tp).mono ?_
      rintro e w2 ⟨b1, rfl, ht2, hg2⟩
      have S2 := Lib.hid (HS.out.on hgl ht2 hg2)
      clear HS ht2 hg2
      cases b1
      · go_wp2_with fail
        refine (tape_next 2 (by omega) (by omega) S2.out.tp).mono ?_
        rintro e w3 ⟨u, _, rfl, ht3, hg3⟩
        have S3 := Lib.hid (S2.out.on hgl ht3 hg3)
        clear S2 ht3 hg3
        by_cases hu : u = 0
        · subst hu
          go_wp2_with fail
          refine (tape_small S3.out.tp).mono ?_
          rintro e w5 ⟨a, d, hp, rfl, ht5, hg5⟩
          have S5 := Lib.hid (S3.out.on hgl ht5 hg5)
          have HI := Lib.hid (show I64 a ∧ I64 d from small_i64 hp)
          have HSZ := Lib.hid S5.out.gr.size
          clear S3 ht5 hg5 hp
          go_wp2_with ((at_builtin; refine wpList_append_own_at _ rfl (.tmp 26) (.tmp 29) 33 rfl w.heap.size 26 j0 (.agg #[.int .i64 0, .int .i64 0]) 2 16 Try.underlying33 hj0 hy0 hy1 hy2 rfl (by decide) _ _ _ rfl (S5.out.own.alloc _) ⟨w5.heap.size, 0, none⟩ 1 1 [.int .i64 a, .int .i64 d] rfl rfl ?c1 ?c2 ?c3 ?c4 ?c5 ?_; (case c1 => exact cell_two_new _ _ _ _); (case c2 => exact two_one); (case c3 => unfold maxLen; omega); (case c4 => omega); (case c5 => have := HSZ.out; simp; omega); intro v' w6 hown6 hgrow6 hnil6 hat6; have H6 := Lib.hid (And.intro hown6 hgrow6); clear hown6 hgrow6 hnil6 hat6))
          go_roundw
          case rel => exact ⟨k - 1, ls ++ [(a, d)], by go_num, by simp; omega, all_push HA.out HI.out.1 HI.out.2, S5.out.push hgl H6.out.1 H6.out.2⟩
          case measure => simp [intOf]; omega
        · have hub : (u == 0) = false := by rw [beq_eq_false_iff_ne]; exact hu
          go_wp2_with fail
          refine (tape_ratio S3.out.tp).mono ?_
          rintro e w5 ⟨a, d, hp, rfl, ht5, hg5⟩
          have S5 := Lib.hid (S3.out.on hgl ht5 hg5)
          have HI := Lib.hid (show I64 a ∧ I64 d from valid_bd hp)
          have HSZ := Lib.hid S5.out.gr.size
          clear S3 ht5 hg5 hp
          go_wp2_with ((at_builtin; refine wpList_append_own_at _ rfl (.tmp 31) (.tmp 34) 33 rfl w.heap.size 26 j0 (.agg #[.int .i64 0, .int .i64 0]) 2 16 Try.underlying33 hj0 hy0 hy1 hy2 rfl (by decide) _ _ _ rfl (S5.out.own.alloc _) ⟨w5.heap.size, 0, none⟩ 1 1 [.int .i64 a, .int .i64 d] rfl rfl ?c1 ?c2 ?c3 ?c4 ?c5 ?_; (case c1 => exact cell_two_new _ _ _ _); (case c2 => exact two_one); (case c3 => unfold maxLen; omega); (case c4 => omega); (case c5 => have := HSZ.out; simp; omega); intro v' w6 hown6 hgrow6 hnil6 hat6; have H6 := Lib.hid (And.intro hown6 hgrow6); clear hown6 hgrow6 hnil6 hat6))
          go_roundw
          case rel => exact ⟨k - 1, ls ++ [(a, d)], by go_num, by simp; omega, all_push HA.out HI.out.1 HI.out.2, S5.out.push hgl H6.out.1 H6.out.2⟩
          case measure => simp [intOf]; omega
      · go_wp2_with fail
        refine (tape_loose S2.out.tp).mono ?_
        rintro e w5 ⟨a, d, hp, rfl, ht5, hg5⟩
        have S5 := Lib.hid (S2.out.on hgl ht5 hg5)
        have HI := Lib.hid (show I64 a ∧ I64 d from hp)
        have HSZ := Lib.hid S5.out.gr.size
        clear S2 ht5 hg5 hp
        go_wp2_with ((at_builtin; refine wpList_append_own_at _ rfl (.tmp 18) (.tmp 21) 33 rfl w.heap.size 26 j0 (.agg #[.int .i64 0, .int .i64 0]) 2 16 Try.underlying33 hj0 hy0 hy1 hy2 rfl (by decide) _ _ _ rfl (S5.out.own.alloc _) ⟨w5.heap.size, 0, none⟩ 1 1 [.int .i64 a, .int .i64 d] rfl rfl ?c1 ?c2 ?c3 ?c4 ?c5 ?_; (case c1 => exact cell_two_new _ _ _ _); (case c2 => exact two_one); (case c3 => unfold maxLen; omega); (case c4 => omega); (case c5 => have := HSZ.out; simp; omega); intro v' w6 hown6 hgrow6 hnil6 hat6; have H6 := Lib.hid (And.intro hown6 hgrow6); clear hown6 hgrow6 hnil6 hat6))
        go_roundw
        case rel => exact ⟨k - 1, ls ++ [(a, d)], by go_num, by simp; omega, all_push HA.out HI.out.1 HI.out.2, S5.out.push hgl H6.out.1 H6.out.2⟩
        case measure => simp [intOf]; omega
    · obtain rfl : k = 0 := by omega
      have HX := Lib.hid (show ∀ v5, v5 = u5 → GetList w B g o n c z (.returned v5) wr from fun v5 e => by subst e; exact ⟨_, ls, hlen, HA.out, rfl, HS.out⟩)
      go_wp2
      go_ret
      exact HX.out _ rfl
end Go.Proofs.Ytdohidlfcnpojaa
