/-
  The list of events that the statements draw.
-/
import Derived.Test.YtdggmnhddoejhaaDrawSt
import Derived.Test.YtdggmnhddoejhaaGrpMem
import Derived.Test.YtdggmnhddoejhaaDisputed
namespace Go.Proofs.Ytdggmnhddoejhaa
open Go.RowKit
set_option linter.unusedSimpArgs false
set_option linter.unusedVariables false

theorem st_info : (Try.prog.info? 23).map (fun i => (i.zero, i.size, i.bytes)) = some (some (.agg #[.int .i64 0, .int .i64 0, .int .i64 0]), 3, 24) := by kernel_rfl
def stCells (l : List St) : List Value := l.flatMap fun x => [.int .i64 x.1, .int .i64 x.2.1, .int .i64 x.2.2]
theorem stCells_snoc (l : List St) (x : St) : stCells (l ++ [x]) = stCells l ++ [.int .i64 x.1, .int .i64 x.2.1, .int .i64 x.2.2] := by unfold stCells; simp
theorem stCells_at : ∀ (l : List St) (j : Nat) (x : St), l[j]? = some x → (stCells l)[j * 3]? = some (.int .i64 x.1) ∧ (stCells l)[j * 3 + 1]? = some (.int .i64 x.2.1) ∧ (stCells l)[j * 3 + 2]? = some (.int .i64 x.2.2)
  | [], j, x, h => by simp at h
  | a :: t, 0, x, h => by simp at h; subst h; simp [stCells]
  | a :: t, j + 1, x, h => by
    have ih := stCells_at t j x (by simpa using h)
    have e : stCells (a :: t) = .int .i64 a.1 :: .int .i64 a.2.1 :: .int .i64 a.2.2 :: stCells t := by simp [stCells]
    rw [e, show (j + 1) * 3 = j * 3 + 1 + 1 + 1 by omega]
    simp only [List.getElem?_cons_succ]
    exact ih
theorem cell_three_new (w : World) (x y z : Value) (t : TypeId) : ∀ j u, [x, y, z][j]? = some u → (w.alloc (.cells #[x, y, z] t)).cell? ((⟨w.heap.size, 0, none⟩ : Addr).add j) = some u := by
  intro j u hj
  match j, hj with
  | 0, hj => simp at hj; subst hj; exact (Blk.new w t #[x, y, z]).cell 0
  | 1, hj => simp at hj; subst hj; exact (Blk.new w t #[x, y, z]).cell 1
  | 2, hj => simp at hj; subst hj; exact (Blk.new w t #[x, y, z]).cell 2
theorem Tp.grow {w w' : World} {B g : Nat} {o : Option Addr} {n c : Nat} {z : Nat → Int} {row : Option Nat} (h : Tp w B g o n c z) (hg : w.grownBy w' row) (hr : ∀ k, row = some k → g < k) : Tp w' B g o n c z := by
  obtain ⟨k, hk, hB⟩ := h.blk
  exact ⟨h.row.keep fun j hj => hg.block j (by have := hB.lt; have := h.bg; omega) (fun e => by have := hr j e.symm; have := h.bg; omega), h.bg, h.few, k, hk, hB.grown hg (fun e => by have := hr g e.symm; omega)⟩
theorem gRow {a b c : World} {row row' : Option Nat} (h : a.grownBy b row) (k : b.grownBy c row') (hr : ∀ j, row' = some j → a.heap.size ≤ j) : a.grownBy c row :=
  ⟨k.os.trans h.os, k.tape.trans h.tape, k.output.trans h.output, Nat.le_trans h.size k.size, fun j hj hn => (k.block j (Nat.lt_of_lt_of_le hj h.size) (fun e => by have := hr j e.symm; omega)).trans (h.block j hj hn)⟩

theorem three_one {a b c : Int} : ∀ u ∈ ([.int .i64 a, .int .i64 b, .int .i64 c] : List Value), u.oneCell' = true := by
  intro u hu
  simp at hu
  rcases hu with rfl | rfl | rfl <;> rfl
theorem own_any {w : World} {B size n : Nat} {e : TypeId} {v : Value} {xs : List Value} (h : w.ownsRow B e size v n xs) : ∃ p cap, v = .slice p n cap ∧ (0 < n → ∃ q, p = some ⟨q, 0, none⟩) := by
  rcases h.2 with ⟨rfl, h0⟩ | ⟨g, cap, cur, rfl, _⟩
  · subst h0; exact ⟨none, 0, rfl, fun h => absurd h (Nat.lt_irrefl _)⟩
  · exact ⟨_, cap, rfl, fun _ => ⟨g, rfl⟩⟩
structure Ev (w : World) (B g : Nat) (o : Option Addr) (n c : Nat) (z : Nat → Int) (vl vc : Value) (ls : List St) (cs : List Int) (wr : World) : Prop where
  tp : Tp wr B g o n c z
  gr : w.grownBy wr (some g)
  rl : wr.ownsRow w.heap.size 23 3 vl ls.length (stCells ls)
  rc : wr.ownsRow w.heap.size 3 1 vc cs.length (cs.map (Value.int .i64))
  len : cs.length = ls.length
  gl : g < w.heap.size
theorem Ev.on {w : World} {B g : Nat} {o : Option Addr} {n c : Nat} {z : Nat → Int} {vl vc : Value} {ls : List St} {cs : List Int} {w1 w2 : World} (h : Ev w B g o n c z vl vc ls cs w1) (ht : Tp w2 B g o n c z) (hg : w1.grownBy w2 (some g)) : Ev w B g o n c z vl vc ls cs w2 :=
  ⟨ht, gTr h.gr hg, h.rl.kept hg (.inr fun e => by have := (h.rl.lt g e).1; have := h.gl; omega), h.rc.kept hg (.inr fun e => by have := (h.rc.lt g e).1; have := h.gl; omega), h.len, h.gl⟩
theorem Ev.alloc {w : World} {B g : Nat} {o : Option Addr} {n c : Nat} {z : Nat → Int} {vl vc : Value} {ls : List St} {cs : List Int} {w1 : World} (h : Ev w B g o n c z vl vc ls cs w1) (x : Obj) : Ev w B g o n c z vl vc ls cs (w1.alloc x) :=
  ⟨h.tp.alloc x, gAlc h.gr x, h.rl.alloc x, h.rc.alloc x, h.len, h.gl⟩
/-- .. with the stamp of the round in block K -/
structure InEv (w : World) (B g : Nat) (o : Option Addr) (n c : Nat) (z : Nat → Int) (vl vc : Value) (ls : List St) (cs : List Int) (K : Nat) (x : St) (wr : World) : Prop where
  ev : Ev w B g o n c z vl vc ls cs wr
  st : Blk wr K 23 #[.int .i64 x.1, .int .i64 x.2.1, .int .i64 x.2.2]
  lt : w.heap.size ≤ K
  nl : ∀ k, vl.ownBlock = some k → k < K
  nc : ∀ k, vc.ownBlock = some k → k < K
theorem Ev.start {w : World} {B g : Nat} {o : Option Addr} {n c : Nat} {z : Nat → Int} {vl vc : Value} {ls : List St} {cs : List Int} {w1 : World} (h : Ev w B g o n c z vl vc ls cs w1) (x : St) :
    InEv w B g o n c z vl vc ls cs w1.heap.size x (w1.alloc (.cells #[.int .i64 x.1, .int .i64 x.2.1, .int .i64 x.2.2] 23)) :=
  ⟨h.alloc _, Blk.new _ _ _, h.gr.size, fun k hk => (h.rl.lt k hk).2, fun k hk => (h.rc.lt k hk).2⟩
theorem InEv.on {w : World} {B g : Nat} {o : Option Addr} {n c : Nat} {z : Nat → Int} {vl vc : Value} {ls : List St} {cs : List Int} {K : Nat} {x : St} {w1 w2 : World} (h : InEv w B g o n c z vl vc ls cs K x w1) (ht : Tp w2 B g o n c z) (hg : w1.grownBy w2 (some g)) : InEv w B g o n c z vl vc ls cs K x w2 :=
  ⟨h.ev.on ht hg, h.st.grown hg (by have := h.lt; have := h.ev.gl; intro e; cases e; omega), h.lt, h.nl, h.nc⟩
theorem InEv.cells {w : World} {B g : Nat} {o : Option Addr} {n c : Nat} {z : Nat → Int} {vl vc : Value} {ls : List St} {cs : List Int} {K : Nat} {x : St} {w1 : World} (h : InEv w B g o n c z vl vc ls cs K x w1) :
    (w1.cell? ⟨K, 0, none⟩ = some (.int .i64 x.1) ∧ w1.cell? ⟨K, 1, none⟩ = some (.int .i64 x.2.1) ∧ w1.cell? ⟨K, 2, none⟩ = some (.int .i64 x.2.2)) ∧ (w1.frozen? ⟨K, 0, none⟩ = false ∧ w1.frozen? ⟨K, 1, none⟩ = false ∧ w1.frozen? ⟨K, 2, none⟩ = false) ∧ K < w1.heap.size :=
  ⟨⟨h.st.cell 0, h.st.cell 1, h.st.cell 2⟩, ⟨h.st.frozen 0, h.st.frozen 1, h.st.frozen 2⟩, h.st.lt⟩
theorem InEv.put {w : World} {B g : Nat} {o : Option Addr} {n c : Nat} {z : Nat → Int} {vl vc : Value} {ls : List St} {cs : List Int} {K : Nat} {x : St} {w1 : World} (h : InEv w B g o n c z vl vc ls cs K x w1) (y : St) :
    InEv w B g o n c z vl vc ls cs K y (((w1.setCell ⟨K, 0, none⟩ (.int .i64 y.1)).setCell ⟨K, 1, none⟩ (.int .i64 y.2.1)).setCell ⟨K, 2, none⟩ (.int .i64 y.2.2)) := by
  have one : ∀ {W : World} {cs' : Array Value} (i : Nat) (v : Value), Ev w B g o n c z vl vc ls cs W → Blk W K 23 cs' → Ev w B g o n c z vl vc ls cs (W.setCell ⟨K, i, none⟩ v) ∧ Blk (W.setCell ⟨K, i, none⟩ v) K 23 (cs'.setIfInBounds i v) := by
    intro W cs' i v he hb
    have hg := grownSet W K i v
    refine ⟨⟨he.tp.grow hg (fun k hk => by cases hk; have := h.lt; have := h.ev.gl; omega), gRow he.gr hg (fun j hj => by cases hj; exact h.lt), he.rl.kept hg (.inr fun e => by have := h.nl K e; omega), he.rc.kept hg (.inr fun e => by have := h.nc K e; omega), he.len, he.gl⟩, hb.set_ i v⟩
  obtain ⟨e1, b1⟩ := one 0 (.int .i64 y.1) h.ev h.st
  obtain ⟨e2, b2⟩ := one 1 (.int .i64 y.2.1) e1 b1
  obtain ⟨e3, b3⟩ := one 2 (.int .i64 y.2.2) e2 b2
  exact ⟨e3, by simpa using b3, h.lt, h.nl, h.nc⟩
/-- behind the two appends of the round -/
theorem Ev.push {w : World} {B g : Nat} {o : Option Addr} {n c : Nat} {z : Nat → Int} {vl vc vl' vc' : Value} {ls : List St} {cs : List Int} {x : St} {d : Int} {w1 w2 w3 : World} {o1 o2 : Obj} (h : Ev w B g o n c z vl vc ls cs w1)
    (h1 : w2.ownsRow w.heap.size 23 3 vl' (ls.length + 1) (stCells ls ++ [.int .i64 x.1, .int .i64 x.2.1, .int .i64 x.2.2])) (g1 : (w1.alloc o1).grownBy w2 vl.ownBlock)
    (h2 : w3.ownsRow w.heap.size 3 1 vc' (cs.length + 1) (cs.map (Value.int .i64) ++ [.int .i64 d])) (g2 : (w2.alloc o2).grownBy w3 vc.ownBlock) : Ev w B g o n c z vl' vc' (ls ++ [x]) (cs ++ [d]) w3 := by
  have a1 : w.heap.size ≤ w1.heap.size := h.gr.size
  have rl2 : (w2.alloc o2).ownsRow w.heap.size 23 3 vl' (ls.length + 1) (stCells ls ++ [.int .i64 x.1, .int .i64 x.2.1, .int .i64 x.2.2]) := h1.alloc _
  have rc2 : w2.ownsRow w.heap.size 3 1 vc cs.length (cs.map (Value.int .i64)) := (h.rc.alloc o1).kept g1 (own_apart h.rc h.rl (by decide))
  refine ⟨((((h.tp.alloc o1).grow g1 ?_).alloc o2).grow g2 ?_), gRow (gAlc (gRow (gAlc h.gr o1) g1 ?_) o2) g2 ?_, ?_, ?_, by simp [h.len], h.gl⟩
  · intro k hk; have := (h.rl.lt k hk).1; have := h.gl; omega
  · intro k hk; have := (h.rc.lt k hk).1; have := h.gl; omega
  · intro k hk; exact (h.rl.lt k hk).1
  · intro k hk; exact (h.rc.lt k hk).1
  · have := rl2.kept g2 (own_apart rl2 (rc2.alloc o2) (by decide))
    rw [stCells_snoc]; simpa using this
  · simpa using h2
def EvR (w : World) (B g : Nat) (o : Option Addr) (n c : Nat) (z : Nat → Int) (most : Int) (e : Ending) (w' : World) : Prop :=
  ∃ (vl vc : Value) (ls : List St) (cs : List Int), e = .returned (.tuple #[vl, vc]) ∧ Ev w B g o n c z vl vc ls cs w' ∧ (ls.length : Int) ≤ most
def EAt (w : World) (B g : Nat) (o : Option Addr) (n c : Nat) (z : Nat → Int) (most : Int) (vl vc i : Value) (wr : World) : Prop :=
  ∃ (k : Nat) (ls : List St) (cs : List Int), i = .int .i64 k ∧ (ls.length : Int) + k ≤ most ∧ Ev w B g o n c z vl vc ls cs wr

set_option maxRecDepth 100000 in
set_option maxHeartbeats 8000000 in
theorem events_any (most N : Int) (hm : 0 ≤ most) (hm1 : most ≤ 100) (hN : 1 ≤ N) (hN1 : N < 1000000) {w : World} {B g : Nat} {o : Option Addr} {n c : Nat} {z : Nat → Int} (h : Tp w B g o n c z) :
    Calls Try.prog 18 #[.pointer (some ⟨g, 0, none⟩), .int .i64 most, .int .i64 N] w (EvR w B g o n c z most) := by
  have hgl := h.lt
  obtain ⟨i0, hi0, hz0, hz1, hz2⟩ := info_parts int_info
  obtain ⟨j0, hj0, hy0, hy1, hy2⟩ := info_parts st_info
  go_enter Try.func18, Try.ntmps18
  go_wp2_with fail
  refine (tape_range 0 most (by omega) (by omega) (by omega) h).mono ?_
  rintro e w1 ⟨v, ⟨hv0, hv1⟩, rfl, ht1, hg1⟩
  obtain ⟨v, rfl⟩ := Int.eq_ofNat_of_zero_le hv0
  have HE := Lib.hid (show Ev w B g o n c z (.slice none 0 0) (.slice none 0 0) [] [] w1 from ⟨ht1, hg1, World.ownsRow_nil _ _ _ _, World.ownsRow_nil _ _ _ _, rfl, hgl⟩)
  clear h ht1 hg1
  go_wp2_with fail
  go_loopw [8, 9, 10] (fun vl vc i wr => EAt w B g o n c z most vl vc i wr) (fun _ _ i _ => (intOf i).toNat)
  case atStart => exact ⟨v, [], [], rfl, by simpa using hv1, HE.out⟩
  case round =>
    obtain ⟨k, ls, cs, rfl, hlk, hev⟩ := hrel
    have HEV := Lib.hid hev
    clear hev HE
    by_cases hk0 : k = 0
    · have HX := Lib.hid (show ∀ a b, a = u8 → b = u9 → EvR w B g o n c z most (.returned (.tuple #[a, b])) wr from fun a b ea eb => by subst ea; subst eb; exact ⟨_, _, ls, cs, rfl, HEV.out, by omega⟩)
      subst hk0
      go_wp2
      go_ret2
      exact HX.out _ _ rfl rfl
    · have hkp : (0 : Int) < (k : Int) := by omega
      have hkn : 0 < k := by omega
      have HKB := Lib.hid hlk
      go_wp2_with fail
      refine (tape_stamp N hN hN1 HEV.out.tp).mono ?_
      rintro e w2 ⟨x, rfl, ht2, hg2⟩
      have HV2 := Lib.hid (HEV.out.on ht2 hg2)
      have S0 := Lib.hid (HV2.out.start x)
      clear ht2 hg2 HEV
      have HLL := Lib.hid HV2.out.len

      obtain ⟨pl, capl, hvl, hpl⟩ := own_any HV2.out.rl
      subst hvl
      by_cases hl0 : ls.length = 0
      · have g0 : decide ((0 : Int) < (ls.length : Int)) = false := decide_eq_false (by omega)
        have g1 : decide (0 < ls.length) = false := decide_eq_false (by omega)
        clear hpl hl0
        go_wp2_with fail
        refine (tape_one 5 (by omega) (by omega) S0.out.ev.tp).mono ?_
        rintro e w8 ⟨v8, rfl, ht8, hg8⟩
        have S8 := Lib.hid (S0.out.on ht8 hg8)
        clear ht8 hg8 S0
        cases v8
        · obtain ⟨⟨a0, a1, a2⟩, _, lK⟩ := S8.out.cells
          have HSZ := Lib.hid S8.out.ev.gr.size
          go_wp2_with (first | (at_builtin; refine wpList_append_own_at _ rfl (.tmp 42) (.tmp 44) 31 rfl w.heap.size 23 j0 (.agg #[.int .i64 0, .int .i64 0, .int .i64 0]) 3 24 Try.underlying31 hj0 hy0 hy1 hy2 rfl (by decide) _ _ _ rfl (S8.out.ev.rl.alloc _) ⟨w8.heap.size, 0, none⟩ 1 1 [.int .i64 x.1, .int .i64 x.2.1, .int .i64 x.2.2] rfl rfl ?c1 ?c2 ?c3 ?c4 ?c5 ?_; (case c1 => exact cell_three_new _ _ _ _ _); (case c2 => exact three_one); (case c3 => have := HKB.out; unfold maxLen; omega); (case c4 => have := HKB.out; omega); (case c5 => have := HSZ.out; simp; omega); intro vl' w10 hown10 hgrow10 hnil10 hat10; have H10 := Lib.hid (And.intro hown10 hgrow10); clear hown10 hgrow10 hnil10 hat10) | (at_builtin; refine wpList_append_own_at _ rfl (.tmp 46) (.tmp 48) 28 rfl w.heap.size 3 i0 (.int .i64 0) 1 8 Try.underlying28 hi0 hz0 hz1 hz2 rfl (by decide) _ _ _ rfl (((S8.out.ev.rc.alloc _).kept H10.out.2 (own_apart S8.out.ev.rc S8.out.ev.rl (by decide))).alloc _) ⟨w10.heap.size, 0, none⟩ 1 1 [.int .i64 0] rfl rfl ?d1 ?d2 ?d3 ?d4 ?d5 ?_; (case d1 => exact cell_one_new _ _ _); (case d2 => intro u hu; simp at hu; subst hu; rfl); (case d3 => have := HKB.out; have := HLL.out; unfold maxLen; omega); (case d4 => have := HKB.out; have := HLL.out; omega); (case d5 => have h1 := HSZ.out; have h2 := H10.out.2.size; simp at h2 ⊢; omega); intro vc' w11 hown11 hgrow11 hnil11 hat11; have H11 := Lib.hid (And.intro hown11 hgrow11); clear hown11 hgrow11 hnil11 hat11))
          go_roundw
          case rel => exact ⟨k - 1, ls ++ [x], cs ++ [0], by go_num, by have := HKB.out; simp; omega, S8.out.ev.push H10.out.1 H10.out.2 H11.out.1 H11.out.2⟩
          case measure => simp [intOf]; omega
        · go_wp2_with fail
          refine (tape_next 3 (by omega) (by omega) S8.out.ev.tp).mono ?_
          rintro e w9 ⟨d9, _, rfl, ht9, hg9⟩
          have S9 := Lib.hid (S8.out.on ht9 hg9)
          clear ht9 hg9 S8
          obtain ⟨⟨a0, a1, a2⟩, _, lK⟩ := S9.out.cells
          have HSZ := Lib.hid S9.out.ev.gr.size
          go_wp2_with (first | (at_builtin; refine wpList_append_own_at _ rfl (.tmp 42) (.tmp 44) 31 rfl w.heap.size 23 j0 (.agg #[.int .i64 0, .int .i64 0, .int .i64 0]) 3 24 Try.underlying31 hj0 hy0 hy1 hy2 rfl (by decide) _ _ _ rfl (S9.out.ev.rl.alloc _) ⟨w9.heap.size, 0, none⟩ 1 1 [.int .i64 x.1, .int .i64 x.2.1, .int .i64 x.2.2] rfl rfl ?c1 ?c2 ?c3 ?c4 ?c5 ?_; (case c1 => exact cell_three_new _ _ _ _ _); (case c2 => exact three_one); (case c3 => have := HKB.out; unfold maxLen; omega); (case c4 => have := HKB.out; omega); (case c5 => have := HSZ.out; simp; omega); intro vl' w10 hown10 hgrow10 hnil10 hat10; have H10 := Lib.hid (And.intro hown10 hgrow10); clear hown10 hgrow10 hnil10 hat10) | (at_builtin; refine wpList_append_own_at _ rfl (.tmp 46) (.tmp 48) 28 rfl w.heap.size 3 i0 (.int .i64 0) 1 8 Try.underlying28 hi0 hz0 hz1 hz2 rfl (by decide) _ _ _ rfl (((S9.out.ev.rc.alloc _).kept H10.out.2 (own_apart S9.out.ev.rc S9.out.ev.rl (by decide))).alloc _) ⟨w10.heap.size, 0, none⟩ 1 1 [.int .i64 d9] rfl rfl ?d1 ?d2 ?d3 ?d4 ?d5 ?_; (case d1 => exact cell_one_new _ _ _); (case d2 => intro u hu; simp at hu; subst hu; rfl); (case d3 => have := HKB.out; have := HLL.out; unfold maxLen; omega); (case d4 => have := HKB.out; have := HLL.out; omega); (case d5 => have h1 := HSZ.out; have h2 := H10.out.2.size; simp at h2 ⊢; omega); intro vc' w11 hown11 hgrow11 hnil11 hat11; have H11 := Lib.hid (And.intro hown11 hgrow11); clear hown11 hgrow11 hnil11 hat11))
          go_roundw
          case rel => exact ⟨k - 1, ls ++ [x], cs ++ [d9], by go_num, by have := HKB.out; simp; omega, S9.out.ev.push H10.out.1 H10.out.2 H11.out.1 H11.out.2⟩
          case measure => simp [intOf]; omega
      · obtain ⟨ql, rfl⟩ := hpl (by omega)
        have hlp : 0 < ls.length := by omega
        have hlq : (0 : Int) < (ls.length : Int) := by omega
        have g0 : decide ((0 : Int) < (ls.length : Int)) = true := decide_eq_true (by omega)
        have g1 : decide (0 < ls.length) = true := decide_eq_true (by omega)
        clear hpl hl0
        go_wp2_with fail
        refine (tape_next 3 (by omega) (by omega) S0.out.ev.tp).mono ?_
        rintro e w3 ⟨u, ⟨hu0, hu1⟩, rfl, ht3, hg3⟩
        have S3 := Lib.hid (S0.out.on ht3 hg3)
        clear ht3 hg3 S0
        by_cases hu : u = 0
        · subst hu
          have hlq2 : (ls.length : Int) < 1000000 := by have := HKB.out; omega
          go_wp2_with fail
          refine (tape_next (ls.length : Int) (by omega) (by omega) S3.out.ev.tp).mono ?_
          rintro e w4 ⟨j, ⟨hjb0, hjb1⟩, rfl, ht4, hg4⟩
          have S4 := Lib.hid (S3.out.on ht4 hg4)
          clear ht4 hg4 S3
          obtain ⟨j, rfl⟩ := Int.eq_ofNat_of_zero_le hjb0
          have hjl : j < ls.length := by omega
          obtain ⟨y, hy⟩ : ∃ y, ls[j]? = some y := ⟨_, List.getElem?_eq_getElem hjl⟩
          obtain ⟨e0, e1, e2⟩ := stCells_at ls j y hy
          have r0 : w4.cell? ⟨ql, j * 3, none⟩ = some (.int .i64 y.1) := (S4.out.ev.rl.cellAt (j * 3) (by omega)).trans e0
          have r1 : w4.cell? ⟨ql, j * 3 + 1, none⟩ = some (.int .i64 y.2.1) := (S4.out.ev.rl.cellAt (j * 3 + 1) (by omega)).trans e1
          have r2 : w4.cell? ⟨ql, j * 3 + 2, none⟩ = some (.int .i64 y.2.2) := (S4.out.ev.rl.cellAt (j * 3 + 2) (by omega)).trans e2
          have S5 := Lib.hid (S4.out.put y)
          obtain ⟨⟨a0, a1, a2⟩, ⟨f0, f1, f2⟩, lK⟩ := S4.out.cells
          clear e0 e1 e2 hy S4
          go_wp2_with fail
          generalize ((w4.setCell ⟨w2.heap.size, 0, none⟩ (.int .i64 y.1)).setCell ⟨w2.heap.size, 1, none⟩ (.int .i64 y.2.1)).setCell ⟨w2.heap.size, 2, none⟩ (.int .i64 y.2.2) = w5 at S5 ⊢
          clear r0 r1 r2 a0 a1 a2 f0 f1 f2 lK
          refine (tape_one 5 (by omega) (by omega) S5.out.ev.tp).mono ?_
          rintro e w8 ⟨v8, rfl, ht8, hg8⟩
          have S8 := Lib.hid (S5.out.on ht8 hg8)
          clear ht8 hg8 S5
          cases v8
          · obtain ⟨⟨a0, a1, a2⟩, _, lK⟩ := S8.out.cells
            have HSZ := Lib.hid S8.out.ev.gr.size
            go_wp2_with (first | (at_builtin; refine wpList_append_own_at _ rfl (.tmp 42) (.tmp 44) 31 rfl w.heap.size 23 j0 (.agg #[.int .i64 0, .int .i64 0, .int .i64 0]) 3 24 Try.underlying31 hj0 hy0 hy1 hy2 rfl (by decide) _ _ _ rfl (S8.out.ev.rl.alloc _) ⟨w8.heap.size, 0, none⟩ 1 1 [.int .i64 y.1, .int .i64 y.2.1, .int .i64 y.2.2] rfl rfl ?c1 ?c2 ?c3 ?c4 ?c5 ?_; (case c1 => exact cell_three_new _ _ _ _ _); (case c2 => exact three_one); (case c3 => have := HKB.out; unfold maxLen; omega); (case c4 => have := HKB.out; omega); (case c5 => have := HSZ.out; simp; omega); intro vl' w10 hown10 hgrow10 hnil10 hat10; have H10 := Lib.hid (And.intro hown10 hgrow10); clear hown10 hgrow10 hnil10 hat10) | (at_builtin; refine wpList_append_own_at _ rfl (.tmp 46) (.tmp 48) 28 rfl w.heap.size 3 i0 (.int .i64 0) 1 8 Try.underlying28 hi0 hz0 hz1 hz2 rfl (by decide) _ _ _ rfl (((S8.out.ev.rc.alloc _).kept H10.out.2 (own_apart S8.out.ev.rc S8.out.ev.rl (by decide))).alloc _) ⟨w10.heap.size, 0, none⟩ 1 1 [.int .i64 0] rfl rfl ?d1 ?d2 ?d3 ?d4 ?d5 ?_; (case d1 => exact cell_one_new _ _ _); (case d2 => intro u hu; simp at hu; subst hu; rfl); (case d3 => have := HKB.out; have := HLL.out; unfold maxLen; omega); (case d4 => have := HKB.out; have := HLL.out; omega); (case d5 => have h1 := HSZ.out; have h2 := H10.out.2.size; simp at h2 ⊢; omega); intro vc' w11 hown11 hgrow11 hnil11 hat11; have H11 := Lib.hid (And.intro hown11 hgrow11); clear hown11 hgrow11 hnil11 hat11))
            go_roundw
            case rel => exact ⟨k - 1, ls ++ [y], cs ++ [0], by go_num, by have := HKB.out; simp; omega, S8.out.ev.push H10.out.1 H10.out.2 H11.out.1 H11.out.2⟩
            case measure => simp [intOf]; omega
          · go_wp2_with fail
            refine (tape_next 3 (by omega) (by omega) S8.out.ev.tp).mono ?_
            rintro e w9 ⟨d9, _, rfl, ht9, hg9⟩
            have S9 := Lib.hid (S8.out.on ht9 hg9)
            clear ht9 hg9 S8
            obtain ⟨⟨a0, a1, a2⟩, _, lK⟩ := S9.out.cells
            have HSZ := Lib.hid S9.out.ev.gr.size
            go_wp2_with (first | (at_builtin; refine wpList_append_own_at _ rfl (.tmp 42) (.tmp 44) 31 rfl w.heap.size 23 j0 (.agg #[.int .i64 0, .int .i64 0, .int .i64 0]) 3 24 Try.underlying31 hj0 hy0 hy1 hy2 rfl (by decide) _ _ _ rfl (S9.out.ev.rl.alloc _) ⟨w9.heap.size, 0, none⟩ 1 1 [.int .i64 y.1, .int .i64 y.2.1, .int .i64 y.2.2] rfl rfl ?c1 ?c2 ?c3 ?c4 ?c5 ?_; (case c1 => exact cell_three_new _ _ _ _ _); (case c2 => exact three_one); (case c3 => have := HKB.out; unfold maxLen; omega); (case c4 => have := HKB.out; omega); (case c5 => have := HSZ.out; simp; omega); intro vl' w10 hown10 hgrow10 hnil10 hat10; have H10 := Lib.hid (And.intro hown10 hgrow10); clear hown10 hgrow10 hnil10 hat10) | (at_builtin; refine wpList_append_own_at _ rfl (.tmp 46) (.tmp 48) 28 rfl w.heap.size 3 i0 (.int .i64 0) 1 8 Try.underlying28 hi0 hz0 hz1 hz2 rfl (by decide) _ _ _ rfl (((S9.out.ev.rc.alloc _).kept H10.out.2 (own_apart S9.out.ev.rc S9.out.ev.rl (by decide))).alloc _) ⟨w10.heap.size, 0, none⟩ 1 1 [.int .i64 d9] rfl rfl ?d1 ?d2 ?d3 ?d4 ?d5 ?_; (case d1 => exact cell_one_new _ _ _); (case d2 => intro u hu; simp at hu; subst hu; rfl); (case d3 => have := HKB.out; have := HLL.out; unfold maxLen; omega); (case d4 => have := HKB.out; have := HLL.out; omega); (case d5 => have h1 := HSZ.out; have h2 := H10.out.2.size; simp at h2 ⊢; omega); intro vc' w11 hown11 hgrow11 hnil11 hat11; have H11 := Lib.hid (And.intro hown11 hgrow11); clear hown11 hgrow11 hnil11 hat11))
            go_roundw
            case rel => exact ⟨k - 1, ls ++ [y], cs ++ [d9], by go_num, by have := HKB.out; simp; omega, S9.out.ev.push H10.out.1 H10.out.2 H11.out.1 H11.out.2⟩
            case measure => simp [intOf]; omega
        · have hu' : (u == 0) = false := by rw [beq_eq_false_iff_ne]; exact hu
          clear hu
          go_wp2_with fail
          refine (tape_one 5 (by omega) (by omega) S3.out.ev.tp).mono ?_
          rintro e w8 ⟨v8, rfl, ht8, hg8⟩
          have S8 := Lib.hid (S3.out.on ht8 hg8)
          clear ht8 hg8 S3
          cases v8
          · obtain ⟨⟨a0, a1, a2⟩, _, lK⟩ := S8.out.cells
            have HSZ := Lib.hid S8.out.ev.gr.size
            go_wp2_with (first | (at_builtin; refine wpList_append_own_at _ rfl (.tmp 42) (.tmp 44) 31 rfl w.heap.size 23 j0 (.agg #[.int .i64 0, .int .i64 0, .int .i64 0]) 3 24 Try.underlying31 hj0 hy0 hy1 hy2 rfl (by decide) _ _ _ rfl (S8.out.ev.rl.alloc _) ⟨w8.heap.size, 0, none⟩ 1 1 [.int .i64 x.1, .int .i64 x.2.1, .int .i64 x.2.2] rfl rfl ?c1 ?c2 ?c3 ?c4 ?c5 ?_; (case c1 => exact cell_three_new _ _ _ _ _); (case c2 => exact three_one); (case c3 => have := HKB.out; unfold maxLen; omega); (case c4 => have := HKB.out; omega); (case c5 => have := HSZ.out; simp; omega); intro vl' w10 hown10 hgrow10 hnil10 hat10; have H10 := Lib.hid (And.intro hown10 hgrow10); clear hown10 hgrow10 hnil10 hat10) | (at_builtin; refine wpList_append_own_at _ rfl (.tmp 46) (.tmp 48) 28 rfl w.heap.size 3 i0 (.int .i64 0) 1 8 Try.underlying28 hi0 hz0 hz1 hz2 rfl (by decide) _ _ _ rfl (((S8.out.ev.rc.alloc _).kept H10.out.2 (own_apart S8.out.ev.rc S8.out.ev.rl (by decide))).alloc _) ⟨w10.heap.size, 0, none⟩ 1 1 [.int .i64 0] rfl rfl ?d1 ?d2 ?d3 ?d4 ?d5 ?_; (case d1 => exact cell_one_new _ _ _); (case d2 => intro u hu; simp at hu; subst hu; rfl); (case d3 => have := HKB.out; have := HLL.out; unfold maxLen; omega); (case d4 => have := HKB.out; have := HLL.out; omega); (case d5 => have h1 := HSZ.out; have h2 := H10.out.2.size; simp at h2 ⊢; omega); intro vc' w11 hown11 hgrow11 hnil11 hat11; have H11 := Lib.hid (And.intro hown11 hgrow11); clear hown11 hgrow11 hnil11 hat11))
            go_roundw
            case rel => exact ⟨k - 1, ls ++ [x], cs ++ [0], by go_num, by have := HKB.out; simp; omega, S8.out.ev.push H10.out.1 H10.out.2 H11.out.1 H11.out.2⟩
            case measure => simp [intOf]; omega
          · go_wp2_with fail
            refine (tape_next 3 (by omega) (by omega) S8.out.ev.tp).mono ?_
            rintro e w9 ⟨d9, _, rfl, ht9, hg9⟩
            have S9 := Lib.hid (S8.out.on ht9 hg9)
            clear ht9 hg9 S8
            obtain ⟨⟨a0, a1, a2⟩, _, lK⟩ := S9.out.cells
            have HSZ := Lib.hid S9.out.ev.gr.size
            go_wp2_with (first | (at_builtin; refine wpList_append_own_at _ rfl (.tmp 42) (.tmp 44) 31 rfl w.heap.size 23 j0 (.agg #[.int .i64 0, .int .i64 0, .int .i64 0]) 3 24 Try.underlying31 hj0 hy0 hy1 hy2 rfl (by decide) _ _ _ rfl (S9.out.ev.rl.alloc _) ⟨w9.heap.size, 0, none⟩ 1 1 [.int .i64 x.1, .int .i64 x.2.1, .int .i64 x.2.2] rfl rfl ?c1 ?c2 ?c3 ?c4 ?c5 ?_; (case c1 => exact cell_three_new _ _ _ _ _); (case c2 => exact three_one); (case c3 => have := HKB.out; unfold maxLen; omega); (case c4 => have := HKB.out; omega); (case c5 => have := HSZ.out; simp; omega); intro vl' w10 hown10 hgrow10 hnil10 hat10; have H10 := Lib.hid (And.intro hown10 hgrow10); clear hown10 hgrow10 hnil10 hat10) | (at_builtin; refine wpList_append_own_at _ rfl (.tmp 46) (.tmp 48) 28 rfl w.heap.size 3 i0 (.int .i64 0) 1 8 Try.underlying28 hi0 hz0 hz1 hz2 rfl (by decide) _ _ _ rfl (((S9.out.ev.rc.alloc _).kept H10.out.2 (own_apart S9.out.ev.rc S9.out.ev.rl (by decide))).alloc _) ⟨w10.heap.size, 0, none⟩ 1 1 [.int .i64 d9] rfl rfl ?d1 ?d2 ?d3 ?d4 ?d5 ?_; (case d1 => exact cell_one_new _ _ _); (case d2 => intro u hu; simp at hu; subst hu; rfl); (case d3 => have := HKB.out; have := HLL.out; unfold maxLen; omega); (case d4 => have := HKB.out; have := HLL.out; omega); (case d5 => have h1 := HSZ.out; have h2 := H10.out.2.size; simp at h2 ⊢; omega); intro vc' w11 hown11 hgrow11 hnil11 hat11; have H11 := Lib.hid (And.intro hown11 hgrow11); clear hown11 hgrow11 hnil11 hat11))
            go_roundw
            case rel => exact ⟨k - 1, ls ++ [x], cs ++ [d9], by go_num, by have := HKB.out; simp; omega, S9.out.ev.push H10.out.1 H10.out.2 H11.out.1 H11.out.2⟩
            case measure => simp [intOf]; omega
end Go.Proofs.Ytdggmnhddoejhaa
