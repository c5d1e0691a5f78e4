/-
  Slices that came in: stamps and numbers; the two closures that compare events by their places.
-/
import Derived.Test.YtdggmnhddoejhaaRefSt
import Derived.Laws.StructEq
namespace Go.Proofs.Ytdggmnhddoejhaa
open Go.RowKit
set_option linter.unusedSimpArgs false
set_option linter.unusedVariables false

/-- a slice of stamps reads as L, below block B -/
def RowS (w : World) (B : Nat) (o : Option Addr) (n : Nat) (L : Nat → St) : Prop :=
  ∀ i, i < n → ∃ b off, o = some ⟨b, off, none⟩ ∧ b < B ∧ w.cell? ⟨b, off + i * 3, none⟩ = some (.int .i64 (L i).1) ∧ w.cell? ⟨b, off + i * 3 + 1, none⟩ = some (.int .i64 (L i).2.1) ∧ w.cell? ⟨b, off + i * 3 + 2, none⟩ = some (.int .i64 (L i).2.2)
/-- a slice of numbers reads as C, below block B -/
def RowI (w : World) (B : Nat) (o : Option Addr) (n : Nat) (C : Nat → Int) : Prop :=
  ∀ i, i < n → ∃ b off, o = some ⟨b, off, none⟩ ∧ b < B ∧ w.cell? ⟨b, off + i, none⟩ = some (.int .i64 (C i))
theorem RowS.keep {w w' : World} {B n : Nat} {o : Option Addr} {L : Nat → St} (h : RowS w B o n L) (hk : ∀ k, k < B → w'.heap[k]? = w.heap[k]?) : RowS w' B o n L := by
  intro i hi
  obtain ⟨b, off, ho, hb, h0, h1, h2⟩ := h i hi
  exact ⟨b, off, ho, hb, (World.cell?_of_block (a := ⟨b, _, none⟩) (hk b hb)).trans h0, (World.cell?_of_block (a := ⟨b, _, none⟩) (hk b hb)).trans h1, (World.cell?_of_block (a := ⟨b, _, none⟩) (hk b hb)).trans h2⟩
theorem RowI.keep {w w' : World} {B n : Nat} {o : Option Addr} {C : Nat → Int} (h : RowI w B o n C) (hk : ∀ k, k < B → w'.heap[k]? = w.heap[k]?) : RowI w' B o n C := by
  intro i hi
  obtain ⟨b, off, ho, hb, h0⟩ := h i hi
  exact ⟨b, off, ho, hb, (World.cell?_of_block (a := ⟨b, _, none⟩) (hk b hb)).trans h0⟩
theorem RowS.below {w w' : World} {B B' n : Nat} {o : Option Addr} {L : Nat → St} (h : RowS w B o n L) (hb : Below B' w w') (hB : B ≤ B') : RowS w' B o n L := h.keep fun k hk => hb.block k (by omega)
theorem RowI.below {w w' : World} {B B' n : Nat} {o : Option Addr} {C : Nat → Int} (h : RowI w B o n C) (hb : Below B' w w') (hB : B ≤ B') : RowI w' B o n C := h.keep fun k hk => hb.block k (by omega)
theorem RowS.more {w : World} {B B' n : Nat} {o : Option Addr} {L : Nat → St} (h : RowS w B o n L) (hB : B ≤ B') : RowS w B' o n L := fun i hi => by
  obtain ⟨b, off, ho, hb, hr⟩ := h i hi
  exact ⟨b, off, ho, by omega, hr⟩
theorem RowI.more {w : World} {B B' n : Nat} {o : Option Addr} {C : Nat → Int} (h : RowI w B o n C) (hB : B ≤ B') : RowI w B' o n C := fun i hi => by
  obtain ⟨b, off, ho, hb, hr⟩ := h i hi
  exact ⟨b, off, ho, by omega, hr⟩
theorem RowS.less {w : World} {B n m : Nat} {o : Option Addr} {L : Nat → St} (h : RowS w B o n L) (hm : m ≤ n) : RowS w B o m L := fun i hi => h i (by omega)
theorem RowI.less {w : World} {B n m : Nat} {o : Option Addr} {C : Nat → Int} (h : RowI w B o n C) (hm : m ≤ n) : RowI w B o m C := fun i hi => h i (by omega)

set_option maxHeartbeats 1000000 in
/-- the comparison by identity and place -/
theorem closure_id (w : World) (B bx c : Nat) (o : Option Addr) (n : Nat) (L : Nat → St) (hs : RowS w B o n L) (hbx : w.cell? ⟨bx, 0, none⟩ = some (.slice o n c)) (hlt : bx < w.heap.size) (hB : B ≤ w.heap.size) (i k : Nat) (hi : i < n) (hk : k < n) (hn : n ≤ 9223372036854775807) :
    Calls Try.prog 50 #[.int .i64 i, .int .i64 k, .pointer (some ⟨bx, 0, none⟩)] w fun e w' => e = .returned (.int .i64 (orI (cmp2 (L i) (L k)) (cmpI i k))) ∧ Gro w w' := by
  obtain ⟨b, off, rfl, hb, a0, a1, a2⟩ := hs i hi
  obtain ⟨b', off', hbb, _, d0, d1, d2⟩ := hs k hk
  injection hbb with hbb
  injection hbb with h1 h2
  subst h1; subst h2
  clear hs
  have hi0 : (i : Int) < n := by omega
  have hk0 : (k : Int) < n := by omega
  have hbs : b < w.heap.size := by omega
  generalize (L i).1 = t at a0
  have HB := Lib.hid (Gro.refl w)
  have HE := Lib.hid (show orI (orI (cmpI (L i).2.1 (L k).2.1) (cmpI (L i).2.2 (L k).2.2)) (cmpI i k) = orI (cmp2 (L i) (L k)) (cmpI i k) from rfl)
  rw [← HE.out]
  clear HE
  generalize (L i).2.1 = s at *
  generalize (L i).2.2 = q at *
  generalize (L k).1 = t' at *
  generalize (L k).2.1 = s' at *
  generalize (L k).2.2 = q' at *
  go_enter Try.func50, Try.ntmps50
  go_wp2_with fail
  go_region_held3 (fun w' => w'.cell? ⟨bx, 0, none⟩ = some (.slice (some ⟨b, off, none⟩) n c) ∧ w'.cell? ⟨b, off + i * 3, none⟩ = some (.int .i64 t) ∧ w'.cell? ⟨b, off + i * 3 + 1, none⟩ = some (.int .i64 s) ∧ w'.cell? ⟨b, off + i * 3 + 2, none⟩ = some (.int .i64 q) ∧ w'.cell? ⟨b, off + k * 3, none⟩ = some (.int .i64 t') ∧ w'.cell? ⟨b, off + k * 3 + 1, none⟩ = some (.int .i64 s') ∧ w'.cell? ⟨b, off + k * 3 + 2, none⟩ = some (.int .i64 q')) (first | (go_split_ands; refine ⟨?_, ?_, ?_, ?_, ?_, ?_, ?_⟩ <;> (rw [hb.below.cell (by simp; omega)]; assumption)) | go_keep)
    (first | (go_at_call 34; refine (compare_int _ _ _).mono ?_; rintro e w' ⟨rfl, rfl⟩) | (go_at_call 35; refine (compareId_any _ _ _ _ _ _ _).mono ?_; rintro e w' ⟨rfl, hb⟩; have HB := Lib.hid (Gro.trans (by first | exact HB.out | exact Gro.drew HB.out) hb); have hlt := Nat.lt_of_lt_of_le hlt hb.size; have hbs := Nat.lt_of_lt_of_le hbs hb.size) | (go_at_call 33; refine (or_int (orI (cmpI s s') (cmpI q q')) (cmpI i k) _ _ ?_ ?_).mono ?_; (exact (Blk.newAt rfl).cell 0); (exact (Blk.newAt rfl).cell 1); rintro e w' ⟨rfl, rfl⟩))
  go_wp2
  go_ret
  exact ⟨rfl, HB.out.alloc _⟩

set_option maxHeartbeats 1000000 in
/-- the comparison by stamp -/
theorem closure_st (w : World) (B bx c : Nat) (o : Option Addr) (n : Nat) (L : Nat → St) (hs : RowS w B o n L) (hbx : w.cell? ⟨bx, 0, none⟩ = some (.slice o n c)) (hlt : bx < w.heap.size) (hB : B ≤ w.heap.size) (i k : Nat) (hi : i < n) (hk : k < n) (hn : n ≤ 9223372036854775807) :
    Calls Try.prog 42 #[.int .i64 i, .int .i64 k, .pointer (some ⟨bx, 0, none⟩)] w fun e w' => e = .returned (.int .i64 (cmp3 (L i) (L k))) ∧ Gro w w' := by
  obtain ⟨b, off, rfl, hb, a0, a1, a2⟩ := hs i hi
  obtain ⟨b', off', hbb, _, d0, d1, d2⟩ := hs k hk
  injection hbb with hbb
  injection hbb with h1 h2
  subst h1; subst h2
  clear hs
  have hi0 : (i : Int) < n := by omega
  have hk0 : (k : Int) < n := by omega
  have hbs : b < w.heap.size := by omega
  have HB := Lib.hid (Gro.refl w)
  have HE := Lib.hid (show cmp3 ((L i).1, (L i).2.1, (L i).2.2) ((L k).1, (L k).2.1, (L k).2.2) = cmp3 (L i) (L k) from rfl)
  rw [← HE.out]
  clear HE
  generalize (L i).1 = t at *
  generalize (L i).2.1 = s at *
  generalize (L i).2.2 = q at *
  generalize (L k).1 = t' at *
  generalize (L k).2.1 = s' at *
  generalize (L k).2.2 = q' at *
  go_enter Try.func42, Try.ntmps42
  go_wp2_with fail
  go_region_held3 (fun w' => w'.cell? ⟨bx, 0, none⟩ = some (.slice (some ⟨b, off, none⟩) n c) ∧ w'.cell? ⟨b, off + i * 3, none⟩ = some (.int .i64 t) ∧ w'.cell? ⟨b, off + i * 3 + 1, none⟩ = some (.int .i64 s) ∧ w'.cell? ⟨b, off + i * 3 + 2, none⟩ = some (.int .i64 q) ∧ w'.cell? ⟨b, off + k * 3, none⟩ = some (.int .i64 t') ∧ w'.cell? ⟨b, off + k * 3 + 1, none⟩ = some (.int .i64 s') ∧ w'.cell? ⟨b, off + k * 3 + 2, none⟩ = some (.int .i64 q')) (first | (go_split_ands; refine ⟨?_, ?_, ?_, ?_, ?_, ?_, ?_⟩ <;> (rw [hb.below.cell (by simp; omega)]; assumption)) | go_keep)
    (first | (go_at_call 14; refine (stamp_compare _ _ _ _ _ _ _).mono ?_; rintro e w' ⟨rfl, hb⟩; have HB := Lib.hid (Gro.trans (by first | exact HB.out | exact Gro.drew HB.out) hb); have hlt := Nat.lt_of_lt_of_le hlt hb.size; have hbs := Nat.lt_of_lt_of_le hbs hb.size))
  go_wp2
  go_ret
  exact ⟨rfl, HB.out⟩

theorem eqlSt (t s q t' s' q' : Int) (w : World) : (binOp .eql 23 (.agg #[.int .i64 t, .int .i64 s, .int .i64 q]) (.agg #[.int .i64 t', .int .i64 s', .int .i64 q'])).run Try.prog w = .ok (.bool (decide ((t, s, q) = (t', s', q')))) w := by
  have u3 := Try.underlying3
  have a3 := Try.isAgg3
  have z3 := Try.sizeOf3
  have hS : Try.prog.underlying 23 = some (.struct (Try.prog.fieldsOf 23)) := by kernel_rfl
  have hp : Try.prog.stoodInHeld 23 = false := by kernel_rfl
  rw [run_eql_struct, show (10000 : Nat) = 9999 + 1 from rfl, run_equalIn_agg w 9999 23 _ _ hS hp]
  simp only [Program.fieldsOf, Try.underlying23]
  go_simp
  by_cases h1 : t = t' <;> by_cases h2 : s = s' <;> by_cases h3 : q = q' <;> simp [h1, h2, h3]
theorem neqSt (t s q t' s' q' : Int) (w : World) : (binOp .neq 23 (.agg #[.int .i64 t, .int .i64 s, .int .i64 q]) (.agg #[.int .i64 t', .int .i64 s', .int .i64 q'])).run Try.prog w = .ok (.bool (!decide ((t, s, q) = (t', s', q')))) w := by
  have h := eqlSt t s q t' s' q' w
  rw [run_eql_struct] at h
  rw [run_neq_struct]
  cases hr : ((Op.equalIn 10000 23 (.agg #[.int .i64 t, .int .i64 s, .int .i64 q]) (.agg #[.int .i64 t', .int .i64 s', .int .i64 q'])).run Try.prog w) with
  | ok r w1 =>
    rw [hr] at h
    simp only [Result.andThen_ok, Result.ok.injEq, Value.bool.injEq] at h ⊢
    exact ⟨by rw [h.1], h.2⟩
  | halt x w1 => rw [hr] at h; simp [Result.andThen] at h

set_option maxHeartbeats 1000000 in
/-- is event i no copy of event f? -/
theorem closure_dis (w : World) (B B' bx by_ bf c c' : Nat) (o o' : Option Addr) (n m : Nat) (L : Nat → St) (C : Nat → Int) (hs : RowS w B o n L) (hC : RowI w B' o' n C) (hbx : w.cell? ⟨bx, 0, none⟩ = some (.slice o n c)) (hby : w.cell? ⟨by_, 0, none⟩ = some (.slice o' n c'))
    (i f : Nat) (hbf : w.cell? ⟨bf, 0, none⟩ = some (.int .i64 f)) (hi : i < n) (hk : f < n) (hn : n ≤ 9223372036854775807) :
    Calls Try.prog 52 #[.int .i64 i, .pointer (some ⟨bx, 0, none⟩), .pointer (some ⟨bf, 0, none⟩), .pointer (some ⟨by_, 0, none⟩)] w fun e w' => e = .returned (.bool (!decide (L i = L f) || !decide (C i = C f))) ∧ ∃ q, w' = w.drewN q := by
  obtain ⟨b, off, rfl, hb, a0, a1, a2⟩ := hs i hi
  obtain ⟨b', off', hbb, _, d0, d1, d2⟩ := hs f hk
  injection hbb with hbb
  injection hbb with h1 h2
  subst h1; subst h2
  clear hs
  obtain ⟨g, off', rfl, _, e0⟩ := hC i hi
  obtain ⟨g', off'', hbb, _, e1⟩ := hC f hk
  injection hbb with hbb
  injection hbb with h1 h2
  subst h1; subst h2
  clear hC
  have hi0 : (i : Int) < n := by omega
  have hk0 : (f : Int) < n := by omega
  generalize (L i) = x at *
  generalize (L f) = y at *
  generalize (C i) = u at *
  generalize (C f) = v at *
  obtain ⟨t, s, q⟩ := x
  obtain ⟨t', s', q'⟩ := y
  by_cases hx : (t, s, q) = (t', s', q')
  · injection hx with h1 h2
    injection h2 with h2 h3
    subst h1; subst h2; subst h3
    rw [decide_eq_true rfl, Bool.not_true, Bool.false_or]
    go_enter Try.func52, Try.ntmps52
    go_wp2_with fail
    go_quiet (fail)
    go_wp2
    go_ret
    exact ⟨ret_bool rfl, nq, rfl⟩
  · have hne : ∀ W, (binOp .neq 23 (.agg #[.int .i64 t, .int .i64 s, .int .i64 q]) (.agg #[.int .i64 t', .int .i64 s', .int .i64 q'])).run Try.prog W = .ok (.bool true) W := fun W => by rw [neqSt, decide_eq_false hx]; rfl
    rw [decide_eq_false hx, Bool.not_false, Bool.true_or]
    clear hx
    go_enter Try.func52, Try.ntmps52
    go_wp2_with fail
    go_quiet (fail)
    go_wp2
    go_ret
    exact ⟨rfl, nq, rfl⟩
end Go.Proofs.Ytdggmnhddoejhaa
