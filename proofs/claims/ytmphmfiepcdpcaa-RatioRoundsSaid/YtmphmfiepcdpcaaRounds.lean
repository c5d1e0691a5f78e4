/-
  The walk of the statement on rounding: a fraction off the tape, four roundings and the reference's.
-/
import Derived.Test.YtmphmfiepcdpcaaRoundLaw
import Derived.OpenShut
namespace Go.Proofs.Ytmphmfiepcdpcaa
open Go.RowKit
set_option linter.unusedVariables false

/-- what is told of a slice of integers that came in: it is nil, or it leads to a row of c cells, the numbers zs -/
def IsRow (k : IntKind) (w : World) (a : Option Addr) (len cap : Nat) (zs : List Int) : Prop :=
  (a = none ∧ len = 0 ∧ cap = 0 ∧ zs = []) ∨
  ∃ x, a = some x ∧ len ≤ cap ∧ cap ≤ maxLen ∧ zs.length = cap ∧ (∀ i, i < zs.length → w.cell? (x.add i) = some (.int k (zs.getD i 0))) ∧ ∀ n ∈ zs, (Lit.int k n).wf = true
theorem row_of {w : World} {o : Option Addr} {n c : Nat} {zs : List Int} (h : IsRow .i64 w o n c zs) :
    RowB w w.heap.size o n (fun i => zs.getD i 0) ∧ n ≤ c ∧ c ≤ 9223372036854775807 ∧ (o = none → n = 0 ∧ c = 0) := by
  rcases h with ⟨rfl, rfl, rfl, rfl⟩ | ⟨x, rfl, hl, hm, hz, hc, hw⟩
  · exact ⟨fun i hi => absurd hi (by omega), by omega, by omega, fun _ => ⟨rfl, rfl⟩⟩
  · refine ⟨fun i hi => ?_, hl, by unfold maxLen at hm; exact hm, fun h => by cases h⟩
    have hci := hc i (by omega)
    have hc0 := hc 0 (by omega)
    obtain ⟨b, off, spot⟩ := x
    have hs : spot = none := by simpa [Addr.add] using World.cell?_spot hc0
    subst hs
    have hb := World.block_lt_of_cell? w _ hc0
    refine ⟨⟨b, off, rfl, by simpa [Addr.add] using hb, ?_⟩, ?_⟩
    · by_cases h0 : i = 0
      · subst h0; simpa [Addr.add] using hci
      · simpa [Addr.add, h0] using hci
    · have hmem : zs.getD i 0 ∈ zs := by
        rw [List.getD_eq_getElem?_getD, List.getElem?_eq_getElem (by omega)]
        exact List.getElem_mem _
      obtain ⟨a, b⟩ := bounds_i64 (hw _ hmem)
      exact ⟨a, Int.lt_of_le_of_lt b (by omega)⟩

set_option maxRecDepth 100000 in
set_option maxHeartbeats 4000000 in
theorem walkRatioRounds (o : Option Addr) (n c : Nat) (zs : List Int) (w : World) (h : IsRow .i64 w o n c zs) :
    Calls Try.prog 12 #[.slice o n c] w fun e w' => e = .returned (.bool true) ∧ Below w.heap.size w w' := by
  obtain ⟨hr, h1, h2, h3⟩ := row_of h
  clear h
  go_enter Try.func12, Try.ntmps12
  go_wp2_with fail
  refine (tape_new hr h1 h2 h3).mono ?_
  rintro e w1 ⟨g, n', rfl, ht, hb1, hg⟩
  clear hr h1 h2 h3
  go_wp2_with fail
  refine (tape_loose ht).mono ?_
  rintro e w2 ⟨a, d, ⟨ha, hd⟩, rfl, ht2, hg2⟩
  have HB0 : Below w.heap.size w w2 := hb1.trans (bGr hg2 hg hb1.size)
  clear ht ht2 hg2 hb1 hg
  have HX : Hid (I64 a ∧ I64 d) := ⟨ha, hd⟩
  clear ha hd
  go_wp2_with fail
  have HB := Lib.hid (bAl HB0 (Obj.cells #[.int .i64 a, .int .i64 d] 23))
  have hz : w2.heap.size < (w2.alloc (Obj.cells #[.int .i64 a, .int .i64 d] 23)).heap.size := by simp
  clear HB0
  go_region_held3 (fun w' => w'.cell? ⟨w2.heap.size, 0, none⟩ = some (.int .i64 a) ∧ w'.cell? ⟨w2.heap.size, 1, none⟩ = some (.int .i64 d)) (first | (go_split_ands; refine ⟨?_, ?_⟩ <;> assumption) | (go_split_ands; refine ⟨?_, ?_⟩ <;> (rw [hb.cell (by first | exact hz0 | omega)]; assumption)) | go_keep)
    (first | (go_at_call 45; refine (floor_any _ _ HX.out.1 HX.out.2 _).mono ?_; rintro e w' ⟨rfl, hb⟩; have hz0 := hz; have hz := Nat.lt_of_lt_of_le hz hb.size; have HB := Lib.hid (bTr (by first | exact HB.out | exact bD1 HB.out) hb)) | (go_at_call 46; refine (r_floorR _ _ HX.out.1 HX.out.2 _).mono ?_; rintro e w' ⟨rfl, hb⟩; have hz0 := hz; have hz := Nat.lt_of_lt_of_le hz hb.size; have HB := Lib.hid (bTr (by first | exact HB.out | exact bD1 HB.out) hb)) | (go_at_call 47; refine (ceil_any _ _ HX.out.1 HX.out.2 _).mono ?_; rintro e w' ⟨rfl, hb⟩; have hz0 := hz; have hz := Nat.lt_of_lt_of_le hz hb.size; have HB := Lib.hid (bTr (by first | exact HB.out | exact bD1 HB.out) hb)) | (go_at_call 48; refine (r_ceilR _ _ HX.out.1 HX.out.2 _).mono ?_; rintro e w' ⟨rfl, hb⟩; have hz0 := hz; have hz := Nat.lt_of_lt_of_le hz hb.size; have HB := Lib.hid (bTr (by first | exact HB.out | exact bD1 HB.out) hb)) | (go_at_call 49; refine (round_any _ _ HX.out.1 HX.out.2 _).mono ?_; rintro e w' ⟨rfl, hb⟩; have hz0 := hz; have hz := Nat.lt_of_lt_of_le hz hb.size; have HB := Lib.hid (bTr (by first | exact HB.out | exact bD1 HB.out) hb)) | (go_at_call 50; refine (r_roundR _ _ HX.out.1 HX.out.2 _).mono ?_; rintro e w' ⟨rfl, hb⟩; have hz0 := hz; have hz := Nat.lt_of_lt_of_le hz hb.size; have HB := Lib.hid (bTr (by first | exact HB.out | exact bD1 HB.out) hb)) | (go_at_call 51; refine (evens_any _ _ HX.out.1 HX.out.2 _).mono ?_; rintro e w' ⟨rfl, hb⟩; have hz0 := hz; have hz := Nat.lt_of_lt_of_le hz hb.size; have HB := Lib.hid (bTr (by first | exact HB.out | exact bD1 HB.out) hb)) | (go_at_call 52; refine (r_evenR _ _ HX.out.1 HX.out.2 _).mono ?_; rintro e w' ⟨rfl, hb⟩; have hz0 := hz; have hz := Nat.lt_of_lt_of_le hz hb.size; have HB := Lib.hid (bTr (by first | exact HB.out | exact bD1 HB.out) hb)) | (go_at_call 21; refine (awake_any _).mono ?_; rintro e w' ⟨rfl, hb⟩; have hz0 := hz; have hz := Nat.lt_of_lt_of_le hz hb.size; have HB := Lib.hid (bTr (by first | exact HB.out | exact bD1 HB.out) hb)))
  go_wp2
  go_ret
  exact ⟨rfl, HB.out⟩
end Go.Proofs.Ytmphmfiepcdpcaa
