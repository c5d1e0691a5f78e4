/-
  slices.Sort of texts; the program's Near.
-/
import Derived.Test.YtlionhmmefghmaaFill
import Derived.Test.YtlionhmmefghmaaShelf
import Derived.Sort.EveryDepth
import Derived.Sort.OwnSorted
import Derived.Sort.KeysCollected
namespace Go.Proofs.Ytlionhmmefghmaa
open Go.RowKit Go.Sort
set_option linter.unusedSimpArgs false
set_option linter.unusedVariables false
set_option maxRecDepth 100000

theorem sort_some (g cap : Nat) (ss : List (List UInt8)) (w : World) (hH : Holds encStr w g 0 ss.toArray) (hg : g < w.heap.size) (hsz : ss.length < 4611686018427387904) :
    Calls Try.prog 42 #[.slice (some ⟨g, 0, none⟩) ss.length cap] w fun e w' => e = .returned (.tuple #[]) ∧ ∃ n os, w' = grow (putRow encStr (Sort.ahead w n) g 0 (ss.mergeSort fun x y => decide (x ≤ y)).toArray) os :=
  calls_of_every_depth fun D => AnyS.slices_Sort_string_in Try.sortS D g 0 cap ss w hH hg hsz
theorem insert_none (w : World) :
    Calls Try.prog 49 #[.slice none 0 0, .int .i64 0, .int .i64 0] w fun e w' => e = .returned (.tuple #[]) ∧ w' = w := by
  go_enter Try.func49, Try.ntmps49
  go_wp2_with fail
  go_loopw [6] (fun i wr' => i = .int .i64 1 ∧ wr' = w) (fun _ _ => 0)
  case atStart => exact ⟨rfl, rfl⟩
  case round =>
    obtain ⟨rfl, rfl⟩ := hrel
    go_wp2_with fail
    exact bodyPost_end (v := .tuple #[]) (by simp [results, Try.results49, go_sem]) rfl ⟨rfl, rfl⟩
theorem pdq_none (l : Int) (w : World) :
    Calls Try.prog 46 #[.slice none 0 0, .int .i64 0, .int .i64 0, .int .i64 l] w fun e w' => e = .returned (.tuple #[]) ∧ w' = w := by
  go_enter Try.func46, Try.ntmps46
  go_wp2_with fail
  go_loopw [1, 2] (fun a b wr => a = .int .i64 0 ∧ b = .int .i64 0 ∧ wr = w) (fun _ _ _ => 0)
  case atStart => exact ⟨rfl, rfl, rfl⟩
  case round =>
    obtain ⟨rfl, rfl, rfl⟩ := hrel
    go_wp2_with fail
    refine (insert_none _).mono ?_
    rintro e w' ⟨rfl, rfl⟩
    go_wp2_with fail
    exact bodyPost_ret (v := .tuple #[]) (by simp [results, Try.results46, go_sem]) rfl ⟨rfl, rfl⟩
theorem len_zero (w : World) :
    Calls Try.prog 47 #[.int .u64 0] w fun e w' => ∃ l, e = .returned (.int .i64 l) ∧ w' = w := by
  go_enter Try.func47, Try.ntmps47
  go_wp2
  go_ret
  exact ⟨_, rfl, rfl⟩
theorem sort_none (w : World) :
    Calls Try.prog 42 #[.slice none 0 0] w fun e w' => e = .returned (.tuple #[]) ∧ Below w.heap.size w w' := by
  go_enter Try.func42, Try.ntmps42
  go_wp2_with fail
  refine (len_zero _).mono ?_
  rintro e w' ⟨l, rfl, rfl⟩
  go_wp2_with fail
  refine (pdq_none _ _).mono ?_
  rintro e w' ⟨rfl, rfl⟩
  go_wp2_with fail
  exact bodyPost_end (v := .tuple #[]) (by simp [results, Try.results42, go_sem]) rfl ⟨rfl, Below.refl _ _⟩
theorem sort_texts (v : Value) (ss : List (List UInt8)) (w : World) (B : Nat) (hB : B ≤ w.heap.size) (h : Texts w B v ss) (hsz : ss.length < 100000) :
    Calls Try.prog 42 #[v] w fun e w' => e = .returned (.tuple #[]) ∧ Texts w' B v (ss.mergeSort leB) ∧ Below B w w' := by
  rcases h.2 with ⟨rfl, h0⟩ | ⟨g, cap, cur, rfl, hBg, hblk, h1, h2, h3, h4⟩
  · obtain rfl : ss = [] := List.eq_nil_of_length_eq_zero h0
    refine (sort_none w).mono ?_
    rintro e w' ⟨rfl, hb⟩
    exact ⟨rfl, by rw [List.mergeSort_nil]; exact Texts.nil _ _, hb.mono hB⟩
  · have hg : g < w.heap.size := (Array.getElem?_eq_some_iff.1 hblk).1
    refine (sort_some g cap ss w (holds_of_block hblk (by simpa using h4)) hg (by omega)).mono ?_
    rintro e w' ⟨rfl, n, os, rfl⟩
    refine ⟨rfl, ?_, (Below.refl B w).grown (grownBy_sorted _) hB (fun k hk => by injection hk with hk; omega)⟩
    have hr := ownsRow_sorted (w := w) (n := n) (os := os) (ts := ss.mergeSort leB) (ss := ss) (base := B) (by simp) hBg hblk h1 h2 h3
    unfold Texts
    rw [List.length_mergeSort]
    exact hr
/-- the lists of the first k places, one behind the other -/
def catR (c : Nat → Int) : Nat → List (List UInt8)
  | 0 => []
  | k + 1 => catR c k ++ rep c k (sy k)
def nearL (s : ByteArray) : List (List UInt8) := if shp s = true then (catR (byteAt s) 9).mergeSort leB else []
theorem catR_len (c : Nat → Int) (k : Nat) : (catR c k).length ≤ 23 * k := by
  induction k with
  | zero => exact Nat.le_refl _
  | succ k ih =>
    have h1 := rep_len c k (sy k)
    have h2 : (sy k).length ≤ 23 := by unfold sy; split <;> decide
    show (catR c k ++ rep c k (sy k)).length ≤ _
    rw [List.length_append]
    omega
theorem texts_val {w : World} {B : Nat} {v : Value} {l : List (List UInt8)} (h : Texts w B v l) : ∃ o cap, v = .slice o l.length cap ∧ l.length ≤ cap := by
  rcases h.2 with ⟨rfl, h0⟩ | ⟨g, cap, cur, rfl, hBg, hblk, h1, h2, h3, h4⟩
  · exact ⟨none, 0, by rw [h0], by omega⟩
  · exact ⟨_, cap, rfl, h1⟩
theorem append_nil_any (o : Option Addr) (n cap : Nat) (h : n ≤ cap) (w : World) : (Builtin.append_ #[40, 40] 40 #[.slice o n cap, .slice none 0 0]).run Try.prog w = .ok (.slice o n cap) w := by
  obtain ⟨j0, hj0, hy0, hy1, hy2⟩ := info_parts str_info
  have hu := Try.underlying40
  cases o with
  | none => simp [Builtin.append_, run_underlying hu, sizeOf, typeInfo, hj0, Builtin.lenOf, h, Builtin.firstCells, storeCells]
  | some a => simp [Builtin.append_, run_underlying hu, sizeOf, typeInfo, hj0, Builtin.lenOf, h, Builtin.firstCells, storeCells]
theorem wpList_append_nil {P : Program} {w : World} {ops : Array Oper} {rest : List Oper} {o : Oper} {a : Act} {Q : Exit → Act → World → Prop} (hgd : o.guard = none) (s x : Operand) (t : TypeId)
    (ho : o.op = .call { callee := .builtin .append, args := #[s, x], argTypes := #[t, t] }) (v : Value) (hs : a.eval s = v) (hx : a.eval x = .slice none 0 0)
    (hr : (Builtin.append_ #[t, t] o.type #[v, .slice none 0 0]).run P w = .ok v w) (h : wpList P ops Q rest (a.put o.dst v) w) : wpList P ops Q (o :: rest) a w := by
  refine wpList_plain hgd fun K hK => ?_
  unfold Oper.wp execOp
  simp only [ho, resolve, invoke, builtin, Sem.run_bind, Sem.run_pure, Result.andThen_ok, List.map_toArray, List.map_cons, List.map_nil, hs, hx, hr]
  exact hK _ _ h
set_option maxHeartbeats 4000000 in
theorem near_any (s : ByteArray) (w : World) :
    Calls Try.prog 26 #[.string s] w fun e w' => ∃ v, e = .returned v ∧ Texts w' w.heap.size v (nearL s) ∧ Below w.heap.size w w' := by
  have hc := byteAt_bd s
  have HSh : Hid (shp s = (decide (s.size = 9) && (digs (byteAt s) 8 && isLet (byteAt s 8)))) := Lib.hid rfl
  obtain ⟨j0, hj0, hy0, hy1, hy2⟩ := info_parts str_info
  go_enter Try.func26, Try.ntmps26
  go_wp2_with fail
  refine (read_any s _).mono ?_
  rintro e w1 ⟨rfl, hb⟩
  have HB := Lib.hid hb
  clear hb
  by_cases h9 : s.size = 9
  · rw [if_pos h9]
    have e9 : nine (byteAt s) = #[.int .u8 (byteAt s 0), .int .u8 (byteAt s 1), .int .u8 (byteAt s 2), .int .u8 (byteAt s 3), .int .u8 (byteAt s 4), .int .u8 (byteAt s 5), .int .u8 (byteAt s 6), .int .u8 (byteAt s 7), .int .u8 (byteAt s 8)] := rfl
    rw [e9]
    clear e9
    go_wp2_with fail
    refine (wellFormed_any (byteAt s) hc _).mono ?_
    rintro e w2 ⟨rfl, hb⟩
    have HB2 := Lib.hid (bTr (bAl HB.out _) hb)
    have PN2 := Lib.hid ((Blk.newAt (w := w1) (t := 43) (cs := nine (byteAt s)) rfl).later hb)
    have hgb := HB.out.size
    clear hb HB
    cases hw : (digs (byteAt s) 8 && isLet (byteAt s 8))
    · have HF := Lib.hid (show nearL s = [] by unfold nearL; rw [HSh.out, hw, Bool.and_false, if_neg (by simp)])
      go_wp2_with fail
      exact bodyPost_ret (v := .slice none 0 0) (by simp [results, Try.results26, go_sem]) rfl ⟨_, rfl, by rw [HF.out]; exact Texts.nil _ _, HB2.out⟩
    have HF := Lib.hid (show nearL s = (catR (byteAt s) 9).mergeSort leB by unfold nearL; rw [HSh.out, hw, Bool.and_true, if_pos (by simp [h9])])
    go_wp2_with fail
    go_loopw [5, 19] (fun f i wr => ∃ (k : Nat), i = .int .i64 k ∧ k ≤ 9 ∧ Texts wr (w1.heap.size + 1) f (catR (byteAt s) k) ∧ Hid (Blk wr w1.heap.size 43 (nine (byteAt s))) ∧ Hid (Below w.heap.size w wr)) (fun _ i _ => 9 - (intOf i).toNat)
    case atStart => exact ⟨0, rfl, by omega, Texts.nil _ _, PN2, HB2⟩
    case round =>
      obtain ⟨k, rfl, hk, hown, PN, HBr⟩ := hrel
      have HO := Lib.hid hown
      have HL := Lib.hid (catR_len (byteAt s) k)
      clear hown
      by_cases hk9 : k < 9
      · obtain ⟨z0, z1, z2, z3, z4, z5, z6, z7, z8⟩ := PN.out.nine
        go_wp2_with fail
        refine (repl_any (byteAt s) hc k hk9 _).mono ?_
        rintro e w3 ⟨v, rfl, hrep, hb⟩
        have HR := Lib.hid hrep
        have HO3 := Lib.hid (own_later HO.out hb)
        have PN3 := Lib.hid (PN.out.later hb)
        have HB3 := Lib.hid (bTr HBr.out hb)
        have hsz3 := hb.size
        have hszr := PN.out.lt
        have hcat : catR (byteAt s) (k + 1) = catR (byteAt s) k ++ rep (byteAt s) k (sy k) := rfl
        have HC := Lib.hid hcat
        clear hb HO PN HBr z0 z1 z2 z3 z4 z5 z6 z7 z8 hcat
        obtain ⟨o, cap, hv, hcap⟩ := texts_val HO3.out
        subst hv
        rcases hrep.2 with ⟨rfl, h0⟩ | ⟨g2, cap2, cur2, rfl, -⟩
        · have hnil : rep (byteAt s) k (sy k) = [] := List.eq_nil_of_length_eq_zero h0
          rw [hnil, List.append_nil] at HC
          have happ := append_nil_any o (catR (byteAt s) k).length cap hcap
          clear hrep HR h0 hnil
          have HOX := Lib.hid (show Texts w3 (w1.heap.size + 1) (.slice o (catR (byteAt s) k).length cap) (catR (byteAt s) (k + 1)) by rw [HC.out]; exact HO3.out)
          generalize (catR (byteAt s) k).length = n at happ HOX hcap ⊢
          go_wp2_with (at_builtin; refine wpList_append_nil rfl (.tmp 22) (.tmp 25) 40 rfl (.slice o n cap) rfl rfl (happ _) ?_)
          case roundEnd => exact ⟨⟨k + 1, by simp, by omega, HOX.out, PN3, HB3⟩, by simp [intOf]; omega⟩
        · clear hrep
          have HRL : Hid ((rep (byteAt s) k (sy k)).length ≤ 23) := Lib.hid (Nat.le_trans (rep_len _ _ _) (by unfold sy; split <;> decide))
          go_wp2_with (at_builtin; refine wpList_append_own_at _ rfl (.tmp 22) (.tmp 25) 40 rfl (w1.heap.size + 1) 9 j0 (.string ⟨#[]⟩) 1 16 Try.underlying40 hj0 hy0 hy1 hy2 rfl (by decide) _ _ _ rfl HO3.out ⟨g2, 0, none⟩ _ _ ((rep (byteAt s) k (sy k)).map encStr) rfl ?c0 ?c1 ?c2 ?c3 ?c4 ?c5 ?_; (case c0 => rw [List.length_map, Nat.mul_one]); (case c1 => exact HR.out.cells rfl); (case c2 => intro u hu; obtain ⟨_, _, rfl⟩ := List.mem_map.1 hu; rfl); (case c3 => have := HL.out; have := HRL.out; unfold maxLen; omega); (case c4 => have := HL.out; have := HRL.out; omega); (case c5 => omega); intro v10 w10 hown10 hgrow10 hnil10 hat10; have H10 := Lib.hid (And.intro hown10 hgrow10); clear hown10 hgrow10 hnil10 hat10)
          case roundEnd =>
            obtain ⟨hown10, hgrow10⟩ := H10.out
            refine ⟨⟨k + 1, by simp, by omega, ?_, Lib.hid (PN3.out.grown hgrow10 ?_), Lib.hid (HB3.out.grown hgrow10 (by omega) ?_)⟩, by simp [intOf]; omega⟩
            · rw [HC.out]
              unfold Texts
              rw [List.length_append, List.map_append]
              exact hown10
            · intro e
              have := (HO3.out.lt _ e.symm).1
              omega
            · intro j e
              have := (HO3.out.lt _ e).1
              omega
      · obtain rfl : k = 9 := by omega
        have HX := Lib.hid (show ∀ v w', v = u5 → Texts w' (w1.heap.size + 1) u5 ((catR (byteAt s) 9).mergeSort leB) → RowKit.Below (w1.heap.size + 1) wr w' → ∃ v', Ending.returned v = .returned v' ∧ Texts w' w.heap.size v' (nearL s) ∧ RowKit.Below w.heap.size w w' from fun v w' e ht hb => by
          subst e
          exact ⟨_, rfl, by rw [HF.out]; exact own_up ht (by omega), HBr.out.trans (hb.mono (by omega))⟩)
        go_wp2_with fail
        refine (sort_texts u5 _ _ (w1.heap.size + 1) (by have := PN.out.lt; omega) HO.out (by have := HL.out; omega)).mono ?_
        rintro e w4 ⟨rfl, ht, hb⟩
        have HY := Lib.hid (HX.out _ _ rfl ht hb)
        clear HX ht hb
        go_wp2_with fail
        refine bodyPost_ret (v := u5) (by simp [results, Try.results26, go_sem]) rfl HY.out
  · have HF := Lib.hid (show nearL s = [] by unfold nearL; rw [HSh.out, if_neg (by simp [h9])])
    rw [if_neg h9]
    have e9 : nine (fun _ => 0) = #[.int .u8 0, .int .u8 0, .int .u8 0, .int .u8 0, .int .u8 0, .int .u8 0, .int .u8 0, .int .u8 0, .int .u8 0] := rfl
    rw [e9]
    clear e9
    go_wp2_with fail
    exact bodyPost_ret (v := .slice none 0 0) (by simp [results, Try.results26, go_sem]) rfl ⟨_, rfl, by rw [HF.out]; exact Texts.nil _ _, bAl HB.out _⟩
end Go.Proofs.Ytlionhmmefghmaa
