/-
  The walk of the statement on Check at arbitrary names, parents and numbers.
-/
import Derived.Test.YtglikjdgjmijfaaSKit
import Derived.Test.YtglikjdgjmijfaaHeldTail
namespace Go.Proofs.Ytglikjdgjmijfaa
open Go.RowKit
set_option linter.unusedSimpArgs false
set_option linter.unusedVariables false

/-- what is told of a slice of texts that came in -/
def IsStr (w : World) (a : Option Addr) (len cap : Nat) (ss : List ByteArray) : Prop :=
  (a = none ∧ len = 0 ∧ cap = 0 ∧ ss = []) ∨
  ∃ x, a = some x ∧ len ≤ cap ∧ cap ≤ maxLen ∧ ss.length = cap ∧ (∀ i, i < ss.length → w.cell? (x.add i) = some (.string (ss.getD i ByteArray.empty)))
theorem str_of {w : World} {o : Option Addr} {n c : Nat} {ss : List ByteArray} (h : IsStr w o n c ss) : RowStr w w.heap.size o n (fun i => ss.getD i ByteArray.empty) ∧ n ≤ c := by
  rcases h with ⟨rfl, rfl, rfl, rfl⟩ | ⟨x, rfl, hl, hm, hz, hc⟩
  · exact ⟨fun i hi => absurd hi (by omega), by omega⟩
  · refine ⟨fun i hi => ?_, hl⟩
    have hci := hc i (by omega)
    have hc0 := hc 0 (by omega)
    obtain ⟨b, off, spot⟩ := x
    have hs : spot = none := by simpa [Addr.add] using World.cell?_spot hc0
    subst hs
    have hb := World.block_lt_of_cell? w _ hc0
    refine ⟨b, off, rfl, by simpa [Addr.add] using hb, ?_⟩
    by_cases h0 : i = 0
    · subst h0; simpa [Addr.add] using hci
    · simpa [Addr.add, h0] using hci
structure Nx (w0 : World) (gb : Nat) (v1 v2 v3 : Value) (lt : List TP) (lc : List CP) (wr : World) : Prop where
  be : Below w0.heap.size w0 wr
  bx : Blk wr gb 27 #[v1, v2, v3]
  r1 : wr.ownsRow (gb + 1) 36 2 v1 lt.length (tCells lt)
  r3 : wr.ownsRow (gb + 1) 38 3 v3 lc.length (cCells lc)
  gs : gb = w0.heap.size
section
variable {w0 : World} {gb : Nat} {v1 v2 v3 : Value} {lt : List TP} {lc : List CP} {wr w2 : World}
theorem Nx.later (h : Nx w0 gb v1 v2 v3 lt lc wr) (hb : Below wr.heap.size wr w2) : Nx w0 gb v1 v2 v3 lt lc w2 :=
  ⟨bTr h.be hb, h.bx.later hb, own_later h.r1 hb, own_later h.r3 hb, h.gs⟩
theorem Nx.alloc (h : Nx w0 gb v1 v2 v3 lt lc wr) (x : Obj) : Nx w0 gb v1 v2 v3 lt lc (wr.alloc x) := h.later (bAl (Below.refl _ _) x)
theorem Nx.drew (h : Nx w0 gb v1 v2 v3 lt lc wr) : Nx w0 gb v1 v2 v3 lt lc wr.drew := h.later (bD1 (Below.refl _ _))
theorem Nx.sz (h : Nx w0 gb v1 v2 v3 lt lc wr) : gb + 1 ≤ wr.heap.size := h.bx.lt
theorem Nx.put1 (h : Nx w0 gb v1 v2 v3 lt lc wr) {v' : Value} {x : TP} (hg : wr.grownBy w2 v1.ownBlock) (h3 : w2.ownsRow (gb + 1) 36 2 v' (lt.length + 1) (tCells lt ++ [.string x.1, .int .i64 x.2])) :
    Nx w0 gb v' v2 v3 (lt ++ [x]) lc (w2.setCell ⟨gb, 0, none⟩ v') := by
  have hz := h.sz
  have hs := h.gs
  have ne : ∀ b : Nat, b < gb + 1 → some b ≠ v1.ownBlock := fun b hb e => by have := (h.r1.lt b e.symm).1; omega
  refine ⟨(h.be.grown hg (by omega) (fun j hj => by have := (h.r1.lt j hj).1; omega)).setCell (by show _ ≤ gb; omega) v', ?_, ?_, ?_, h.gs⟩
  · have := (h.bx.grown hg (ne _ (by omega))).set_ 0 v'
    simpa using this
  · rw [List.length_append, tCells_snoc]
    exact ownsRow_setCell_below h3 (by show gb < _; omega) _
  · exact ownsRow_setCell_below (h.r3.kept hg (own_apart h.r3 h.r1 (by decide))) (by show gb < _; omega) _
theorem Nx.put3 (h : Nx w0 gb v1 v2 v3 lt lc wr) {v' : Value} {x : CP} (hg : wr.grownBy w2 v3.ownBlock) (h3 : w2.ownsRow (gb + 1) 38 3 v' (lc.length + 1) (cCells lc ++ [.string x.1, .int .i64 x.2.1, .int .i64 x.2.2])) :
    Nx w0 gb v1 v2 v' lt (lc ++ [x]) (w2.setCell ⟨gb, 2, none⟩ v') := by
  have hz := h.sz
  have hs := h.gs
  have ne : ∀ b : Nat, b < gb + 1 → some b ≠ v3.ownBlock := fun b hb e => by have := (h.r3.lt b e.symm).1; omega
  refine ⟨(h.be.grown hg (by omega) (fun j hj => by have := (h.r3.lt j hj).1; omega)).setCell (by show _ ≤ gb; omega) v', ?_, ?_, ?_, h.gs⟩
  · have := (h.bx.grown hg (ne _ (by omega))).set_ 2 v'
    simpa using this
  · exact ownsRow_setCell_below (h.r1.kept hg (own_apart h.r1 h.r3 (by decide))) (by show gb < _; omega) _
  · rw [List.length_append, cCells_snoc]
    exact ownsRow_setCell_below h3 (by show gb < _; omega) _
end
def NmS (gn k : Nat) (nm : ByteArray) (gb p : Nat) (v : Value) (W : World) : Prop := W.cell? ⟨gn, k, none⟩ = some (.string nm) ∧ W.cell? ⟨gb, p, none⟩ = some v
theorem NmS.grown {gn gb k : Nat} {nm : ByteArray} {p : Nat} {v : Value} {W W' : World} {row : Option Nat} (h : NmS gn k nm gb p v W) (hg : W.grownBy W' row) (hb : gb + 1 ≤ W.heap.size) (hgn : gn < gb) (hne : ∀ b, b < gb + 1 → some b ≠ row) : NmS gn k nm gb p v W' := S6.grown (gn := gn) (gb := gb) (k := k) (nm := nm) (p := p) (v := v) h hg hb hgn hne
def BoxN (gs : Nat) (x y z : Value) (W : World) : Prop := W.cell? ⟨gs, 0, none⟩ = some x ∧ W.cell? ⟨gs, 1, none⟩ = some y ∧ W.cell? ⟨gs, 2, none⟩ = some z
set_option maxRecDepth 100000 in
set_option maxHeartbeats 16000000 in
theorem walkSyllabusNames (oT : Option Addr) (nT cT : Nat) (zT : List ByteArray) (oO : Option Addr) (nO cO : Nat) (zO : List ByteArray) (oC : Option Addr) (nC cC : Nat) (zC : List ByteArray) (oP : Option Addr) (nP cP : Nat) (zP : List Int) (a b : Int) (w : World) (hT : IsStr w oT nT cT zT) (hO : IsStr w oO nO cO zO) (hC : IsStr w oC nC cC zC) (hP : IsRow .i64 w oP nP cP zP) (l1 : -9223372036854775808 ≤ a) (u1 : a < 9223372036854775808) (l2 : -9223372036854775808 ≤ b) (u2 : b < 9223372036854775808) :
    Calls Try.prog 4 #[.slice oT nT cT, .slice oO nO cO, .slice oC nC cC, .slice oP nP cP, .int .i64 a, .int .i64 b] w fun e w' => e = .returned (.bool true) ∧ Below w.heap.size w w' := by
  obtain ⟨hrT, hT1⟩ := str_of hT
  obtain ⟨hrO, hO1⟩ := str_of hO
  obtain ⟨hrC, hC1⟩ := str_of hC
  obtain ⟨hrP, hP1, hP2, _⟩ := row_of hP
  have RT := Lib.hid hrT
  have RO := Lib.hid hrO
  have RC := Lib.hid hrC
  have RP := Lib.hid hrP
  clear hT hO hC hP hrT hrO hrC hrP
  generalize (fun i => zT.getD i ByteArray.empty) = nmT at RT
  generalize (fun i => zO.getD i ByteArray.empty) = nmO at RO
  generalize (fun i => zC.getD i ByteArray.empty) = nmC at RC
  generalize (fun i => zP.getD i 0) = pz at RP
  obtain ⟨j0, hj0, hy0, hy1, hy2⟩ := info_parts top_info
  obtain ⟨kk0, hkk0, hx0, hx1, hx2⟩ := info_parts com_info
  go_enter Try.func4, Try.ntmps4
  by_cases b1 : (18 : Int) < (nT : Int)
  · go_wp2_with fail
    go_ret
    exact ⟨rfl, Below.refl _ _⟩
  by_cases b2 : (8 : Int) < (nO : Int)
  · go_wp2_with fail
    go_ret
    exact ⟨rfl, Below.refl _ _⟩
  by_cases b3 : (8 : Int) < (nC : Int)
  · go_wp2_with fail
    go_ret
    exact ⟨rfl, Below.refl _ _⟩
  have HN : Hid (Nx w w.heap.size (.slice none 0 0) (.slice oO nO cO) (.slice none 0 0) [] [] (w.alloc (.cells #[.slice none 0 0, .slice oO nO cO, .slice none 0 0] 27))) := Lib.hid ⟨bAl (Below.refl _ _) _, Blk.new _ _ _, World.ownsRow_nil _ _ _ _, World.ownsRow_nil _ _ _ _, rfl⟩
  go_wp2_with fail
  generalize w.alloc _ = w3 at HN ⊢
  generalize hgb : w.heap.size = gb at HN ⊢
  have HGB := Lib.hid hgb
  clear hgb
  go_loopw [14] (fun i wr => ∃ (k : Nat) (v1 : Value) (lt : List TP), i = .int .i64 k ∧ k ≤ nT ∧ Hid (lt.length = k) ∧ Hid (Nx w gb v1 (.slice oO nO cO) (.slice none 0 0) lt [] wr)) (fun i _ => nT - (intOf i).toNat)
  case atStart => exact ⟨0, _, [], rfl, Nat.zero_le _, Lib.hid rfl, HN⟩
  case round =>
    clear HN
    obtain ⟨k, v1, lt, rfl, hk, HL, HS⟩ := hrel
    by_cases hkn : k < nT
    · have hkn' : (k : Int) < (nT : Int) := by omega
      obtain ⟨p1, q1, rfl⟩ := own_any HS.out.r1
      obtain ⟨bT, fT, rfl, hbT, cT0⟩ := RT.out k hkn
      have HNMX := Lib.hid (fun (W : World) (hX : Below w.heap.size w W) => (show W.cell? ⟨bT, fT + k, none⟩ = some (.string (nmT k)) from (hX.cell hbT).trans cT0))
      have hbT' : bT < gb := by rw [← HGB.out]; exact hbT
      have hml1 : lt.length + 1 ≤ maxLen := by have := HL.out; unfold maxLen; omega
      have hml2 : (lt.length + 1) * 24 ≤ 140737488355328 := by have := HL.out; omega
      have hsz := HS.out.sz
      generalize nmT k = nm at HNMX cT0
      by_cases hkp : k < nP
      · have hkp' : (k : Int) < (nP : Int) := by omega
        obtain ⟨⟨bP, fP, rfl, hbP, cP0⟩, _⟩ := RP.out k hkp
        have cP1 : wr.cell? ⟨bP, fP + k, none⟩ = some (.int .i64 (pz k)) := (HS.out.be.cell (p := ⟨bP, _, none⟩) hbP).trans cP0
        generalize pz k = y at cP0 cP1
        go_wp2_with fail
        clear cP0 cP1
        have S2 := Lib.hid HS.out.drew
        have HS6 := Lib.hid (fun (W : World) (hX : Nx w gb (.slice p1 lt.length q1) (.slice oO nO cO) (.slice none 0 0) lt [] W) => (⟨HNMX.out W hX.be, hX.bx.cell 0⟩ : NmS bT (fT + k) nm gb 0 (.slice p1 lt.length q1) W))
        have hH : NmS bT (fT + k) nm gb 0 (.slice p1 lt.length q1) wr.drew := HS6.out _ S2.out
        refine wp_region_held_tail (NmS bT (fT + k) nm gb 0 (.slice p1 lt.length q1)) 11 (by kernel_rfl) (by kernel_rfl) ?_
        simp only [List.drop_succ_cons, List.drop_zero]
        refine HeadW.take (i := 0) (oi := ?oi21) (v := ?v21) ?hi21 (by kernel_rfl) ?hQ21 (Or.inl ⟨?hg21, ?hy21⟩) hH ?rest21
        case hi21 => simp only [List.getElem?_toArray, List.getElem?_cons_succ, List.getElem?_cons_zero]; rfl
        case hQ21 => exact fun _ _ _ h => h
        case hg21 => rfl
        case hy21 => intro W hSw; obtain ⟨s0, s1⟩ := hSw; go_simp; try with_reducible rfl
        case rest21 =>
        try simp only [Act.put, List.setIfInBounds_toArray, List.set_cons_zero, List.set_cons_succ]
        refine HeadW.take (i := 1) (oi := ?oi22) (v := ?v22) ?hi22 (by kernel_rfl) ?hQ22 (Or.inl ⟨?hg22, ?hy22⟩) hH ?rest22
        case hi22 => simp only [List.getElem?_toArray, List.getElem?_cons_succ, List.getElem?_cons_zero]; rfl
        case hQ22 => exact fun _ _ _ h => h
        case hg22 => rfl
        case hy22 => intro W hSw; obtain ⟨s0, s1⟩ := hSw; go_simp; try with_reducible rfl
        case rest22 =>
        try simp only [Act.put, List.setIfInBounds_toArray, List.set_cons_zero, List.set_cons_succ]
        refine HeadW.take (i := 2) (oi := ?oi23) (v := ?v23) ?hi23 (by kernel_rfl) ?hQ23 (Or.inl ⟨?hg23, ?hy23⟩) hH ?rest23
        case hi23 => simp only [List.getElem?_toArray, List.getElem?_cons_succ, List.getElem?_cons_zero]; rfl
        case hQ23 => exact fun _ _ _ h => h
        case hg23 => rfl
        case hy23 => intro W hSw; obtain ⟨s0, s1⟩ := hSw; go_simp; try with_reducible rfl
        case rest23 =>
        try simp only [Act.put, List.setIfInBounds_toArray, List.set_cons_zero, List.set_cons_succ]
        refine HeadW.take (i := 3) (oi := ?oi24) (v := ?v24) ?hi24 (by kernel_rfl) ?hQ24 (Or.inl ⟨?hg24, ?hy24⟩) hH ?rest24
        case hi24 => simp only [List.getElem?_toArray, List.getElem?_cons_succ, List.getElem?_cons_zero]; rfl
        case hQ24 => exact fun _ _ _ h => h
        case hg24 => rfl
        case hy24 => intro W hSw; obtain ⟨s0, s1⟩ := hSw; go_simp; try with_reducible rfl
        case rest24 =>
        try simp only [Act.put, List.setIfInBounds_toArray, List.set_cons_zero, List.set_cons_succ]
        refine HeadW.take (i := 4) (oi := ?oi25) (v := ?v25) ?hi25 (by kernel_rfl) ?hQ25 (Or.inl ⟨?hg25, ?hy25⟩) hH ?rest25
        case hi25 => simp only [List.getElem?_toArray, List.getElem?_cons_succ, List.getElem?_cons_zero]; rfl
        case hQ25 => exact fun _ _ _ h => h
        case hg25 => rfl
        case hy25 => intro W hSw; obtain ⟨s0, s1⟩ := hSw; go_simp; try with_reducible rfl
        case rest25 =>
        try simp only [Act.put, List.setIfInBounds_toArray, List.set_cons_zero, List.set_cons_succ]
        refine HeadW.take (i := 5) (oi := ?oi26) (v := ?v26) ?hi26 (by kernel_rfl) ?hQ26 (Or.inl ⟨?hg26, ?hy26⟩) hH ?rest26
        case hi26 => simp only [List.getElem?_toArray, List.getElem?_cons_succ, List.getElem?_cons_zero]; rfl
        case hQ26 => exact fun _ _ _ h => h
        case hg26 => rfl
        case hy26 => intro W hSw; obtain ⟨s0, s1⟩ := hSw; go_simp; try with_reducible rfl
        case rest26 =>
        try simp only [Act.put, List.setIfInBounds_toArray, List.set_cons_zero, List.set_cons_succ]
        refine HeadW.take (i := 6) (oi := ?oi27) (v := ?v27) ?hi27 (by kernel_rfl) ?hQ27 (Or.inl ⟨?hg27, ?hy27⟩) hH ?rest27
        case hi27 => simp only [List.getElem?_toArray, List.getElem?_cons_succ, List.getElem?_cons_zero]; rfl
        case hQ27 => exact fun _ _ _ h => h
        case hg27 => rfl
        case hy27 => intro W hSw; obtain ⟨s0, s1⟩ := hSw; go_simp; try with_reducible rfl
        case rest27 =>
        try simp only [Act.put, List.setIfInBounds_toArray, List.set_cons_zero, List.set_cons_succ]
        refine HeadW.take (i := 7) (oi := ?oi28) (v := ?v28) ?hi28 (by kernel_rfl) ?hQ28 (Or.inl ⟨?hg28, ?hy28⟩) hH ?rest28
        case hi28 => simp only [List.getElem?_toArray, List.getElem?_cons_succ, List.getElem?_cons_zero]; rfl
        case hQ28 => exact fun _ _ _ h => h
        case hg28 => rfl
        case hy28 => intro W hSw; obtain ⟨s0, s1⟩ := hSw; go_simp; try with_reducible rfl
        case rest28 =>
        try simp only [Act.put, List.setIfInBounds_toArray, List.set_cons_zero, List.set_cons_succ]
        refine HeadW.one (i := 8) (o := ?oi29) ?hi29 (by kernel_rfl) ?st29
        case hi29 => simp only [List.getElem?_toArray, List.getElem?_cons_succ, List.getElem?_cons_zero]; rfl
        case st29 =>
        intro K hK
        go_simp
        have S4 := Lib.hid (S2.out.alloc (.cells #[.string nm, .int .i64 y] 36))
        clear hH
        have hH := HS6.out _ S4.out
        try dsimp only
        refine hK.out _ _ hH ?_
        clear hK K
        try simp only [Act.put, List.setIfInBounds_toArray, List.set_cons_zero, List.set_cons_succ]
        refine HeadW.one (i := 9) (o := ?oi30) ?hi30 (by kernel_rfl) ?st30
        case hi30 => simp only [List.getElem?_toArray, List.getElem?_cons_succ, List.getElem?_cons_zero]; rfl
        case st30 =>
        intro K hK
        refine step_append_lies _ rfl (.tmp 47) (.tmp 54) _ rfl (gb + 1) 36 j0 (.agg #[.string ⟨#[]⟩, .int .i64 0]) 2 24 Try.underlying23 hj0 hy0 hy1 hy2 rfl (by decide) _ _ _ rfl S4.out.r1 ⟨wr.drew.heap.size, 0, none⟩ 1 1 [.string nm, .int .i64 y] rfl rfl (cell_two_new _ _ _ _) two_one (by decide) hml1 hml2 S4.out.sz _ rfl ?_
        intro gq cap w5 h51 h52 _ _
        have H5 := Lib.hid (S4.out.put1 (x := (nm, y)) h52 h51)
        have BX5 := Lib.hid (S4.out.bx.grown h52 (row_ne S4.out.r1 gb (Nat.lt_succ_self _)))
        have hH5 : NmS bT (fT + k) nm gb 0 (.slice p1 lt.length q1) w5 := NmS.grown hH h52 S4.out.sz hbT' (row_ne S4.out.r1)
        clear hH
        have hH := hH5
        clear hH5
        try dsimp only
        refine hK.out _ _ hH ?_
        clear hK K
        try simp only [Act.put, List.setIfInBounds_toArray, List.set_cons_zero, List.set_cons_succ]
        refine HeadW.take (i := 10) (oi := ?oi31) (v := ?v31) ?hi31 (by kernel_rfl) ?hQ31 (Or.inl ⟨?hg31, ?hy31⟩) hH ?rest31
        case hi31 => simp only [List.getElem?_toArray, List.getElem?_cons_succ, List.getElem?_cons_zero]; rfl
        case hQ31 => exact fun _ _ _ h => h
        case hg31 => rfl
        case hy31 => intro W hSw; obtain ⟨s0, s1⟩ := hSw; go_simp; try with_reducible rfl
        case rest31 =>
        try simp only [Act.put, List.setIfInBounds_toArray, List.set_cons_zero, List.set_cons_succ]
        refine HeadW.done (by kernel_rfl) ?_
        have e0 := BX5.out.cell 0
        have e1 := BX5.out.cell 1
        have e2 := BX5.out.cell 2
        have e3 := BX5.out.frozen 0
        have e4 := BX5.out.frozen 1
        have e5 := BX5.out.frozen 2
        have e6 := BX5.out.lt
        go_wp2
        go_roundw
        case rel => exact ⟨k + 1, _, lt ++ [(nm, y)], by go_num, by omega, Lib.hid (by rw [List.length_append, HL.out]; rfl), H5⟩
        case measure => simp [intOf]; omega
      · have hkp' : ¬ (k : Int) < (nP : Int) := by omega
        go_wp2_with fail
        have S2 := Lib.hid HS.out.drew
        have HS6 := Lib.hid (fun (W : World) (hX : Nx w gb (.slice p1 lt.length q1) (.slice oO nO cO) (.slice none 0 0) lt [] W) => (⟨HNMX.out W hX.be, hX.bx.cell 0⟩ : NmS bT (fT + k) nm gb 0 (.slice p1 lt.length q1) W))
        have hH : NmS bT (fT + k) nm gb 0 (.slice p1 lt.length q1) wr.drew := HS6.out _ S2.out
        refine wp_region_held_tail (NmS bT (fT + k) nm gb 0 (.slice p1 lt.length q1)) 11 (by kernel_rfl) (by kernel_rfl) ?_
        simp only [List.drop_succ_cons, List.drop_zero]
        refine HeadW.take (i := 0) (oi := ?oi32) (v := ?v32) ?hi32 (by kernel_rfl) ?hQ32 (Or.inl ⟨?hg32, ?hy32⟩) hH ?rest32
        case hi32 => simp only [List.getElem?_toArray, List.getElem?_cons_succ, List.getElem?_cons_zero]; rfl
        case hQ32 => exact fun _ _ _ h => h
        case hg32 => rfl
        case hy32 => intro W hSw; obtain ⟨s0, s1⟩ := hSw; go_simp; try with_reducible rfl
        case rest32 =>
        try simp only [Act.put, List.setIfInBounds_toArray, List.set_cons_zero, List.set_cons_succ]
        refine HeadW.take (i := 1) (oi := ?oi33) (v := ?v33) ?hi33 (by kernel_rfl) ?hQ33 (Or.inl ⟨?hg33, ?hy33⟩) hH ?rest33
        case hi33 => simp only [List.getElem?_toArray, List.getElem?_cons_succ, List.getElem?_cons_zero]; rfl
        case hQ33 => exact fun _ _ _ h => h
        case hg33 => rfl
        case hy33 => intro W hSw; obtain ⟨s0, s1⟩ := hSw; go_simp; try with_reducible rfl
        case rest33 =>
        try simp only [Act.put, List.setIfInBounds_toArray, List.set_cons_zero, List.set_cons_succ]
        refine HeadW.take (i := 2) (oi := ?oi34) (v := ?v34) ?hi34 (by kernel_rfl) ?hQ34 (Or.inl ⟨?hg34, ?hy34⟩) hH ?rest34
        case hi34 => simp only [List.getElem?_toArray, List.getElem?_cons_succ, List.getElem?_cons_zero]; rfl
        case hQ34 => exact fun _ _ _ h => h
        case hg34 => rfl
        case hy34 => intro W hSw; obtain ⟨s0, s1⟩ := hSw; go_simp; try with_reducible rfl
        case rest34 =>
        try simp only [Act.put, List.setIfInBounds_toArray, List.set_cons_zero, List.set_cons_succ]
        refine HeadW.take (i := 3) (oi := ?oi35) (v := ?v35) ?hi35 (by kernel_rfl) ?hQ35 (Or.inl ⟨?hg35, ?hy35⟩) hH ?rest35
        case hi35 => simp only [List.getElem?_toArray, List.getElem?_cons_succ, List.getElem?_cons_zero]; rfl
        case hQ35 => exact fun _ _ _ h => h
        case hg35 => rfl
        case hy35 => intro W hSw; obtain ⟨s0, s1⟩ := hSw; go_simp; try with_reducible rfl
        case rest35 =>
        try simp only [Act.put, List.setIfInBounds_toArray, List.set_cons_zero, List.set_cons_succ]
        refine HeadW.take (i := 4) (oi := ?oi36) (v := ?v36) ?hi36 (by kernel_rfl) ?hQ36 (Or.inl ⟨?hg36, ?hy36⟩) hH ?rest36
        case hi36 => simp only [List.getElem?_toArray, List.getElem?_cons_succ, List.getElem?_cons_zero]; rfl
        case hQ36 => exact fun _ _ _ h => h
        case hg36 => rfl
        case hy36 => intro W hSw; obtain ⟨s0, s1⟩ := hSw; go_simp; try with_reducible rfl
        case rest36 =>
        try simp only [Act.put, List.setIfInBounds_toArray, List.set_cons_zero, List.set_cons_succ]
        refine HeadW.take (i := 5) (oi := ?oi37) (v := ?v37) ?hi37 (by kernel_rfl) ?hQ37 (Or.inl ⟨?hg37, ?hy37⟩) hH ?rest37
        case hi37 => simp only [List.getElem?_toArray, List.getElem?_cons_succ, List.getElem?_cons_zero]; rfl
        case hQ37 => exact fun _ _ _ h => h
        case hg37 => rfl
        case hy37 => intro W hSw; obtain ⟨s0, s1⟩ := hSw; go_simp; try with_reducible rfl
        case rest37 =>
        try simp only [Act.put, List.setIfInBounds_toArray, List.set_cons_zero, List.set_cons_succ]
        refine HeadW.take (i := 6) (oi := ?oi38) (v := ?v38) ?hi38 (by kernel_rfl) ?hQ38 (Or.inl ⟨?hg38, ?hy38⟩) hH ?rest38
        case hi38 => simp only [List.getElem?_toArray, List.getElem?_cons_succ, List.getElem?_cons_zero]; rfl
        case hQ38 => exact fun _ _ _ h => h
        case hg38 => rfl
        case hy38 => intro W hSw; obtain ⟨s0, s1⟩ := hSw; go_simp; try with_reducible rfl
        case rest38 =>
        try simp only [Act.put, List.setIfInBounds_toArray, List.set_cons_zero, List.set_cons_succ]
        refine HeadW.take (i := 7) (oi := ?oi39) (v := ?v39) ?hi39 (by kernel_rfl) ?hQ39 (Or.inl ⟨?hg39, ?hy39⟩) hH ?rest39
        case hi39 => simp only [List.getElem?_toArray, List.getElem?_cons_succ, List.getElem?_cons_zero]; rfl
        case hQ39 => exact fun _ _ _ h => h
        case hg39 => rfl
        case hy39 => intro W hSw; obtain ⟨s0, s1⟩ := hSw; go_simp; try with_reducible rfl
        case rest39 =>
        try simp only [Act.put, List.setIfInBounds_toArray, List.set_cons_zero, List.set_cons_succ]
        refine HeadW.one (i := 8) (o := ?oi40) ?hi40 (by kernel_rfl) ?st40
        case hi40 => simp only [List.getElem?_toArray, List.getElem?_cons_succ, List.getElem?_cons_zero]; rfl
        case st40 =>
        intro K hK
        go_simp
        have S4 := Lib.hid (S2.out.alloc (.cells #[.string nm, .int .i64 (-1)] 36))
        clear hH
        have hH := HS6.out _ S4.out
        try dsimp only
        refine hK.out _ _ hH ?_
        clear hK K
        try simp only [Act.put, List.setIfInBounds_toArray, List.set_cons_zero, List.set_cons_succ]
        refine HeadW.one (i := 9) (o := ?oi41) ?hi41 (by kernel_rfl) ?st41
        case hi41 => simp only [List.getElem?_toArray, List.getElem?_cons_succ, List.getElem?_cons_zero]; rfl
        case st41 =>
        intro K hK
        refine step_append_lies _ rfl (.tmp 47) (.tmp 54) _ rfl (gb + 1) 36 j0 (.agg #[.string ⟨#[]⟩, .int .i64 0]) 2 24 Try.underlying23 hj0 hy0 hy1 hy2 rfl (by decide) _ _ _ rfl S4.out.r1 ⟨wr.drew.heap.size, 0, none⟩ 1 1 [.string nm, .int .i64 (-1)] rfl rfl (cell_two_new _ _ _ _) two_one (by decide) hml1 hml2 S4.out.sz _ rfl ?_
        intro gq cap w5 h51 h52 _ _
        have H5 := Lib.hid (S4.out.put1 (x := (nm, (-1))) h52 h51)
        have BX5 := Lib.hid (S4.out.bx.grown h52 (row_ne S4.out.r1 gb (Nat.lt_succ_self _)))
        have hH5 : NmS bT (fT + k) nm gb 0 (.slice p1 lt.length q1) w5 := NmS.grown hH h52 S4.out.sz hbT' (row_ne S4.out.r1)
        clear hH
        have hH := hH5
        clear hH5
        try dsimp only
        refine hK.out _ _ hH ?_
        clear hK K
        try simp only [Act.put, List.setIfInBounds_toArray, List.set_cons_zero, List.set_cons_succ]
        refine HeadW.take (i := 10) (oi := ?oi42) (v := ?v42) ?hi42 (by kernel_rfl) ?hQ42 (Or.inl ⟨?hg42, ?hy42⟩) hH ?rest42
        case hi42 => simp only [List.getElem?_toArray, List.getElem?_cons_succ, List.getElem?_cons_zero]; rfl
        case hQ42 => exact fun _ _ _ h => h
        case hg42 => rfl
        case hy42 => intro W hSw; obtain ⟨s0, s1⟩ := hSw; go_simp; try with_reducible rfl
        case rest42 =>
        try simp only [Act.put, List.setIfInBounds_toArray, List.set_cons_zero, List.set_cons_succ]
        refine HeadW.done (by kernel_rfl) ?_
        have e0 := BX5.out.cell 0
        have e1 := BX5.out.cell 1
        have e2 := BX5.out.cell 2
        have e3 := BX5.out.frozen 0
        have e4 := BX5.out.frozen 1
        have e5 := BX5.out.frozen 2
        have e6 := BX5.out.lt
        go_wp2
        go_roundw
        case rel => exact ⟨k + 1, _, lt ++ [(nm, (-1))], by go_num, by omega, Lib.hid (by rw [List.length_append, HL.out]; rfl), H5⟩
        case measure => simp [intOf]; omega
    · obtain rfl : k = nT := by omega
      clear HGB
      go_wp2_with fail
      go_loopw [16] (fun i wr => ∃ (k : Nat) (v3 : Value) (lc : List CP), i = .int .i64 k ∧ k ≤ nC ∧ Hid (lc.length = k) ∧ Hid (Nx w gb v1 (.slice oO nO cO) v3 lt lc wr)) (fun i _ => nC - (intOf i).toNat)
      case atStart => exact ⟨0, _, [], rfl, Nat.zero_le _, Lib.hid rfl, HS⟩
      case round =>
        clear HS
        obtain ⟨k, v3, lc, rfl, hk, HLC, HS⟩ := hrel
        by_cases hkn : k < nC
        · have hkn' : (k : Int) < (nC : Int) := by omega
          obtain ⟨p3, q3, rfl⟩ := own_any HS.out.r3
          obtain ⟨bT, fT, rfl, hbT, cT0⟩ := RC.out k hkn
          have HNMX := Lib.hid (fun (W : World) (hX : Below w.heap.size w W) => (show W.cell? ⟨bT, fT + k, none⟩ = some (.string (nmC k)) from (hX.cell hbT).trans cT0))
          have hbT' : bT < gb := by rw [HS.out.gs]; exact hbT
          have hml1 : lc.length + 1 ≤ maxLen := by have := HLC.out; unfold maxLen; omega
          have hml2 : (lc.length + 1) * 32 ≤ 140737488355328 := by have := HLC.out; omega
          have hsz := HS.out.sz
          generalize nmC k = nm at HNMX cT0
          go_wp2_with fail
          have S2 := Lib.hid HS.out.drew
          have HS6 := Lib.hid (fun (W : World) (hX : Nx w gb v1 (.slice oO nO cO) (.slice p3 lc.length q3) lt lc W) => (⟨HNMX.out W hX.be, hX.bx.cell 2⟩ : NmS bT (fT + k) nm gb 2 (.slice p3 lc.length q3) W))
          have hH : NmS bT (fT + k) nm gb 2 (.slice p3 lc.length q3) wr.drew := HS6.out _ S2.out
          refine wp_region_held_tail (NmS bT (fT + k) nm gb 2 (.slice p3 lc.length q3)) 12 (by kernel_rfl) (by kernel_rfl) ?_
          simp only [List.drop_succ_cons, List.drop_zero]
          refine HeadW.take (i := 0) (oi := ?oi1) (v := ?v1) ?hi1 (by kernel_rfl) ?hQ1 (Or.inl ⟨?hg1, ?hy1⟩) hH ?rest1
          case hi1 => simp only [List.getElem?_toArray, List.getElem?_cons_succ, List.getElem?_cons_zero]; rfl
          case hQ1 => exact fun _ _ _ h => h
          case hg1 => rfl
          case hy1 => intro W hSw; obtain ⟨s0, s1⟩ := hSw; go_simp; try with_reducible rfl
          case rest1 =>
          try simp only [Act.put, List.setIfInBounds_toArray, List.set_cons_zero, List.set_cons_succ]
          refine HeadW.take (i := 1) (oi := ?oi2) (v := ?v2) ?hi2 (by kernel_rfl) ?hQ2 (Or.inl ⟨?hg2, ?hy2⟩) hH ?rest2
          case hi2 => simp only [List.getElem?_toArray, List.getElem?_cons_succ, List.getElem?_cons_zero]; rfl
          case hQ2 => exact fun _ _ _ h => h
          case hg2 => rfl
          case hy2 => intro W hSw; obtain ⟨s0, s1⟩ := hSw; go_simp; try with_reducible rfl
          case rest2 =>
          try simp only [Act.put, List.setIfInBounds_toArray, List.set_cons_zero, List.set_cons_succ]
          refine HeadW.take (i := 2) (oi := ?oi3) (v := ?v3) ?hi3 (by kernel_rfl) ?hQ3 (Or.inl ⟨?hg3, ?hy3⟩) hH ?rest3
          case hi3 => simp only [List.getElem?_toArray, List.getElem?_cons_succ, List.getElem?_cons_zero]; rfl
          case hQ3 => exact fun _ _ _ h => h
          case hg3 => rfl
          case hy3 => intro W hSw; obtain ⟨s0, s1⟩ := hSw; go_simp; try with_reducible rfl
          case rest3 =>
          try simp only [Act.put, List.setIfInBounds_toArray, List.set_cons_zero, List.set_cons_succ]
          refine HeadW.take (i := 3) (oi := ?oi4) (v := ?v4) ?hi4 (by kernel_rfl) ?hQ4 (Or.inl ⟨?hg4, ?hy4⟩) hH ?rest4
          case hi4 => simp only [List.getElem?_toArray, List.getElem?_cons_succ, List.getElem?_cons_zero]; rfl
          case hQ4 => exact fun _ _ _ h => h
          case hg4 => rfl
          case hy4 => intro W hSw; obtain ⟨s0, s1⟩ := hSw; go_simp; try with_reducible rfl
          case rest4 =>
          try simp only [Act.put, List.setIfInBounds_toArray, List.set_cons_zero, List.set_cons_succ]
          refine HeadW.take (i := 4) (oi := ?oi5) (v := ?v5) ?hi5 (by kernel_rfl) ?hQ5 (Or.inl ⟨?hg5, ?hy5⟩) hH ?rest5
          case hi5 => simp only [List.getElem?_toArray, List.getElem?_cons_succ, List.getElem?_cons_zero]; rfl
          case hQ5 => exact fun _ _ _ h => h
          case hg5 => rfl
          case hy5 => intro W hSw; obtain ⟨s0, s1⟩ := hSw; go_simp; try with_reducible rfl
          case rest5 =>
          try simp only [Act.put, List.setIfInBounds_toArray, List.set_cons_zero, List.set_cons_succ]
          refine HeadW.take (i := 5) (oi := ?oi6) (v := ?v6) ?hi6 (by kernel_rfl) ?hQ6 (Or.inl ⟨?hg6, ?hy6⟩) hH ?rest6
          case hi6 => simp only [List.getElem?_toArray, List.getElem?_cons_succ, List.getElem?_cons_zero]; rfl
          case hQ6 => exact fun _ _ _ h => h
          case hg6 => rfl
          case hy6 => intro W hSw; obtain ⟨s0, s1⟩ := hSw; go_simp; try with_reducible rfl
          case rest6 =>
          try simp only [Act.put, List.setIfInBounds_toArray, List.set_cons_zero, List.set_cons_succ]
          refine HeadW.take (i := 6) (oi := ?oi7) (v := ?v7) ?hi7 (by kernel_rfl) ?hQ7 (Or.inl ⟨?hg7, ?hy7⟩) hH ?rest7
          case hi7 => simp only [List.getElem?_toArray, List.getElem?_cons_succ, List.getElem?_cons_zero]; rfl
          case hQ7 => exact fun _ _ _ h => h
          case hg7 => rfl
          case hy7 => intro W hSw; obtain ⟨s0, s1⟩ := hSw; go_simp; try with_reducible rfl
          case rest7 =>
          try simp only [Act.put, List.setIfInBounds_toArray, List.set_cons_zero, List.set_cons_succ]
          refine HeadW.take (i := 7) (oi := ?oi8) (v := ?v8) ?hi8 (by kernel_rfl) ?hQ8 (Or.inl ⟨?hg8, ?hy8⟩) hH ?rest8
          case hi8 => simp only [List.getElem?_toArray, List.getElem?_cons_succ, List.getElem?_cons_zero]; rfl
          case hQ8 => exact fun _ _ _ h => h
          case hg8 => rfl
          case hy8 => intro W hSw; obtain ⟨s0, s1⟩ := hSw; go_simp; try with_reducible rfl
          case rest8 =>
          try simp only [Act.put, List.setIfInBounds_toArray, List.set_cons_zero, List.set_cons_succ]
          refine HeadW.take (i := 8) (oi := ?oi9) (v := ?v9) ?hi9 (by kernel_rfl) ?hQ9 (Or.inl ⟨?hg9, ?hy9⟩) hH ?rest9
          case hi9 => simp only [List.getElem?_toArray, List.getElem?_cons_succ, List.getElem?_cons_zero]; rfl
          case hQ9 => exact fun _ _ _ h => h
          case hg9 => rfl
          case hy9 => intro W hSw; obtain ⟨s0, s1⟩ := hSw; go_simp; try with_reducible rfl
          case rest9 =>
          try simp only [Act.put, List.setIfInBounds_toArray, List.set_cons_zero, List.set_cons_succ]
          refine HeadW.one (i := 9) (o := ?oi10) ?hi10 (by kernel_rfl) ?st10
          case hi10 => simp only [List.getElem?_toArray, List.getElem?_cons_succ, List.getElem?_cons_zero]; rfl
          case st10 =>
          intro K hK
          go_simp
          have S4 := Lib.hid (S2.out.alloc (.cells #[.string nm, .int .i64 a, .int .i64 b] 38))
          clear hH
          have hH := HS6.out _ S4.out
          try dsimp only
          refine hK.out _ _ hH ?_
          clear hK K
          try simp only [Act.put, List.setIfInBounds_toArray, List.set_cons_zero, List.set_cons_succ]
          refine HeadW.one (i := 10) (o := ?oi11) ?hi11 (by kernel_rfl) ?st11
          case hi11 => simp only [List.getElem?_toArray, List.getElem?_cons_succ, List.getElem?_cons_zero]; rfl
          case st11 =>
          intro K hK
          refine step_append_lies _ rfl (.tmp 64) (.tmp 72) _ rfl (gb + 1) 38 kk0 (.agg #[.string ⟨#[]⟩, .int .i64 0, .int .i64 0]) 3 32 Try.underlying25 hkk0 hx0 hx1 hx2 rfl (by decide) _ _ _ rfl S4.out.r3 ⟨wr.drew.heap.size, 0, none⟩ 1 1 [.string nm, .int .i64 a, .int .i64 b] rfl rfl (cell_three_new _ _ _ _ _) three_one (by decide) hml1 hml2 S4.out.sz _ rfl ?_
          intro gq cap w5 h51 h52 _ _
          have H5 := Lib.hid (S4.out.put3 (x := (nm, a, b)) h52 h51)
          have BX5 := Lib.hid (S4.out.bx.grown h52 (row_ne S4.out.r3 gb (Nat.lt_succ_self _)))
          have hH5 : NmS bT (fT + k) nm gb 2 (.slice p3 lc.length q3) w5 := NmS.grown hH h52 S4.out.sz hbT' (row_ne S4.out.r3)
          clear hH
          have hH := hH5
          clear hH5
          try dsimp only
          refine hK.out _ _ hH ?_
          clear hK K
          try simp only [Act.put, List.setIfInBounds_toArray, List.set_cons_zero, List.set_cons_succ]
          refine HeadW.take (i := 11) (oi := ?oi12) (v := ?v12) ?hi12 (by kernel_rfl) ?hQ12 (Or.inl ⟨?hg12, ?hy12⟩) hH ?rest12
          case hi12 => simp only [List.getElem?_toArray, List.getElem?_cons_succ, List.getElem?_cons_zero]; rfl
          case hQ12 => exact fun _ _ _ h => h
          case hg12 => rfl
          case hy12 => intro W hSw; obtain ⟨s0, s1⟩ := hSw; go_simp; try with_reducible rfl
          case rest12 =>
          try simp only [Act.put, List.setIfInBounds_toArray, List.set_cons_zero, List.set_cons_succ]
          refine HeadW.done (by kernel_rfl) ?_
          have e0 := BX5.out.cell 0
          have e1 := BX5.out.cell 1
          have e2 := BX5.out.cell 2
          have e3 := BX5.out.frozen 0
          have e4 := BX5.out.frozen 1
          have e5 := BX5.out.frozen 2
          have e6 := BX5.out.lt
          go_wp2
          go_roundw
          case rel => exact ⟨k + 1, _, lc ++ [(nm, a, b)], by go_num, by omega, Lib.hid (by rw [List.length_append, HLC.out]; rfl), H5⟩
          case measure => simp [intOf]; omega
        · obtain rfl : k = nC := by omega
          obtain ⟨o1, c1, rfl, hc1, hrt⟩ := rowT_own HS.out.r1
          obtain ⟨o3, c3, rfl, hc3, hrc⟩ := rowC_own HS.out.r3
          have HSY : Hid (SylIn wr wr.heap.size ⟨o1, c1, oO, cO, o3, c3⟩ ⟨lt.length, fun i => (lt.getD i (⟨#[]⟩, 0)).1, fun i => (lt.getD i (⟨#[]⟩, 0)).2, nO, nmO, lc.length, fun i => (lc.getD i (⟨#[]⟩, 0, 0)).1, fun i => (lc.getD i (⟨#[]⟩, 0, 0)).2.1, fun i => (lc.getD i (⟨#[]⟩, 0, 0)).2.2⟩) := Lib.hid ⟨hrt, (RO.out.below HS.out.be (Nat.le_refl _)).more HS.out.be.size, hrc, hc1, hO1, hc3⟩
          have HSc := Lib.hid (HSY.out.later (bD1 (Below.refl _ _)))
          have PBc := Lib.hid HS.out.drew.bx
          have HBc := Lib.hid HS.out.drew.be
          clear HS hrt hrc HSY
          generalize (fun i => (lt.getD i (⟨#[]⟩, 0)).1) = e1 at HSc
          generalize (fun i => (lt.getD i (⟨#[]⟩, 0)).2) = e2 at HSc
          generalize (fun i => (lc.getD i (⟨#[]⟩, 0, 0)).1) = e3 at HSc
          generalize (fun i => (lc.getD i (⟨#[]⟩, 0, 0)).2.1) = e4 at HSc
          generalize (fun i => (lc.getD i (⟨#[]⟩, 0, 0)).2.2) = e5 at HSc
          have F1 := Lib.hid (fun W (hX : SylIn W W.heap.size ⟨o1, c1, oO, cO, o3, c3⟩ ⟨lt.length, e1, e2, nO, nmO, lc.length, e3, e4, e5⟩) => check_any _ _ W hX)
          have G1 := Lib.hid (fun W (hX : SylIn W W.heap.size ⟨o1, c1, oO, cO, o3, c3⟩ ⟨lt.length, e1, e2, nO, nmO, lc.length, e3, e4, e5⟩) => rcheck_any _ _ W hX)
          generalize (Syl.mk lt.length e1 e2 nO nmO lc.length e3 e4 e5).chk = m at F1 G1
          unfold sylC at F1 G1
          dsimp only at F1 G1
          have hmm : (m == m) = true := by simp
          go_wp2_with fail
          have hH : BoxN gb (.slice o1 lt.length c1) (.slice oO nO cO) (.slice o3 lc.length c3) wr.drew := ⟨PBc.out.cell 0, PBc.out.cell 1, PBc.out.cell 2⟩
          refine wp_region_held_tail (BoxN gb (.slice o1 lt.length c1) (.slice oO nO cO) (.slice o3 lc.length c3)) 8 (by kernel_rfl) (by kernel_rfl) ?_
          simp only [List.drop_succ_cons, List.drop_zero]
          refine HeadW.take (i := 0) (oi := ?oi13) (v := ?v13) ?hi13 (by kernel_rfl) ?hQ13 (Or.inl ⟨?hg13, ?hy13⟩) hH ?rest13
          case hi13 => simp only [List.getElem?_toArray, List.getElem?_cons_succ, List.getElem?_cons_zero]; rfl
          case hQ13 => exact fun _ _ _ h => h
          case hg13 => rfl
          case hy13 => intro W hSw; obtain ⟨s0, s1, s2⟩ := hSw; go_simp; try with_reducible rfl
          case rest13 =>
          try simp only [Act.put, List.setIfInBounds_toArray, List.set_cons_zero, List.set_cons_succ]
          refine HeadW.take (i := 2) (oi := ?oi14) (v := ?v14) ?hi14 (by kernel_rfl) ?hQ14 (Or.inl ⟨?hg14, ?hy14⟩) hH ?rest14
          case hi14 => simp only [List.getElem?_toArray, List.getElem?_cons_succ, List.getElem?_cons_zero]; rfl
          case hQ14 => exact fun _ _ _ h => h
          case hg14 => rfl
          case hy14 => intro W hSw; obtain ⟨s0, s1, s2⟩ := hSw; go_simp; try with_reducible rfl
          case rest14 =>
          try simp only [Act.put, List.setIfInBounds_toArray, List.set_cons_zero, List.set_cons_succ]
          refine HeadW.one (i := 1) (o := ?oi15) ?hi15 (by kernel_rfl) ?st15
          case hi15 => simp only [List.getElem?_toArray, List.getElem?_cons_succ, List.getElem?_cons_zero]; rfl
          case st15 =>
          intro K hK
          go_simp
          go_at_call 13
          refine (F1.out _ HSc.out).mono ?_
          rintro e w6 ⟨rfl, hb⟩
          have HSc := Lib.hid (HSc.out.later hb)
          have PBc := Lib.hid (PBc.out.later hb)
          have HBc := Lib.hid (bTr HBc.out hb)
          clear hb hH
          have hH : BoxN gb (.slice o1 lt.length c1) (.slice oO nO cO) (.slice o3 lc.length c3) _ := ⟨PBc.out.cell 0, PBc.out.cell 1, PBc.out.cell 2⟩
          try dsimp only
          refine hK.out _ _ hH ?_
          clear hK K
          try simp only [Act.put, List.setIfInBounds_toArray, List.set_cons_zero, List.set_cons_succ]
          refine HeadW.one (i := 3) (o := ?oi16) ?hi16 (by kernel_rfl) ?st16
          case hi16 => simp only [List.getElem?_toArray, List.getElem?_cons_succ, List.getElem?_cons_zero]; rfl
          case st16 =>
          intro K hK
          go_simp
          go_at_call 14
          refine (G1.out _ HSc.out).mono ?_
          rintro e w7 ⟨rfl, hb⟩
          have HSc := Lib.hid (HSc.out.later hb)
          have PBc := Lib.hid (PBc.out.later hb)
          have HBc := Lib.hid (bTr HBc.out hb)
          clear hb hH
          have hH : BoxN gb (.slice o1 lt.length c1) (.slice oO nO cO) (.slice o3 lc.length c3) _ := ⟨PBc.out.cell 0, PBc.out.cell 1, PBc.out.cell 2⟩
          try dsimp only
          refine hK.out _ _ hH ?_
          clear hK K
          try simp only [Act.put, List.setIfInBounds_toArray, List.set_cons_zero, List.set_cons_succ]
          refine HeadW.take (i := 4) (oi := ?oi17) (v := ?v17) ?hi17 (by kernel_rfl) ?hQ17 (Or.inl ⟨?hg17, ?hy17⟩) hH ?rest17
          case hi17 => simp only [List.getElem?_toArray, List.getElem?_cons_succ, List.getElem?_cons_zero]; rfl
          case hQ17 => exact fun _ _ _ h => h
          case hg17 => rfl
          case hy17 => intro W hSw; obtain ⟨s0, s1, s2⟩ := hSw; go_simp; try with_reducible rfl
          case rest17 =>
          try simp only [Act.put, List.setIfInBounds_toArray, List.set_cons_zero, List.set_cons_succ]
          refine HeadW.take (i := 5) (oi := ?oi18) (v := ?v18) ?hi18 (by kernel_rfl) ?hQ18 (Or.inl ⟨?hg18, ?hy18⟩) hH ?rest18
          case hi18 => simp only [List.getElem?_toArray, List.getElem?_cons_succ, List.getElem?_cons_zero]; rfl
          case hQ18 => exact fun _ _ _ h => h
          case hg18 => rfl
          case hy18 => intro W hSw; obtain ⟨s0, s1, s2⟩ := hSw; go_simp; try with_reducible rfl
          case rest18 =>
          try simp only [Act.put, List.setIfInBounds_toArray, List.set_cons_zero, List.set_cons_succ]
          refine HeadW.one (i := 6) (o := ?oi19) ?hi19 (by kernel_rfl) ?st19
          case hi19 => simp only [List.getElem?_toArray, List.getElem?_cons_succ, List.getElem?_cons_zero]; rfl
          case st19 =>
          intro K hK
          go_simp
          go_at_call 15
          refine (awake_any _).mono ?_
          rintro e w8 ⟨rfl, hb⟩
          have HSc := Lib.hid (HSc.out.later hb)
          have PBc := Lib.hid (PBc.out.later hb)
          have HBc := Lib.hid (bTr HBc.out hb)
          clear hb hH
          have hH : BoxN gb (.slice o1 lt.length c1) (.slice oO nO cO) (.slice o3 lc.length c3) _ := ⟨PBc.out.cell 0, PBc.out.cell 1, PBc.out.cell 2⟩
          try dsimp only
          refine hK.out _ _ hH ?_
          clear hK K
          try simp only [Act.put, List.setIfInBounds_toArray, List.set_cons_zero, List.set_cons_succ]
          refine HeadW.take (i := 7) (oi := ?oi20) (v := ?v20) ?hi20 (by kernel_rfl) ?hQ20 (Or.inl ⟨?hg20, ?hy20⟩) hH ?rest20
          case hi20 => simp only [List.getElem?_toArray, List.getElem?_cons_succ, List.getElem?_cons_zero]; rfl
          case hQ20 => exact fun _ _ _ h => h
          case hg20 => rfl
          case hy20 => intro W hSw; obtain ⟨s0, s1, s2⟩ := hSw; go_simp; try with_reducible rfl
          case rest20 =>
          try simp only [Act.put, List.setIfInBounds_toArray, List.set_cons_zero, List.set_cons_succ]
          refine HeadW.done (by kernel_rfl) ?_
          go_wp2_with fail
          go_ret
          exact ⟨rfl, HBc.out⟩

end Go.Proofs.Ytglikjdgjmijfaa
