/-
  What a decimal's text is read as, and how near it is.
-/
import Derived.Test.YtajiheohkmjhnaaGreatDoorNkN
namespace Go.Proofs.YtajiheohkmjhnaaGreatDoor
open Go.RowKit Go.Lib
set_option linter.unusedSimpArgs false
set_option linter.unusedVariables false

theorem dv_shift {c : Nat → Int} (h : c 0 = 48) : ∀ n, dv c (n + 1) = dv (fun i => c (i + 1)) n
  | 0 => by show 10 * 0 + (c 0 - 48) = 0; omega
  | n + 1 => by
    show 10 * dv c (n + 1) + (c (n + 1) - 48) = 10 * dv (fun i => c (i + 1)) n + (c (n + 1) - 48)
    rw [dv_shift h n]
theorem dgs_shift {c : Nat → Int} (h : c 0 = 48) : ∀ n, dgs c (n + 1) = dgs (fun i => c (i + 1)) n
  | 0 => by
    show (true && decide (48 ≤ c 0 ∧ c 0 ≤ 57)) = true
    rw [Bool.true_and, decide_eq_true_eq]
    omega
  | n + 1 => by
    show (dgs c (n + 1) && decide (48 ≤ c (n + 1) ∧ c (n + 1) ≤ 57)) = (dgs (fun i => c (i + 1)) n && decide (48 ≤ c (n + 1) ∧ c (n + 1) ≤ 57))
    rw [dgs_shift h n]
theorem cl_cons (a : UInt8) (l : List UInt8) : (fun i => cl (a :: l) (i + 1)) = cl l := rfl
theorem zeros_dv (l : List UInt8) : ∀ z, dgs (cl (List.replicate z 48 ++ l)) (z + l.length) = dgs (cl l) l.length ∧ dv (cl (List.replicate z 48 ++ l)) (z + l.length) = dv (cl l) l.length
  | 0 => by simp
  | z + 1 => by
    have h0 : cl (48 :: (List.replicate z 48 ++ l)) 0 = 48 := rfl
    rw [List.replicate_succ, List.cons_append, show z + 1 + l.length = (z + l.length) + 1 by omega, dgs_shift h0, dv_shift h0, cl_cons]
    exact zeros_dv l z
theorem pad_dv {k u : Nat} (hk : 1 ≤ k) (hu : u < 10 ^ k) : (padL k (decDigits u)).length = k ∧ dgs (cl (padL k (decDigits u))) k = true ∧ dv (cl (padL k (decDigits u))) k = u := by
  obtain ⟨l0, l1⟩ := decD_len k u hk hu
  have hl := padL_len l1
  refine ⟨hl, ?_⟩
  obtain ⟨z1, z2⟩ := zeros_dv (decDigits u) (k - (decDigits u).length)
  rw [show k - (decDigits u).length + (decDigits u).length = k by omega] at z1 z2
  unfold padL
  rw [z1, z2]
  exact dec_dv u
theorem pad_at {k u : Nat} (hk : 1 ≤ k) (hu : u < 10 ^ k) (j : Nat) (hj : j < k) : 48 ≤ cl (padL k (decDigits u)) j := (dgs_at (pad_dv hk hu).2.1 j hj).1
/-- digits, a point, digits -/
theorem frm_point {t : ByteArray} {u v k : Nat} (h : t.data.toList = decDigits u ++ 46 :: padL k (decDigits v)) (hu : u < 10 ^ 19) (hk : 1 ≤ k) (hk9 : k ≤ 9) (hv : v < 10 ^ k) :
    frm t = 2 ∧ pnum t = (u : Int) * 10 ^ k + v ∧ pden t = 10 ^ k := by
  obtain ⟨p1, p2, p3⟩ := pad_dv hk hv
  have hs : t.size = (decDigits u).length + 1 + k := by rw [size_eq, h, List.length_append, List.length_cons, p1]; omega
  have hb : ∀ j, j < t.size → (j < (decDigits u).length ∧ 48 ≤ cl t.data.toList j) ∨ (j = (decDigits u).length ∧ cl t.data.toList j = 46) ∨ ((decDigits u).length < j ∧ 48 ≤ cl t.data.toList j) := by
    intro j hj
    rw [h]
    rcases Nat.lt_trichotomy j (decDigits u).length with h1 | h1 | h1
    · left
      rw [cl_lt h1]
      exact ⟨h1, (dgs_at (dec_dv u).1 j h1).1⟩
    · right; left
      subst h1
      exact ⟨rfl, by rw [cl_len]; rfl⟩
    · right; right
      refine ⟨h1, ?_⟩
      have e : cl (decDigits u ++ 46 :: padL k (decDigits v)) j = cl (padL k (decDigits v)) (j - (decDigits u).length - 1) := by
        unfold cl
        rw [List.getD_eq_getElem?_getD, List.getElem?_append_right (by omega), List.getD_eq_getElem?_getD]
        obtain ⟨m, hm⟩ : ∃ m, j - (decDigits u).length = m + 1 := ⟨j - (decDigits u).length - 1, by omega⟩
        rw [hm, List.getElem?_cons_succ]
        rfl
      rw [e]
      exact pad_at hk hv _ (by omega)
  have n1 : slN t < 0 := by
    unfold slN
    rw [byteAt_cl, fst_none (fun j hj => by rcases hb j hj with h1 | h1 | h1 <;> omega)]
    omega
  have n2 : ptN t = ((decDigits u).length : Nat) := by
    unfold ptN
    rw [byteAt_cl]
    refine fst_first (by omega) (fun j hj => ?_) ?_
    · rcases hb j (by omega) with h1 | h1 | h1 <;> omega
    · rcases hb (decDigits u).length (by omega) with h1 | h1 | h1 <;> omega
  have x1 : (t.extract 0 (decDigits u).length).data.toList = decDigits u := by rw [ext_list, h, List.drop_zero, List.take_left]
  have x2 : (t.extract ((decDigits u).length + 1) t.size).data.toList = padL k (decDigits v) := by
    rw [ext_list, List.take_of_length_le (by rw [← size_eq]; omega), h, ← List.drop_drop, List.drop_left]
    rfl
  obtain ⟨o1, v1⟩ := nV_list x1 hu
  have s2 : (t.extract ((decDigits u).length + 1) t.size).size = k := by rw [size_eq, x2, p1]
  have o2 : nOk (t.extract ((decDigits u).length + 1) t.size) 9 = true := by
    unfold nOk
    rw [s2, byteAt_cl, x2, p2, decide_eq_true (by omega)]
    rfl
  have v2 : nV (t.extract ((decDigits u).length + 1) t.size) 9 = v := by
    unfold nV
    rw [if_pos o2, s2, byteAt_cl, x2, p3]
  have hf := (frm_pt n1 n2 v1 v2 o1 o2).2 rfl
  rw [show t.size - ((decDigits u).length + 1) = k by omega] at hf
  exact hf
/-- the number that the text shows, in units of the last digit -/
def rnd (N D : Int) (k : Nat) : Int := if N < 0 then -(dq N D k : Int) else dq N D k
theorem par_dec {N D : Int} {k : Nat} (hv : Frac.valid N D = true) (hk : 1 ≤ k) (hk9 : k ≤ 9) : let s : ByteArray := ⟨(decL N D k).toArray⟩; parN s = qn (rnd N D k) (10 ^ k) ∧ parD s = qd (rnd N D k) (10 ^ k) ∧ parE s = qe (rnd N D k) (10 ^ k) ∧ s.size ≤ 1000 := by
  intro s
  have hw := whole_bd hv hk9
  have hp := pow_le9 hk9
  have hm : dq N D k % 10 ^ k < 10 ^ k := Nat.mod_lt _ (by omega)
  have hsum : dq N D k / 10 ^ k * 10 ^ k + dq N D k % 10 ^ k = dq N D k := Nat.div_add_mod' _ _
  have hR : rnd N D k = if N < 0 then -(dq N D k : Int) else dq N D k := rfl
  have hs : s.data.toList = (if N < 0 ∧ dq N D k ≠ 0 then [45] else []) ++ (decDigits (dq N D k / 10 ^ k) ++ 46 :: padL k (decDigits (dq N D k % 10 ^ k))) := by
    show decL N D k = _
    unfold decL
    rw [if_pos (show 0 < k by omega)]
  have hu19 : dq N D k / 10 ^ k < 10 ^ 19 ∨ True := .inr trivial
  have hq := (dq_bd hv hk9).2.2.2.2
  have hu : dq N D k / 10 ^ k < 10 ^ 19 := by
    have h2 : dq N D k ≤ 10 ^ k * 1152921504606846977 := by rw [Nat.mul_comm, show (1152921504606846977 : Nat) = 1152921504606846976 + 1 by rfl, Nat.add_mul]; omega
    have h3 := Nat.div_le_of_le_mul h2
    have h4 : (10 : Nat) ^ 19 = 10000000000000000000 := by decide
    omega
  generalize dq N D k = Q at *
  obtain ⟨M, hM⟩ : ∃ M : Int, (M < 0 ↔ N < 0 ∧ Q ≠ 0) := by
    by_cases h : N < 0 ∧ Q ≠ 0
    · exact ⟨-1, ⟨fun _ => h, fun _ => by omega⟩⟩
    · exact ⟨0, ⟨fun h' => by omega, fun h' => absurd h' h⟩⟩
  have hs' : s.data.toList = (if M < 0 then [45] else []) ++ (decDigits (Q / 10 ^ k) ++ 46 :: padL k (decDigits (Q % 10 ^ k))) := by
    rw [hs]
    by_cases h : M < 0
    · rw [if_pos h, if_pos (hM.1 h)]
    · rw [if_neg h, if_neg (fun h' => h (hM.2 h'))]
  obtain ⟨hn, hb⟩ := neg_bdy hs'
  obtain ⟨f1, f2, f3⟩ := frm_point hb hu hk hk9 hm
  have e10 : (10 : Int) ^ k = ((10 ^ k : Nat) : Int) := by rw [Int.natCast_pow]; rfl
  have hpn : pnum (bdy s) = (Q : Int) := by
    rw [f2, e10]
    have : ((Q / 10 ^ k * 10 ^ k + Q % 10 ^ k : Nat) : Int) = (Q : Int) := by rw [hsum]
    rw [← this, Int.natCast_add, Int.natCast_mul]
  have hsg : Rep.sgn (neg s) (Q : Int) = rnd N D k := by
    rw [hn, hR]
    by_cases h : M < 0
    · rw [decide_eq_true h, if_pos (hM.1 h).1]; rfl
    · rw [decide_eq_false h]
      show (Q : Int) = _
      by_cases h2 : N < 0
      · rw [if_pos h2]
        have : Q = 0 := by
          rcases Nat.eq_zero_or_pos Q with h3 | h3
          · exact h3
          · exact absurd (hM.2 ⟨h2, by omega⟩) h
        omega
      · rw [if_neg h2]
  have hsz : s.size ≤ 1000 := by
    have l1 := decD_len 19 (Q / 10 ^ k) (by omega) hu
    have l2 := (pad_dv hk hm).1
    rw [size_eq, hs, List.length_append, List.length_append, List.length_cons, l2]
    split <;> simp <;> omega
  unfold parN parD parE
  rw [if_pos (by omega), if_pos (by omega), if_pos (by omega), f3, hpn, hsg]
  exact ⟨rfl, rfl, rfl, hsz⟩
/-- at most half a unit off -/
theorem rnd_near {N D : Int} (hD : 0 < D) (k : Nat) : -D ≤ 2 * (rnd N D k * D - N * 10 ^ k) ∧ 2 * (rnd N D k * D - N * 10 ^ k) ≤ D := by
  have hY : D = (D.natAbs : Int) := by omega
  have key : (2 * (dq N D k * D.natAbs) ≤ 2 * (N.natAbs * 10 ^ k) + D.natAbs) ∧ (2 * (N.natAbs * 10 ^ k) ≤ 2 * (dq N D k * D.natAbs) + D.natAbs) := by
    unfold dq
    generalize N.natAbs * 10 ^ k = Z
    have h1 := Nat.div_add_mod Z D.natAbs
    have h2 := Nat.mod_lt Z (show 0 < D.natAbs by omega)
    generalize Z / D.natAbs = q at *
    generalize Z % D.natAbs = r at *
    generalize D.natAbs = Y at *
    unfold rup
    by_cases hc : Y < 2 * r ∨ 2 * r = Y ∧ q % 2 = 1
    · rw [if_pos hc, Nat.add_mul, Nat.mul_comm q Y]
      omega
    · rw [if_neg hc, Nat.add_zero, Nat.mul_comm q Y]
      have : 2 * r ≤ Y := by
        rcases Nat.lt_or_ge Y (2 * r) with h3 | h3
        · exact absurd (.inl h3) hc
        · exact h3
      omega
  have e10 : (10 : Int) ^ k = ((10 ^ k : Nat) : Int) := by rw [Int.natCast_pow]; rfl
  unfold rnd
  rw [e10]
  generalize dq N D k = Q at *
  have k1 : ((2 * (Q * D.natAbs) : Nat) : Int) = 2 * ((Q : Int) * D) := by rw [Int.natCast_mul, Int.natCast_mul, ← hY]; rfl
  by_cases hn : N < 0
  · have hX : N = -(N.natAbs : Int) := by omega
    have k2 : ((2 * (N.natAbs * 10 ^ k) : Nat) : Int) = 2 * (-N * ((10 ^ k : Nat) : Int)) := by
      rw [Int.natCast_mul, Int.natCast_mul, show (N.natAbs : Int) = -N by omega]; rfl
    rw [if_pos hn, Int.neg_mul]
    rw [Int.neg_mul] at k2
    omega
  · have k2 : ((2 * (N.natAbs * 10 ^ k) : Nat) : Int) = 2 * (N * ((10 ^ k : Nat) : Int)) := by
      rw [Int.natCast_mul, Int.natCast_mul, show (N.natAbs : Int) = N by omega]; rfl
    rw [if_neg hn]
    omega
theorem rnd_bd {N D : Int} {k : Nat} (hD : 0 < D) (hN : N.natAbs ≤ 30) (hk : k ≤ 6) : (rnd N D k).natAbs ≤ 30000001 := by
  have h1 : N.natAbs * 10 ^ k ≤ 30 * 10 ^ 6 := Nat.mul_le_mul hN (Nat.pow_le_pow_right (by omega) hk)
  have h2 : N.natAbs * 10 ^ k / D.natAbs ≤ N.natAbs * 10 ^ k := Nat.div_le_self _ _
  have h3 : dq N D k ≤ 30000001 := by
    unfold dq rup
    have : 30 * 10 ^ 6 = 30000000 := by decide
    split <;> omega
  unfold rnd
  split <;> omega
/-- the order is never reversed -/
theorem rnd_mono {N D N' D' : Int} {k : Nat} (hD : 0 < D) (hD' : 0 < D') (h : N * D' < N' * D) : rnd N D k ≤ rnd N' D' k := by
  have h1 := (rnd_near (N := N) hD k).2
  have h2 := (rnd_near (N := N') hD' k).1
  have hT : (0 : Int) < 10 ^ k := Int.pow_pos (by omega)
  generalize (10 : Int) ^ k = T at *
  generalize rnd N D k = R at *
  generalize rnd N' D' k = R' at *
  apply Classical.byContradiction
  intro hn
  have h3 : R' + 1 ≤ R := by omega
  have a1 : 2 * (R * D - N * T) * D' ≤ D * D' := Int.mul_le_mul_of_nonneg_right h1 (by omega)
  have a2 : -D' * D ≤ 2 * (R' * D' - N' * T) * D := Int.mul_le_mul_of_nonneg_right h2 (by omega)
  have a3 : (R' + 1) * (D * D') ≤ R * (D * D') := Int.mul_le_mul_of_nonneg_right h3 (Int.mul_nonneg (by omega) (by omega))
  have a4 : 0 < T * (N' * D - N * D') := Int.mul_pos hT (by omega)
  grind
end Go.Proofs.YtajiheohkmjhnaaGreatDoor
