/-
  The numbers that differ at one place, as lists: the program's over the symbols, the reference's over all bytes.
-/
import Derived.Test.YtlionhmmefghmaaTwinMath
namespace Go.Proofs.Ytlionhmmefghmaa
open Go.RowKit
set_option linter.unusedSimpArgs false
set_option linter.unusedVariables false
set_option maxRecDepth 100000

/-- nine bytes of the right form with the right letter -/
def good (c : Nat → Int) : Bool := (digs c 8 && isLet (c 8)) && (c 8 == lsum c)
/-- the bytes as a list -/
def tL (c : Nat → Int) : List UInt8 := [UInt8.ofNat (c 0).toNat, UInt8.ofNat (c 1).toNat, UInt8.ofNat (c 2).toNat, UInt8.ofNat (c 3).toNat, UInt8.ofNat (c 4).toNat, UInt8.ofNat (c 5).toNat, UInt8.ofNat (c 6).toNat, UInt8.ofNat (c 7).toNat, UInt8.ofNat (c 8).toNat]
theorem tx9_tL (c : Nat → Int) : tx9 c = ⟨(tL c).toArray⟩ := rfl
/-- the symbols of a place, all bytes tried -/
def sy (p : Nat) : List Int := if p = 8 then [65, 66, 67, 68, 69, 70, 71, 72, 74, 75, 76, 77, 78, 80, 81, 82, 83, 84, 85, 86, 87, 88, 89] else [48, 49, 50, 51, 52, 53, 54, 55, 56, 57]
def allB : List Int := (List.range' 48 43).map fun (n : Nat) => (n : Int)
def rep (c : Nat → Int) (p : Nat) (l : List Int) : List (List UInt8) := (l.filter fun x => !(x == c p) && good (upd c p x)).map fun x => tL (upd c p x)
def wth (c : Nat → Int) (p : Nat) (l : List Int) : List (List UInt8) := (l.filter fun x => good (upd c p x)).map fun x => tL (upd c p x)
theorem good_place {c : Nat → Int} (h : good c = true) {i : Nat} (hi : i < 9) : plc i (c i) = true := by
  unfold good at h
  rw [Bool.and_eq_true, Bool.and_eq_true] at h
  unfold plc
  by_cases h8 : i < 8
  · rw [if_pos h8]
    exact decide_eq_true ((digs_iff c 8).1 h.1.1 i h8)
  · obtain rfl : i = 8 := by omega
    rw [if_neg h8]
    exact h.1.2
theorem sy_filter (p : Nat) (hp : p < 9) : sy p = allB.filter (plc p) := by
  have : ∀ p : Fin 9, sy p.val = allB.filter (plc p.val) := by decide +kernel
  exact this ⟨p, hp⟩
/-- the program's list is the reference's without the byte that stands there -/
theorem rep_eq (c : Nat → Int) (p : Nat) (hp : p < 9) : rep c p (sy p) = (allB.filter fun x => good (upd c p x) && !(x == c p)).map fun x => tL (upd c p x) := by
  unfold rep
  rw [sy_filter p hp, List.filter_filter]
  congr 1
  refine List.filter_congr fun x _ => ?_
  cases hg : good (upd c p x)
  · simp
  · have := good_place hg hp
    rw [upd_same] at this
    rw [this]
    simp
theorem rep_wth (c : Nat → Int) (p : Nat) (hp : p < 9) (h : plc p (c p) = false) : rep c p (sy p) = wth c p allB := by
  rw [rep_eq c p hp]
  unfold wth
  congr 1
  refine List.filter_congr fun x _ => ?_
  cases hg : good (upd c p x)
  · simp
  · have := good_place hg hp
    rw [upd_same] at this
    have hne : x ≠ c p := fun e => by rw [e, h] at this; cases this
    simp [hne]
/-- another byte is wrong: nothing -/
theorem rep_none (c : Nat → Int) (p : Nat) {j : Nat} (hj : j < 9) (hjp : j ≠ p) (h : plc j (c j) = false) (l : List Int) : rep c p l = [] := by
  unfold rep
  rw [List.filter_eq_nil_iff.2 fun x _ => ?_]
  · rfl
  · cases hg : good (upd c p x)
    · simp
    · have := good_place hg hj
      rw [upd_other c x hjp, h] at this
      cases this
theorem good_num (N : Nat) : good (numC N) = true := by
  have hd : digs (numC N) 8 = true := (digs_iff _ _).2 fun i hi => num_digit N hi
  have hn : wsum (partC N 0) 8 = wsum (numC N) 8 := wsum_ext 8 fun i hi => by unfold partC numC; rw [if_pos ⟨by omega, hi⟩, if_pos hi]
  have hl : numC N 8 = lsum (numC N) := by unfold lsum; rw [← hn]; unfold numC; rw [if_neg (by omega)]
  unfold good
  rw [hd, hl, Bool.true_and]
  unfold lsum
  rw [isLet_lett (by omega)]
  simp
theorem lsum_inj {c d : Nat → Int} (h : lsum c = lsum d) : wsum c 8 % 23 = wsum d 8 % 23 := by
  unfold lsum at h
  have := lett_inj (by omega) (by omega) h
  omega
/-- two good numbers that differ at one place at most are one -/
theorem good_one {c : Nat → Int} {p : Nat} {x y : Int} (hp : p < 9) (hx : good (upd c p x) = true) (hy : good (upd c p y) = true) : x = y := by
  have px := good_place hx hp
  have py := good_place hy hp
  rw [upd_same] at px py
  unfold good at hx hy
  rw [Bool.and_eq_true] at hx hy
  have ex := eq_of_beq hx.2
  have ey := eq_of_beq hy.2
  by_cases h8 : p < 8
  · rw [upd_other c x (show 8 ≠ p by omega)] at ex
    rw [upd_other c y (show 8 ≠ p by omega)] at ey
    have := lsum_inj (ex.symm.trans ey)
    rw [wsum_upd c x h8, wsum_upd c y h8] at this
    unfold plc at px py
    rw [if_pos h8] at px py
    have qx := of_decide_eq_true px
    have qy := of_decide_eq_true py
    by_cases hne : x = y
    · exact hne
    · exfalso
      have hpm := prod_mod (m := (p : Int) + 1) (d := dg x - dg y) (by omega) (by omega) (by unfold dg; omega) (by unfold dg; omega)
      have e : wsum c 8 + ((p : Int) + 1) * (dg x - dg (c p)) = wsum c 8 + ((p : Int) + 1) * (dg y - dg (c p)) + ((p : Int) + 1) * (dg x - dg y) := by grind
      rw [e] at this
      omega
  · obtain rfl : p = 8 := by omega
    rw [upd_same] at ex ey
    rw [ex, ey]
    unfold lsum
    rw [wsum_ext (c := upd c 8 x) (d := upd c 8 y) 8 fun i hi => by rw [upd_other _ _ (by omega), upd_other _ _ (by omega)]]
theorem upd_back (c : Nat → Int) (p : Nat) (x : Int) : upd (upd c p x) p (c p) = c := by
  funext j
  unfold upd
  by_cases h : j = p
  · subst h; rw [if_pos rfl]
  · rw [if_neg h, if_neg h]
theorem upd_self (c : Nat → Int) (p : Nat) : upd c p (c p) = c := by
  funext j
  unfold upd
  by_cases e : j = p
  · rw [if_pos e, e]
  · rw [if_neg e]
theorem upd_upd (c : Nat → Int) (p : Nat) (x y : Int) : upd (upd c p x) p y = upd c p y := by
  funext j
  unfold upd
  by_cases h : j = p
  · rw [if_pos h, if_pos h]
  · rw [if_neg h, if_neg h, if_neg h]
theorem sy_nodup (p : Nat) : (sy p).Nodup := by
  unfold sy
  split <;> decide
theorem filter_one {α : Type} [DecidableEq α] {l : List α} (hn : l.Nodup) {a : α} (ha : a ∈ l) {q : α → Bool} (hq : ∀ x, x ∈ l → (q x = true ↔ x = a)) : l.filter q = [a] := by
  induction l with
  | nil => cases ha
  | cons b l ih =>
    rw [List.nodup_cons] at hn
    by_cases e : b = a
    · subst e
      rw [List.filter_cons_of_pos ((hq b (by simp)).2 rfl), List.filter_eq_nil_iff.2 fun x hx h => ?_]
      have := (hq x (by simp [hx])).1 h
      subst this
      exact hn.1 hx
    · have hm : a ∈ l := by rcases List.mem_cons.1 ha with h | h; · exact absurd h.symm e
                            · exact h
      rw [List.filter_cons_of_neg (fun h => e ((hq b (by simp)).1 h)), ih hn.2 hm fun x hx => hq x (by simp [hx])]
theorem sy_mem {p : Nat} (hp : p < 9) {x : Int} (h : plc p x = true) (hx : 48 ≤ x ∧ x ≤ 90) : x ∈ sy p := by
  rw [sy_filter p hp, List.mem_filter]
  refine ⟨?_, h⟩
  unfold allB
  rw [List.mem_map]
  exact ⟨x.toNat, by rw [List.mem_range'_1]; omega, by omega⟩
theorem plc_bd {p : Nat} (hp : p < 9) {x : Int} (hx : 0 ≤ x ∧ x < 256) (h : plc p x = true) : 48 ≤ x ∧ x ≤ 90 := by
  unfold plc at h
  by_cases h8 : p < 8
  · rw [if_pos h8] at h
    have := of_decide_eq_true h
    omega
  · rw [if_neg h8] at h
    have : ∀ y : Fin 256, isLet (y.val : Int) = true → 48 ≤ (y.val : Int) ∧ (y.val : Int) ≤ 90 := by decide +kernel
    obtain ⟨n, rfl⟩ := Int.eq_ofNat_of_zero_le hx.1
    exact this ⟨n, by omega⟩ h
/-- a number with a missing byte is filled by that byte alone -/
theorem rep_fill (N : Nat) {p : Nat} (hp : p < 9) {x : Int} (hx : plc p x = false) : rep (upd (numC N) p x) p (sy p) = [tL (numC N)] := by
  have hg := good_num N
  have hpl := good_place hg hp
  have hb := plc_bd hp (numC_bd N p) hpl
  unfold rep
  rw [filter_one (sy_nodup p) (sy_mem hp hpl hb) (a := numC N p) fun y hy => ?_]
  · show [tL (upd (upd (numC N) p x) p (numC N p))] = _
    rw [upd_back]
  · rw [upd_same, upd_upd]
    constructor
    · intro h
      rw [Bool.and_eq_true] at h
      exact good_one hp h.2 (by rw [upd_self]; exact hg)
    · rintro rfl
      rw [upd_self, hg]
      have : ¬ numC N p = x := fun e => by rw [← e, hpl] at hx; cases hx
      simp [this]
end Go.Proofs.Ytlionhmmefghmaa
