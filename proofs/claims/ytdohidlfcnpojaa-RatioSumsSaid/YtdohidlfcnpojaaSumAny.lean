/-
  Sum at any list; its answer does not depend on the order of the list.
-/
import Derived.Test.YtdohidlfcnpojaaSum
namespace Go.Proofs.Ytdohidlfcnpojaa
open Go.RowKit
set_option linter.unusedSimpArgs false
set_option linter.unusedVariables false

def allV (L : Nat → Fr) (n : Nat) : Bool := (List.range n).all fun i => Frac.valid (L i).1 (L i).2
theorem allV_iff (L : Nat → Fr) (n : Nat) : allV L n = true ↔ ∀ i, i < n → Frac.valid (L i).1 (L i).2 = true := by unfold allV; simp
theorem lcmF_dvd_iff (L : Nat → Fr) (n m : Nat) : lcmF L n ∣ m ↔ ∀ i, i < n → (L i).2.natAbs ∣ m := by
  induction n with
  | zero => exact ⟨fun _ i hi => by omega, fun _ => Nat.one_dvd m⟩
  | succ n ih =>
    show Nat.lcm (lcmF L n) (L n).2.natAbs ∣ m ↔ _
    constructor
    · intro h i hi
      rcases Nat.lt_or_ge i n with g | g
      · exact ih.1 (Nat.dvd_trans (Nat.dvd_lcm_left _ _) h) i g
      · obtain rfl : i = n := by omega
        exact Nat.dvd_trans (Nat.dvd_lcm_right _ _) h
    · intro h
      exact Nat.lcm_dvd (ih.2 fun i hi => h i (by omega)) (h n (by omega))
def sumI : List Int → Int
  | [] => 0
  | a :: l => a + sumI l
theorem sumI_append (l k : List Int) : sumI (l ++ k) = sumI l + sumI k := by
  induction l with
  | nil => simp [sumI]
  | cons a l ih => show a + sumI (l ++ k) = (a + sumI l) + sumI k; rw [ih]; omega
theorem sumI_perm {l k : List Int} (h : l.Perm k) : sumI l = sumI k := by
  induction h with
  | nil => rfl
  | cons a _ ih => show a + sumI _ = a + sumI _; rw [ih]
  | swap a b l => show b + (a + sumI l) = a + (b + sumI l); omega
  | trans _ _ i j => exact i.trans j
theorem sumF_list (L : Nat → Fr) (D : Int) (n : Nat) : sumF L D n = sumI ((List.range n).map fun i => (L i).1 * (D / (L i).2)) := by
  induction n with
  | zero => rfl
  | succ n ih =>
    rw [List.range_succ, List.map_append, sumI_append, ← ih]
    show _ = _ + (_ + 0)
    rw [Int.add_zero]
    rfl
theorem perm_of_nodup : ∀ (l₁ l₂ : List Nat), l₁.Nodup → (∀ x, x ∈ l₁ → x ∈ l₂) → l₂.length = l₁.length → l₂.Perm l₁
  | [], l₂, _, _, h => by
    have : l₂ = [] := List.length_eq_zero_iff.1 (by simpa using h)
    rw [this]
  | a :: t, l₂, hn, hs, h => by
    have ha : a ∈ l₂ := hs a (by simp)
    have hn' := List.nodup_cons.1 hn
    have p := List.perm_cons_erase ha
    have ih := perm_of_nodup t (l₂.erase a) hn'.2 (fun x hx => (List.mem_erase_of_ne (fun e => by subst e; exact hn'.1 hx)).2 (hs x (by simp [hx]))) (by rw [List.length_erase_of_mem ha, h]; simp)
    exact p.trans (ih.cons a)
theorem perm_range {m : Nat} {ord : List Nat} (hl : ord.length = m) (hm : ∀ x, x ∈ ord ↔ x < m) : ord.Perm (List.range m) :=
  perm_of_nodup _ _ List.nodup_range (fun x hx => (hm x).2 (List.mem_range.1 hx)) (by simpa using hl)
theorem map_getD (ord : List Nat) : (List.range ord.length).map (fun i => ord.getD i 0) = ord := by
  apply List.ext_getElem
  · simp
  · intro i h1 h2
    simp [List.getD_eq_getElem?_getD, List.getElem?_eq_getElem h2]
section
variable {L : Nat → Fr} {m : Nat} {ord : List Nat} (hl : ord.length = m) (hm : ∀ x, x ∈ ord ↔ x < m)
include hl hm
theorem at_mem {i : Nat} (hi : i < m) : ord.getD i 0 < m := by
  refine (hm _).1 ?_
  rw [List.getD_eq_getElem?_getD, List.getElem?_eq_getElem (by omega)]
  exact List.getElem_mem _
theorem at_ex {x : Nat} (hx : x < m) : ∃ i, i < m ∧ ord.getD i 0 = x := by
  obtain ⟨i, hi, e⟩ := List.getElem_of_mem ((hm x).2 hx)
  exact ⟨i, by omega, by rw [List.getD_eq_getElem?_getD, List.getElem?_eq_getElem hi]; exact e⟩
theorem allV_perm : allV (fun i => L (ord.getD i 0)) m = allV L m := by
  rw [Bool.eq_iff_iff, allV_iff, allV_iff]
  constructor
  · intro h x hx
    obtain ⟨i, hi, rfl⟩ := at_ex hl hm hx
    exact h i hi
  · intro h i hi
    exact h _ (at_mem hl hm hi)
theorem lcmF_perm : lcmF (fun i => L (ord.getD i 0)) m = lcmF L m := by
  apply Nat.dvd_antisymm
  · rw [lcmF_dvd_iff]
    intro i hi
    exact den_dvd L (at_mem hl hm hi)
  · rw [lcmF_dvd_iff]
    intro x hx
    obtain ⟨i, hi, rfl⟩ := at_ex hl hm hx
    exact den_dvd (fun i => L (ord.getD i 0)) hi
theorem sumF_perm (D : Int) : sumF (fun i => L (ord.getD i 0)) D m = sumF L D m := by
  rw [sumF_list, sumF_list]
  have e : ((List.range m).map fun i => (L (ord.getD i 0)).1 * (D / (L (ord.getD i 0)).2)) = ord.map (fun x => (L x).1 * (D / (L x).2)) := by
    conv => rhs; rw [← map_getD ord, hl]
    rw [List.map_map]
    rfl
  rw [e]
  exact sumI_perm ((perm_range hl hm).map _)
end
theorem F_congr {L M : Nat → Fr} {n : Nat} (h : ∀ i, i < n → L i = M i) (D : Int) : lcmF L n = lcmF M n ∧ sumF L D n = sumF M D n := by
  induction n with
  | zero => exact ⟨rfl, rfl⟩
  | succ n ih =>
    obtain ⟨a, b⟩ := ih fun i hi => h i (by omega)
    refine ⟨?_, ?_⟩
    · show Nat.lcm (lcmF L n) _ = Nat.lcm (lcmF M n) _
      rw [a, h n (by omega)]
    · show sumF L D n + _ = sumF M D n + _
      rw [b, h n (by omega)]
theorem allV_congr {L M : Nat → Fr} {n : Nat} (h : ∀ i, i < n → L i = M i) : allV L n = allV M n := by
  rw [Bool.eq_iff_iff, allV_iff, allV_iff]
  exact ⟨fun g i hi => by rw [← h i hi]; exact g i hi, fun g i hi => by rw [h i hi]; exact g i hi⟩

def smN (L : Nat → Fr) (n : Nat) : Int := resN (allV L n) (sRN L n)
def smD (L : Nat → Fr) (n : Nat) : Int := resN (allV L n) (sRD L n)
def smE (L : Nat → Fr) (n : Nat) : Int := resE (allV L n) (sRE L n)
theorem sm_congr {L M : Nat → Fr} {n : Nat} (h : ∀ i, i < n → L i = M i) : smN L n = smN M n ∧ smD L n = smD M n ∧ smE L n = smE M n := by
  have a := allV_congr h
  have b := (F_congr h 0).1
  unfold smN smD smE sRN sRD sRE sumN sumD sumE
  rw [a, b, (F_congr h (lcmF M n)).2]
  exact ⟨rfl, rfl, rfl⟩
theorem sm_perm {L : Nat → Fr} {m : Nat} {ord : List Nat} (hl : ord.length = m) (hm : ∀ x, x ∈ ord ↔ x < m) : smN (fun i => L (ord.getD i 0)) m = smN L m ∧ smD (fun i => L (ord.getD i 0)) m = smD L m ∧ smE (fun i => L (ord.getD i 0)) m = smE L m := by
  have a := allV_perm (L := L) hl hm
  have b := lcmF_perm (L := L) hl hm
  unfold smN smD smE sRN sRD sRE sumN sumD sumE
  rw [a, b, sumF_perm (L := L) hl hm]
  exact ⟨rfl, rfl, rfl⟩
theorem allV_no {L : Nat → Fr} {n : Nat} (h : allV L n = false) : ∃ i, i < n ∧ Frac.valid (L i).1 (L i).2 = false ∧ ∀ j, j < i → Frac.valid (L j).1 (L j).2 = true := by
  induction n with
  | zero => unfold allV at h; simp at h
  | succ n ih =>
    by_cases g : allV L n = true
    · refine ⟨n, by omega, ?_, (allV_iff L n).1 g⟩
      cases e : Frac.valid (L n).1 (L n).2
      · rfl
      · have : allV L (n + 1) = true := (allV_iff L (n + 1)).2 fun i hi => by
          rcases Nat.lt_or_ge i n with k | k
          · exact (allV_iff L n).1 g i k
          · obtain rfl : i = n := by omega
            exact e
        rw [this] at h; cases h
    · obtain ⟨i, hi, h1, h2⟩ := ih (by simpa using g)
      exact ⟨i, by omega, h1, h2⟩
set_option maxRecDepth 100000 in
set_option maxHeartbeats 8000000 in
theorem sum_no (o : Option Addr) (n c : Nat) (L : Nat → Fr) (w : World) (hr : RowR w w.heap.size o n L) (hn : n ≤ 100) (hi : ∀ i, i < n → -9223372036854775808 ≤ (L i).1 ∧ (L i).1 < 9223372036854775808 ∧ -9223372036854775808 ≤ (L i).2 ∧ (L i).2 < 9223372036854775808) (hv : allV L n = false) :
    Calls Try.prog 23 #[.slice o n c] w fun e w' => e = .returned (.tuple #[.agg #[.int .i64 0, .int .i64 0], .int .i64 1]) ∧ Below w.heap.size w w' := by
  obtain ⟨m, hmn, hbad, hgood⟩ := allV_no hv
  have HR := Lib.hid hr
  have HI := Lib.hid hi
  have HBAD := Lib.hid hbad
  have HGOOD := Lib.hid hgood
  have hn' : ¬ (100 : Int) < (n : Int) := by omega
  clear hr hi hv hbad hgood
  go_enter Try.func23, Try.ntmps23
  go_wp2
  have B0 : Blk (w.alloc (.cells #[.int .i64 0, .int .i64 0] 26)) w.heap.size 26 #[.int .i64 0, .int .i64 0] := Blk.newAt rfl
  have hb0 := bAl (Below.refl w.heap.size w) (.cells #[.int .i64 0, .int .i64 0] 26)
  go_loopw [17] (fun i wr => ∃ k : Nat, i = .int .i64 k ∧ k ≤ m ∧ Hid (Blk wr w.heap.size 26 #[.int .i64 0, .int .i64 0] ∧ Below w.heap.size w wr)) (fun i _ => n - (intOf i).toNat)
  case atStart => exact ⟨0, rfl, Nat.zero_le _, B0, hb0⟩
  case round =>
    clear B0 hb0
    obtain ⟨k, rfl, hk, HB⟩ := hrel
    have hkn : k < n := by omega
    have hkn' : (k : Int) < (n : Int) := by omega
    obtain ⟨b, off, rfl, hbB, g0, g1⟩ := HR.out k hkn
    have c0 := (HB.out.2.cell (p := ⟨b, off + k * 2, none⟩) hbB).trans g0
    have c1 := (HB.out.2.cell (p := ⟨b, off + k * 2 + 1, none⟩) hbB).trans g1
    obtain ⟨e0, e1, e2, e3⟩ := HI.out k hkn
    by_cases hkm : k < m
    · have HVK := Lib.hid (HGOOD.out k hkm)
      clear g0 g1
      generalize (L k).1 = p at c0 e0 e1 HVK
      generalize (L k).2 = d at c1 e2 e3 HVK
      go_wp2_with fail
      refine (valid_any _ _ e0 e1 e2 e3 _).mono ?_
      rintro e w1 ⟨rfl, hb1⟩
      rw [HVK.out]
      have HB1 := Lib.hid (And.intro ((HB.out.1.alloc _).later hb1) (bTr (bAl HB.out.2 _) hb1))
      clear hb1 HB c0 c1 e0 e1 e2 e3
      go_wp2
      go_roundw
      case rel => exact ⟨k + 1, by go_num, by omega, HB1.out⟩
      case measure => simp [intOf]; omega
    · obtain rfl : m = k := by omega
      have HVK := HBAD
      clear g0 g1 HBAD
      generalize (L m).1 = p at c0 e0 e1 HVK
      generalize (L m).2 = d at c1 e2 e3 HVK
      go_wp2_with fail
      refine (valid_any _ _ e0 e1 e2 e3 _).mono ?_
      rintro e w1 ⟨rfl, hb1⟩
      rw [HVK.out]
      have HB1 := Lib.hid (And.intro ((HB.out.1.alloc _).later hb1) (bTr (bAl HB.out.2 _) hb1))
      clear hb1 HB c0 c1 e0 e1 e2 e3
      obtain ⟨⟨r0, r1⟩, ⟨q0, q1⟩, hzr⟩ := HB1.out.1.two
      go_wp2
      refine bodyPost_ret (v := .tuple #[.agg #[.int .i64 0, .int .i64 0], .int .i64 1]) (by simp [results, Try.results23, go_sem, r0, r1, hzr]) rfl ⟨rfl, ?_⟩
      exact bSt (bSt HB1.out.2 (by simp) _) (by simp) _
theorem sum_any (o : Option Addr) (n c : Nat) (L : Nat → Fr) (w : World) (hr : RowR w w.heap.size o n L) (hn : n ≤ 100) (hi : ∀ i, i < n → -9223372036854775808 ≤ (L i).1 ∧ (L i).1 < 9223372036854775808 ∧ -9223372036854775808 ≤ (L i).2 ∧ (L i).2 < 9223372036854775808) :
    Calls Try.prog 23 #[.slice o n c] w fun e w' => e = .returned (.tuple #[.agg #[.int .i64 (smN L n), .int .i64 (smD L n)], .int .i64 (smE L n)]) ∧ Below w.heap.size w w' := by
  cases h : allV L n
  · refine (sum_no o n c L w hr hn hi h).mono ?_
    rintro e w' ⟨rfl, hb⟩
    exact ⟨ret3 (res_no h _ _ _), hb⟩
  · refine (sum_yes o n c L w hr hn ((allV_iff L n).1 h)).mono ?_
    rintro e w' ⟨rfl, hb⟩
    exact ⟨ret3 (res_yes h _ _ _), hb⟩
end Go.Proofs.Ytdohidlfcnpojaa
