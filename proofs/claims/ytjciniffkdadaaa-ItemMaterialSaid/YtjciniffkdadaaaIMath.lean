/-
  Parts, items and papers in plain numbers.
-/
namespace Go.Proofs.Ytjciniffkdadaaa
set_option linter.unusedSimpArgs false
set_option linter.unusedVariables false

def byteAt (s : ByteArray) (i : Nat) : Int := ((s.data.toList.getD i 0).toNat : Int)
theorem byteAt_bd (s : ByteArray) (i : Nat) : 0 ≤ byteAt s i ∧ byteAt s i < 256 := by
  unfold byteAt
  have := (s.data.toList.getD i 0).toNat_lt
  omega
theorem byteAt_at (s : ByteArray) (k : Nat) (h : k < s.size) : ((s[k]).toNat : Int) = byteAt s k := by
  unfold byteAt
  have h' : k < s.data.toList.length := by simpa using h
  rw [List.getD_eq_getElem?_getD, List.getElem?_eq_getElem h']
  rfl
/-- the first k bytes can be printed -/
def prB (s : ByteArray) : Nat → Bool
  | 0 => true
  | k + 1 => prB s k && decide (32 ≤ byteAt s k ∧ byteAt s k ≤ 126)
theorem prB_no {s : ByteArray} {k : Nat} (h : ¬ (32 ≤ byteAt s k ∧ byteAt s k ≤ 126)) : ∀ {n : Nat}, k < n → prB s n = false
  | 0, hk => absurd hk (Nat.not_lt_zero _)
  | n + 1, hk => by
    show (prB s n && _) = false
    rcases Nat.lt_succ_iff_lt_or_eq.1 hk with h1 | h1
    · rw [prB_no h h1]; rfl
    · subst h1; rw [decide_eq_false h, Bool.and_false]
theorem prB_all {s : ByteArray} : ∀ {n : Nat}, (∀ k, k < n → 32 ≤ byteAt s k ∧ byteAt s k ≤ 126) → prB s n = true
  | 0, _ => rfl
  | n + 1, h => by
    show (prB s n && decide _) = true
    rw [prB_all fun k hk => h k (by omega), decide_eq_true (h n (by omega))]
    rfl
def stemB (s : ByteArray) : Bool := decide (s.size ≠ 0) && prB s s.size

structure Pt where
  kd : Int
  mx : Int
  tp : Int
  ob : Int
  op : Int
  ky : Int
theorem Pt.ext' {a b : Pt} (h0 : a.kd = b.kd) (h1 : a.mx = b.mx) (h2 : a.tp = b.tp) (h3 : a.ob = b.ob) (h4 : a.op = b.op) (h5 : a.ky = b.ky) : a = b := by
  obtain ⟨a0, a1, a2, a3, a4, a5⟩ := a
  obtain ⟨b0, b1, b2, b3, b4, b5⟩ := b
  dsimp only at h0 h1 h2 h3 h4 h5
  subst h0; subst h1; subst h2; subst h3; subst h4; subst h5; rfl
instance : DecidableEq Pt := fun a b => decidable_of_iff (a.kd = b.kd ∧ a.mx = b.mx ∧ a.tp = b.tp ∧ a.ob = b.ob ∧ a.op = b.op ∧ a.ky = b.ky) ⟨fun ⟨h0, h1, h2, h3, h4, h5⟩ => Pt.ext' h0 h1 h2 h3 h4 h5, fun h => by subst h; exact ⟨rfl, rfl, rfl, rfl, rfl, rfl⟩⟩
def Pt.z : Pt := ⟨0, 0, 0, 0, 0, 0⟩
/-- the part's own form -/
def Pt.fit (p : Pt) : Prop := (p.kd = 1 ∧ p.op = 0 ∧ p.ky = 0) ∨ (p.kd = 2 ∧ 2 ≤ p.op ∧ p.op ≤ 5 ∧ 0 ≤ p.ky ∧ p.ky < p.op)
instance (p : Pt) : Decidable p.fit := by unfold Pt.fit; infer_instance
def Pt.ok (p : Pt) : Prop := (1 ≤ p.mx ∧ p.mx ≤ 40 ∧ 0 ≤ p.tp ∧ p.tp ≤ 15 ∧ 0 ≤ p.ob ∧ p.ob ≤ 5) ∧ p.fit
instance (p : Pt) : Decidable p.ok := by unfold Pt.ok; infer_instance
def Pt.okB (p : Pt) : Bool := decide p.ok
theorem Pt.okB_max {p : Pt} (h : p.okB = true) : 1 ≤ p.mx ∧ p.mx ≤ 40 := by
  have := (of_decide_eq_true h).1
  omega
/-- the first k parts are valid -/
def allOk (P : Nat → Pt) : Nat → Bool
  | 0 => true
  | k + 1 => allOk P k && (P k).okB
theorem allOk_no {P : Nat → Pt} {k : Nat} (h : (P k).okB = false) : ∀ {n : Nat}, k < n → allOk P n = false
  | 0, hk => absurd hk (Nat.not_lt_zero _)
  | n + 1, hk => by
    show (allOk P n && _) = false
    rcases Nat.lt_succ_iff_lt_or_eq.1 hk with h1 | h1
    · rw [allOk_no h h1]; rfl
    · subst h1; rw [h, Bool.and_false]
theorem allOk_go {P : Nat → Pt} {k : Nat} (h : allOk P k = true) (hk : (P k).okB = true) : allOk P (k + 1) = true := by
  show (allOk P k && (P k).okB) = true
  rw [h, hk]; rfl
theorem allOk_at {P : Nat → Pt} : ∀ {n : Nat}, allOk P n = true → ∀ k, k < n → (P k).okB = true
  | 0, _, k, hk => absurd hk (Nat.not_lt_zero _)
  | n + 1, h, k, hk => by
    have h' : (allOk P n && (P n).okB) = true := h
    rw [Bool.and_eq_true] at h'
    rcases Nat.lt_succ_iff_lt_or_eq.1 hk with h1 | h1
    · exact allOk_at h'.1 k h1
    · subst h1; exact h'.2
theorem allOk_all {P : Nat → Pt} : ∀ {n : Nat}, (∀ k, k < n → (P k).okB = true) → allOk P n = true
  | 0, _ => rfl
  | n + 1, h => allOk_go (allOk_all fun k hk => h k (by omega)) (h n (by omega))
theorem allOk_less {P : Nat → Pt} {k n : Nat} (h : allOk P n = true) (hk : k ≤ n) : allOk P k = true := allOk_all fun i hi => allOk_at h i (by omega)
/-- the marks of the first k parts -/
def sumM (P : Nat → Pt) : Nat → Int
  | 0 => 0
  | k + 1 => sumM P k + (P k).mx
theorem sumM_bd {P : Nat → Pt} : ∀ {n : Nat}, allOk P n = true → (n : Int) ≤ sumM P n ∧ sumM P n ≤ 40 * n
  | 0, _ => by unfold sumM; omega
  | n + 1, h => by
    have ih := sumM_bd (n := n) (allOk_less h (by omega))
    have hx := Pt.okB_max (allOk_at h n (by omega))
    have e : sumM P (n + 1) = sumM P n + (P n).mx := rfl
    omega
theorem sumM_bd2 {P : Nat → Pt} {k n : Nat} (h : allOk P n = true) (hk : k ≤ n) (hn : n ≤ 100) : 0 ≤ sumM P k ∧ sumM P k ≤ 4000 := by
  have := sumM_bd (allOk_less h hk)
  omega
theorem sumM_step {P : Nat → Pt} (k : Nat) : sumM P (k + 1) = sumM P k + (P k).mx := rfl

/-- the enemy before enemy k, -1 before the first -/
def prv (E : Nat → Int) (k : Nat) : Int := if k = 0 then -1 else E (k - 1)
def badE (E : Nat → Int) (id : Int) (k : Nat) : Prop := E k ≤ prv E k ∨ 9999 < E k ∨ E k = id
instance (E : Nat → Int) (id : Int) (k : Nat) : Decidable (badE E id k) := by unfold badE; infer_instance
def canE (E : Nat → Int) (id : Int) : Nat → Bool
  | 0 => true
  | k + 1 => canE E id k && !decide (badE E id k)
theorem canE_no {E : Nat → Int} {id : Int} {k : Nat} (h : badE E id k) : ∀ {n : Nat}, k < n → canE E id n = false
  | 0, hk => absurd hk (Nat.not_lt_zero _)
  | n + 1, hk => by
    show (canE E id n && _) = false
    rcases Nat.lt_succ_iff_lt_or_eq.1 hk with h1 | h1
    · rw [canE_no h h1]; rfl
    · subst h1; rw [decide_eq_true h]; exact Bool.and_false _
theorem canE_go {E : Nat → Int} {id : Int} {k : Nat} (h : canE E id k = true) (hk : ¬ badE E id k) : canE E id (k + 1) = true := by
  show (canE E id k && !decide (badE E id k)) = true
  rw [h, decide_eq_false hk]; rfl
theorem canE_at {E : Nat → Int} {id : Int} : ∀ {n : Nat}, canE E id n = true → ∀ k, k < n → ¬ badE E id k
  | 0, _, k, hk => absurd hk (Nat.not_lt_zero _)
  | n + 1, h, k, hk => by
    have h' : (canE E id n && !decide (badE E id n)) = true := h
    rw [Bool.and_eq_true] at h'
    rcases Nat.lt_succ_iff_lt_or_eq.1 hk with h1 | h1
    · exact canE_at h'.1 k h1
    · subst h1
      intro hb
      have := h'.2
      rw [decide_eq_true hb] at this
      cases this
theorem prv_succ (E : Nat → Int) (k : Nat) : prv E (k + 1) = E k := by unfold prv; rw [if_neg (by omega)]; rfl
theorem prv_zero (E : Nat → Int) : prv E 0 = -1 := rfl
theorem canE_prv {E : Nat → Int} {id : Int} : ∀ {k : Nat}, canE E id k = true → -1 ≤ prv E k
  | 0, _ => by rw [prv_zero]; omega
  | k + 1, h => by
    have h1 := canE_at h k (by omega)
    have h' : (canE E id k && !decide (badE E id k)) = true := h
    rw [Bool.and_eq_true] at h'
    have ih := canE_prv h'.1
    rw [prv_succ]
    unfold badE at h1
    omega
/-- the reference's words for a bad enemy -/
theorem badE_ref {E : Nat → Int} {id : Int} {k : Nat} (h : canE E id k = true) : badE E id k ↔ (E k < 0 ∨ 9999 < E k ∨ E k = id ∨ (0 < k ∧ E k ≤ E (k - 1))) := by
  have hp := canE_prv h
  unfold badE
  rcases Nat.eq_zero_or_pos k with rfl | h0
  · rw [prv_zero]; omega
  · have e : prv E k = E (k - 1) := by unfold prv; rw [if_neg (by omega)]
    rw [e] at hp ⊢
    omega

structure Itm where
  id : Int
  ver : Int
  st : ByteArray
  nP : Nat
  P : Nat → Pt
  nE : Nat
  E : Nat → Int
def Itm.rng (x : Itm) : Prop := 0 ≤ x.id ∧ x.id ≤ 9999 ∧ 1 ≤ x.ver ∧ x.ver ≤ 8
instance (x : Itm) : Decidable x.rng := by unfold Itm.rng; infer_instance
def Itm.lim (x : Itm) : Prop := x.st.size ≤ 40 ∧ x.nP ≤ 6 ∧ x.nE ≤ 8
instance (x : Itm) : Decidable x.lim := by unfold Itm.lim; infer_instance
def Itm.chk (x : Itm) : Int :=
  if ¬ x.rng then 2 else if ¬ x.lim then 3 else if stemB x.st = false then 7 else if x.nP = 0 then 10 else if allOk x.P x.nP = false then 1 else if canE x.E x.id x.nE = false then 9 else 0
def Itm.tot (x : Itm) : Int := if x.chk = 0 then sumM x.P x.nP else 0
theorem Itm.ok {x : Itm} (h : x.chk = 0) : x.rng ∧ x.lim ∧ stemB x.st = true ∧ x.nP ≠ 0 ∧ allOk x.P x.nP = true ∧ canE x.E x.id x.nE = true := by
  unfold Itm.chk at h
  by_cases h1 : x.rng
  · rw [if_neg (fun hc => hc h1)] at h
    by_cases h2 : x.lim
    · rw [if_neg (fun hc => hc h2)] at h
      cases h3 : stemB x.st
      · rw [if_pos h3] at h; exact absurd h (by decide)
      · rw [if_neg (by rw [h3]; decide)] at h
        by_cases h4 : x.nP = 0
        · rw [if_pos h4] at h; exact absurd h (by decide)
        · rw [if_neg h4] at h
          cases h5 : allOk x.P x.nP
          · rw [if_pos h5] at h; exact absurd h (by decide)
          · rw [if_neg (by rw [h5]; decide)] at h
            cases h6 : canE x.E x.id x.nE
            · rw [if_pos h6] at h; exact absurd h (by decide)
            · exact ⟨h1, h2, rfl, h4, rfl, rfl⟩
    · rw [if_pos h2] at h; exact absurd h (by decide)
  · rw [if_pos h1] at h; exact absurd h (by decide)
theorem Itm.good {x : Itm} (h1 : x.rng) (h2 : x.lim) (h3 : stemB x.st = true) (h4 : x.nP ≠ 0) (h5 : allOk x.P x.nP = true) (h6 : canE x.E x.id x.nE = true) : x.chk = 0 := by
  unfold Itm.chk
  rw [if_neg (fun hc => hc h1), if_neg (fun hc => hc h2), if_neg (by rw [h3]; decide), if_neg h4, if_neg (by rw [h5]; decide), if_neg (by rw [h6]; decide)]

structure Ppr where
  code : Int
  var : Int
  nP : Nat
  P : Nat → Pt
def Ppr.ok (x : Ppr) : Prop := 0 ≤ x.code ∧ x.code ≤ 31 ∧ 0 ≤ x.var ∧ x.var ≤ 3 ∧ 1 ≤ x.nP ∧ x.nP ≤ 24
instance (x : Ppr) : Decidable x.ok := by unfold Ppr.ok; infer_instance
def Ppr.okB (x : Ppr) : Bool := decide x.ok && allOk x.P x.nP && decide (sumM x.P x.nP ≤ 200)
def Ppr.tot (x : Ppr) : Int := if x.okB = true then sumM x.P x.nP else 0
def chB (P : Nat → Pt) (k : Nat) : Bool := decide ((P k).kd = 2)
def Ppr.chs (x : Ppr) : List Nat := if x.okB = true then (List.range x.nP).filter (chB x.P) else []
theorem Ppr.of_ok {x : Ppr} (h : x.okB = true) : x.ok ∧ allOk x.P x.nP = true ∧ sumM x.P x.nP ≤ 200 := by
  unfold Ppr.okB at h
  rw [Bool.and_eq_true, Bool.and_eq_true] at h
  exact ⟨of_decide_eq_true h.1.1, h.1.2, of_decide_eq_true h.2⟩

/-- do the parts with index i differ, or has only one list such a part? -/
def difB (n m : Nat) (P Q : Nat → Pt) (i : Nat) : Bool := !(decide (i < n) && decide (i < m) && decide (P i = Q i))
end Go.Proofs.Ytjciniffkdadaaa
