/-
  Material, of the program and of the reference.
-/
import Derived.Test.YtjciniffkdadaaaICheck
import Derived.Test.YtjciniffkdadaaaQuietTail
namespace Go.Proofs.Ytjciniffkdadaaa
open Go.RowKit
set_option linter.unusedSimpArgs false
set_option linter.unusedVariables false

set_option maxHeartbeats 2000000 in
theorem same_any (i : Nat) (o o2 : Option Addr) (n c n2 c2 : Nat) (P Q : Nat → Pt) (w : World) (hP : RowP w w.heap.size o n P) (hQ : RowP w w.heap.size o2 n2 Q) :
    Calls Try.prog 47 #[.int .i64 i, .slice o n c, .slice o2 n2 c2] w fun e w' => e = .returned (.bool (!difB n n2 P Q i)) ∧ Below w.heap.size w w' := by
  have HD := Lib.hid (show (!difB n n2 P Q i) = (decide (i < n) && decide (i < n2) && decide (P i = Q i)) by unfold difB; rw [Bool.not_not])
  rw [HD.out]
  clear HD
  by_cases h1 : i < n
  · by_cases h2 : i < n2
    · obtain ⟨b, off, rfl, hbB, h10, h11, h12, h13, h14, h15⟩ := hP i h1
      obtain ⟨b2, off2, rfl, hbB2, h20, h21, h22, h23, h24, h25⟩ := hQ i h2
      have hh : (decide (i < n) && decide (i < n2) && decide (P i = Q i)) = decide (P i = Q i) := by rw [decide_eq_true h1, decide_eq_true h2]; rfl
      rw [hh]
      have h1' : (i : Int) < (n : Int) := by omega
      have h2' : (i : Int) < (n2 : Int) := by omega
      have h0 : (0 : Int) ≤ (i : Int) := by omega
      clear hh hP hQ
      generalize P i = p at h10 h11 h12 h13 h14 h15 ⊢
      generalize Q i = q at h20 h21 h22 h23 h24 h25 ⊢
      obtain ⟨a0, a1, a2, a3, a4, a5⟩ := p
      obtain ⟨d0, d1, d2, d3, d4, d5⟩ := q
      dsimp only at h10 h11 h12 h13 h14 h15 h20 h21 h22 h23 h24 h25
      have HN := Lib.hid (fun hne => (decide_eq_false (p := ((⟨a0, a1, a2, a3, a4, a5⟩ : Pt) = ⟨d0, d1, d2, d3, d4, d5⟩)) hne))
      by_cases e0 : a0 = d0
      · subst e0
        by_cases e1 : a1 = d1
        · subst e1
          by_cases e2 : a2 = d2
          · subst e2
            by_cases e3 : a3 = d3
            · subst e3
              by_cases e4 : a4 = d4
              · subst e4
                by_cases e5 : a5 = d5
                · subst e5
                  rw [decide_eq_true rfl]
                  clear HN
                  go_enter Try.func47, Try.ntmps47
                  go_wp2_with fail
                  go_quiet (fail)
                  go_wp2_with fail
                  go_ret
                  exact ⟨rfl, bDr (Below.refl _ _) _⟩
                · rw [HN.out (fun h => e5 (congrArg Pt.ky h))]
                  clear HN
                  go_enter Try.func47, Try.ntmps47
                  go_wp2_with fail
                  go_quiet (fail)
                  go_wp2_with fail
                  go_ret
                  exact ⟨rfl, bDr (Below.refl _ _) _⟩
              · rw [HN.out (fun h => e4 (congrArg Pt.op h))]
                clear HN
                go_enter Try.func47, Try.ntmps47
                go_wp2_with fail
                go_quiet (fail)
                go_wp2_with fail
                go_ret
                exact ⟨rfl, bDr (Below.refl _ _) _⟩
            · rw [HN.out (fun h => e3 (congrArg Pt.ob h))]
              clear HN
              go_enter Try.func47, Try.ntmps47
              go_wp2_with fail
              go_quiet (fail)
              go_wp2_with fail
              go_ret
              exact ⟨rfl, bDr (Below.refl _ _) _⟩
          · rw [HN.out (fun h => e2 (congrArg Pt.tp h))]
            clear HN
            go_enter Try.func47, Try.ntmps47
            go_wp2_with fail
            go_quiet (fail)
            go_wp2_with fail
            go_ret
            exact ⟨rfl, bDr (Below.refl _ _) _⟩
        · rw [HN.out (fun h => e1 (congrArg Pt.mx h))]
          clear HN
          go_enter Try.func47, Try.ntmps47
          go_wp2_with fail
          go_quiet (fail)
          go_wp2_with fail
          go_ret
          exact ⟨rfl, bDr (Below.refl _ _) _⟩
      · rw [HN.out (fun h => e0 (congrArg Pt.kd h))]
        clear HN
        go_enter Try.func47, Try.ntmps47
        go_wp2_with fail
        go_quiet (fail)
        go_wp2_with fail
        go_ret
        exact ⟨rfl, bDr (Below.refl _ _) _⟩
    · have hh : (decide (i < n) && decide (i < n2) && decide (P i = Q i)) = false := by rw [decide_eq_false h2]; simp
      rw [hh]
      have h1' : (i : Int) < (n : Int) := by omega
      have h2' : ¬ (i : Int) < (n2 : Int) := by omega
      clear hh hP hQ
      go_enter Try.func47, Try.ntmps47
      go_wp2_with fail
      go_quiet (fail)
      go_wp2_with fail
      go_ret
      exact ⟨rfl, bDr (Below.refl _ _) _⟩
  · have hh : (decide (i < n) && decide (i < n2) && decide (P i = Q i)) = false := by rw [decide_eq_false h1]; simp
    rw [hh]
    have h1' : ¬ (i : Int) < (n : Int) := by omega
    clear hh hP hQ
    go_enter Try.func47, Try.ntmps47
    go_wp2_with fail
    go_quiet (fail)
    go_wp2_with fail
    go_ret
    exact ⟨rfl, bDr (Below.refl _ _) _⟩
end Go.Proofs.Ytjciniffkdadaaa
