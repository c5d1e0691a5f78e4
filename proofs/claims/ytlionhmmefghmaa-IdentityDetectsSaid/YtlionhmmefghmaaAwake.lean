/-
  What the statements of layer 4 call besides: Cut, number, awake.
-/
import Derived.Test.YtlionhmmefghmaaRefB
import Derived.Laws.StructEq
namespace Go.Proofs.Ytlionhmmefghmaa
open Go.RowKit
set_option linter.unusedSimpArgs false
set_option linter.unusedVariables false
set_option maxRecDepth 100000

theorem cut_any (x n : Int) (hx : -9223372036854775808 ≤ x ∧ x ≤ 9223372036854775807) (hn : 0 < n ∧ n ≤ 1000000000) (w : World) :
    Calls Try.prog 12 #[.int .i64 x, .int .i64 n] w fun e w' => e = .returned (.int .i64 (x % n)) ∧ w' = w := by
  have h1 : ¬ n < 1 := by omega
  have h0 : ¬ n = 0 := by omega
  by_cases hs : 0 ≤ x
  · have e1 : x.tmod n = x % n := Int.tmod_eq_emod_of_nonneg hs
    have hb : 0 ≤ x % n ∧ x % n < n := ⟨Int.emod_nonneg _ (by omega), Int.emod_lt_of_pos _ hn.1⟩
    generalize x % n = r at e1 hb ⊢
    go_enter Try.func12, Try.ntmps12
    go_wp2
    go_ret
    exact ⟨rfl, rfl⟩
  · have e1 : x.tmod n = if x % n = 0 then 0 else x % n - n := by
      have h2 : (n.natAbs : Int) = n := by omega
      rw [Int.tmod_eq_emod]
      by_cases hd : n ∣ x
      · rw [if_pos (.inr hd), if_pos (Int.emod_eq_zero_of_dvd hd)]
        have := Int.emod_eq_zero_of_dvd hd
        omega
      · rw [if_neg (by intro h; rcases h with h | h; exact hs h; exact hd h), if_neg (fun h => hd (Int.dvd_of_emod_eq_zero h)), h2]
    have hb : 0 ≤ x % n ∧ x % n < n := ⟨Int.emod_nonneg _ (by omega), Int.emod_lt_of_pos _ hn.1⟩
    generalize x % n = r at e1 hb ⊢
    by_cases hr : r = 0
    · subst hr
      rw [if_pos rfl] at e1
      go_enter Try.func12, Try.ntmps12
      go_wp2
      go_ret
      exact ⟨rfl, rfl⟩
    · rw [if_neg hr] at e1
      go_enter Try.func12, Try.ntmps12
      go_wp2
      go_ret
      exact ⟨rfl, rfl⟩
theorem text_blk (W : World) (g : Nat) (x : Int) (hx : 0 ≤ x ∧ x < 256) (PB : Blk W g 5 #[.int .u8 x]) :
    (convert 36 9 (.slice (some ⟨g, 0, none⟩) 1 1)).run Try.prog W = .ok (.string ⟨[UInt8.ofNat x.toNat].toArray⟩) W := by
  refine run_convert_bytes_back (P := Try.prog) _ 36 9 5 ⟨g, 0, none⟩ 1 [UInt8.ofNat x.toNat] Try.underlying36 Try.underlying5 Try.underlying9 (fun j hj => ?_)
  obtain rfl : j = 0 := by have : j < 1 := hj; omega
  have e : (⟨g, 0, none⟩ : Addr).add 0 = ⟨g, 0, none⟩ := by unfold Addr.add; simp
  rw [e, PB.cell]
  show some (Value.int .u8 x) = some (Value.int .u8 ((UInt8.ofNat x.toNat).toNat : Int))
  rw [u8_back hx]
/-- two IDs compared -/
theorem eqlID (a b c a' b' c' : Int) (w : World) : (binOp .eql 23 (.agg #[.int .i64 a, .int .i64 b, .int .i64 c]) (.agg #[.int .i64 a', .int .i64 b', .int .i64 c'])).run Try.prog w = .ok (.bool (decide ((a, b, c) = (a', b', c')))) w := by
  have u3 := Try.underlying3
  have a3 := Try.isAgg3
  have z3 := Try.sizeOf3
  have hS : Try.prog.underlying 23 = some (.struct (Try.prog.fieldsOf 23)) := by kernel_rfl
  have hp : Try.prog.stoodInHeld 23 = false := by kernel_rfl
  rw [run_eql_struct, show (10000 : Nat) = 9999 + 1 from rfl, run_equalIn_agg w 9999 23 _ _ hS hp]
  simp only [Program.fieldsOf, Try.underlying23]
  go_simp
  by_cases h1 : a = a' <;> by_cases h2 : b = b' <;> by_cases h3 : c = c' <;> simp [h1, h2, h3]
/-- the candidate number of n, cut -/
def numS (n : Int) : ByteArray := tx9 (numC (n % 100000000).toNat)
theorem numS_size (n : Int) : (numS n).size = 9 := rfl
theorem fmt_of (N : Nat) (h : N < 100000000) : fmtS ((N : Int) / 1000000) ((N : Int) / 10000 % 100) ((N : Int) % 10000) = tx9 (numC N) ∧ fmtE ((N : Int) / 1000000) ((N : Int) / 10000 % 100) ((N : Int) % 10000) = 0 := by
  have hv : okID ((N : Int) / 1000000) ((N : Int) / 10000 % 100) ((N : Int) % 10000) = true := (okID_iff _ _ _).2 (by omega)
  have hN : idN ((N : Int) / 1000000) ((N : Int) / 10000 % 100) ((N : Int) % 10000) = N := by unfold idN; omega
  refine ⟨?_, ?_⟩
  · unfold fmtS; rw [if_pos hv, hN]
  · unfold fmtE; rw [if_pos hv]
theorem number_any (n : Int) (hn : -9223372036854775808 ≤ n ∧ n ≤ 9223372036854775807) (w : World) :
    Calls Try.prog 20 #[.int .i64 n] w fun e w' => e = .returned (.string (numS n)) ∧ Below w.heap.size w w' := by
  go_enter Try.func20, Try.ntmps20
  go_wp2_with fail
  refine (cut_any n 100000000 hn (by omega) _).mono ?_
  rintro e w1 ⟨rfl, rfl⟩
  have HN : Hid (numS n = tx9 (numC (n % 100000000).toNat)) := Lib.hid rfl
  have hb : 0 ≤ n % 100000000 ∧ n % 100000000 < 100000000 := by omega
  obtain ⟨N, hN⟩ := Int.eq_ofNat_of_zero_le hb.1
  rw [hN] at hb HN ⊢
  have hf := (fmt_of N (by omega)).1
  go_wp2_with fail
  refine (rformat_any _ _ _ _).mono ?_
  rintro e w2 ⟨rfl, hb2⟩
  rw [hf]
  have HB := Lib.hid hb2
  clear hb2 hf
  go_wp2_with fail
  go_ret
  exact ⟨by rw [HN.out]; rfl, HB.out⟩
theorem awake_text : fmtS 0 0 1 = ⟨#[48, 48, 48, 48, 48, 48, 48, 49, 74]⟩ ∧ fmtE 0 0 1 = 0 := ⟨ByteArray.ext (by decide +kernel), by decide +kernel⟩
theorem awake_read : prV ⟨#[48, 48, 48, 48, 48, 48, 48, 49, 74]⟩ = 1 ∧ prE ⟨#[48, 48, 48, 48, 48, 48, 48, 49, 74]⟩ = 0 := ⟨by decide +kernel, by decide +kernel⟩
theorem awake_any (w : World) :
    Calls Try.prog 17 #[] w fun e w' => e = .returned (.bool true) ∧ Below w.heap.size w w' := by
  go_enter Try.func17, Try.ntmps17
  go_wp2_with fail
  refine (format_any 0 0 1 _).mono ?_
  rintro e w1 ⟨rfl, hb⟩
  rw [awake_text.1, awake_text.2]
  have HB := Lib.hid hb
  clear hb
  go_wp2_with fail
  refine (parse_any _ _).mono ?_
  rintro e w2 ⟨rfl, hb⟩
  rw [awake_read.1, awake_read.2]
  have HB2 := Lib.hid (bTr HB.out hb)
  clear hb HB
  go_wp2_with fail
  go_ret
  exact ⟨rfl, bAl HB2.out _⟩
end Go.Proofs.Ytlionhmmefghmaa
