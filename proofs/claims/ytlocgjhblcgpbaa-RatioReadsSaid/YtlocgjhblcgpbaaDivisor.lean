/-
  The reference's Divisor and Reduce whole.
-/
import Derived.Test.YtlocgjhblcgpbaaDivide
import Derived.Test.YtlocgjhblcgpbaaReduce
import Derived.Laws.StructEq
set_option linter.unusedVariables false
set_option linter.unusedSimpArgs false
namespace Go.Proofs.Ytlocgjhblcgpbaa
open Go.RowKit
set_option linter.unusedSimpArgs false
set_option linter.unusedVariables false

theorem eqlW (a b c d : Int) (w : World) : (binOp .eql 65 (.agg #[.int .u64 a, .int .u64 b]) (.agg #[.int .u64 c, .int .u64 d])).run Try.prog w = .ok (.bool (decide ((a, b) = (c, d)))) w := by
  have u3 := Try.underlying56
  have a3 := Try.isAgg56
  have z3 := Try.sizeOf56
  have hS : Try.prog.underlying 65 = some (.struct (Try.prog.fieldsOf 65)) := by kernel_rfl
  have hp : Try.prog.stoodInHeld 65 = false := by kernel_rfl
  rw [run_eql_struct, show (10000 : Nat) = 9999 + 1 from rfl, run_equalIn_agg w 9999 65 _ _ hS hp]
  simp only [Program.fieldsOf, Try.underlying65]
  go_simp
  by_cases h1 : a = c <;> by_cases h2 : b = d <;> simp [h1, h2]
theorem neqW (a b c d : Int) (w : World) : (binOp .neq 65 (.agg #[.int .u64 a, .int .u64 b]) (.agg #[.int .u64 c, .int .u64 d])).run Try.prog w = .ok (.bool (!decide ((a, b) = (c, d)))) w := by
  have h := eqlW a b c d w
  rw [run_eql_struct] at h
  rw [run_neq_struct]
  cases hr : ((Op.equalIn 10000 65 (.agg #[.int .u64 a, .int .u64 b]) (.agg #[.int .u64 c, .int .u64 d])).run Try.prog w) with
  | ok r w1 =>
    rw [hr] at h
    simp only [Result.andThen_ok, Result.ok.injEq, Value.bool.injEq] at h ⊢
    obtain ⟨h1, h2⟩ := h
    exact ⟨by rw [h1], h2⟩
  | halt s w1 => rw [hr] at h; simp at h
theorem zeroW {h l : Int} {x : Nat} (H : W2 h l x) : decide ((h, l) = ((0 : Int), (0 : Int))) = decide (x = 0) := by
  obtain ⟨a, b, c, d, e⟩ := H
  by_cases hx : x = 0
  · rw [decide_eq_true hx, decide_eq_true (by rw [show h = 0 by omega, show l = 0 by omega])]
  · rw [decide_eq_false hx, decide_eq_false (fun g => hx (by injection g with g1 g2; omega))]
def RetW (x : Nat) (w : World) (e : Ending) (w' : World) : Prop := ∃ h l, W2 h l x ∧ e = .returned (.agg #[.int .u64 h, .int .u64 l]) ∧ Below w.heap.size w w'
/-- the memory of the reference's divisor: its two numbers and its result -/
structure GP (w : World) (ih il jh jl : Int) (wr : World) : Prop where
  b0 : Blk wr w.heap.size 65 #[.int .u64 ih, .int .u64 il]
  b1 : Blk wr (w.heap.size + 1) 65 #[.int .u64 jh, .int .u64 jl]
  b2 : Blk wr (w.heap.size + 1 + 1) 65 #[.int .u64 0, .int .u64 0]
  hb : Below w.heap.size w wr
theorem GP.later {w wr w' : World} {ih il jh jl : Int} (h : GP w ih il jh jl wr) (hb : Below wr.heap.size wr w') : GP w ih il jh jl w' := ⟨h.b0.later hb, h.b1.later hb, h.b2.later hb, bTr h.hb hb⟩
theorem GP.step {w w1 : World} {ih il jh jl : Int} (S : GP w ih il jh jl w1) (rh rl : Int) (o1 o2 : Obj) :
    GP w jh jl rh rl (((((((w1.setCell ⟨w.heap.size, 0, none⟩ (.int .u64 jh)).setCell ⟨w.heap.size, 1, none⟩ (.int .u64 jl)).setCell ⟨w.heap.size + 1, 0, none⟩ (.int .u64 rh)).setCell ⟨w.heap.size + 1, 1, none⟩ (.int .u64 rl)).alloc o1).alloc o2).drew) := by
  obtain ⟨h0, h1, h2, h3⟩ := S
  refine ⟨?_, ?_, ?_, ?_⟩
  · exact ((((((h0.set0 _).set1 _).off (by omega) _).off (by omega) _).alloc _).alloc _).drew
  · exact ((((((h1.off (by omega) _).off (by omega) _).set0 _).set1 _).alloc _).alloc _).drew
  · exact ((((((h2.off (by omega) _).off (by omega) _).off (by omega) _).off (by omega) _).alloc _).alloc _).drew
  · exact bD1 (bAl (bAl (bSt (bSt (bSt (bSt h3 (by simp) _) (by simp) _) (by simp) _) (by simp) _) _) _)
set_option maxHeartbeats 4000000 in
theorem divisor_w {ah al bh bl : Int} {x y : Nat} (HA : W2 ah al x) (HY : W2 bh bl y) (w : World) :
    Calls Try.prog 58 #[.agg #[.int .u64 ah, .int .u64 al], .agg #[.int .u64 bh, .int .u64 bl]] w (RetW (Nat.gcd x y) w) := by
  have HA0 := Lib.hid HA
  have HY0 := Lib.hid HY
  clear HA HY
  go_enter Try.func58, Try.ntmps58
  go_wp2
  have S0 : Aside (GP w ah al bh bl ((((w.alloc (Obj.cells #[Value.int IntKind.u64 ah, Value.int IntKind.u64 al] 65)).alloc (Obj.cells #[Value.int IntKind.u64 bh, Value.int IntKind.u64 bl] 65)).alloc (Obj.cells #[Value.int IntKind.u64 0, Value.int IntKind.u64 0] 65)))) :=
    ⟨((Blk.newAt rfl).alloc _).alloc _, (Blk.newAt (by simp)).alloc _, Blk.newAt (by simp), bAl (bAl (bAl (Below.refl _ _) _) _) _⟩
  generalize (((w.alloc (Obj.cells #[Value.int IntKind.u64 ah, Value.int IntKind.u64 al] 65)).alloc (Obj.cells #[Value.int IntKind.u64 bh, Value.int IntKind.u64 bl] 65)).alloc (Obj.cells #[Value.int IntKind.u64 0, Value.int IntKind.u64 0] 65)) = W at S0 ⊢
  go_loopg [7] y (fun g _ wr => ∃ (i j : Nat) (ih il jh jl : Int), j ≤ g ∧ Aside (W2 ih il i) ∧ Aside (W2 jh jl j) ∧ Aside (Nat.gcd i j = Nat.gcd x y) ∧ Aside (GP w ih il jh jl wr))
  case atStart => exact ⟨x, y, ah, al, bh, bl, Nat.le_refl _, HA0, HY0, rfl, S0⟩
  case round =>
    clear S0 HA0 HY0
    obtain ⟨i, j, ih, il, jh, jl, hjg, HI, HJ, HG, S1⟩ := hrel
    obtain ⟨⟨c00, c01⟩, ⟨f00, f01⟩, k0⟩ := S1.out.b0.two
    obtain ⟨⟨c10, c11⟩, ⟨f10, f11⟩, k1⟩ := S1.out.b1.two
    obtain ⟨⟨c20, c21⟩, ⟨f20, f21⟩, k2⟩ := S1.out.b2.two
    by_cases hz : j = 0
    · have hne : ∀ W, (binOp .neq 65 (.agg #[.int .u64 jh, .int .u64 jl]) (.agg #[.int .u64 0, .int .u64 0])).run Try.prog W = .ok (.bool false) W := fun W => by rw [neqW, zeroW HJ.out, decide_eq_true hz]; rfl
      have HE : Hid (W2 ih il (Nat.gcd x y)) := by
        show W2 _ _ _
        rw [← HG.out, hz, Nat.gcd_zero_right]; exact HI.out
      go_wp2
      refine bodyPost_ret (v := .agg #[.int .u64 ih, .int .u64 il]) (by simp [results, Try.results58, go_sem, c20, c21, k2]) rfl ⟨ih, il, HE.out, rfl, ?_⟩
      exact bSt (bSt S1.out.hb (by simp; omega) _) (by simp; omega) _
    · have hne : ∀ W, (binOp .neq 65 (.agg #[.int .u64 jh, .int .u64 jl]) (.agg #[.int .u64 0, .int .u64 0])).run Try.prog W = .ok (.bool true) W := fun W => by rw [neqW, zeroW HJ.out, decide_eq_false hz]; rfl
      have hml : i % j < j := Nat.mod_lt i (by omega)
      go_wp2_with fail
      refine (divide_w HI.out HJ.out (by omega) _).mono ?_
      rintro e w1 ⟨qh, ql, rh, rl, ⟨hq, hr⟩, rfl, hb1⟩
      have S2 := Lib.hid (S1.out.later hb1)
      have HR := Lib.hid hr
      clear hb1 S1 c00 c01 f00 f01 k0 c10 c11 f10 f11 k1 c20 c21 f20 f21 k2 hq hr hne
      obtain ⟨⟨c00, c01⟩, ⟨f00, f01⟩, k0⟩ := S2.out.b0.two
      obtain ⟨⟨c10, c11⟩, ⟨f10, f11⟩, k1⟩ := S2.out.b1.two
      go_wp2
      go_region
      have S3 := Lib.hid (S2.out.step rh rl (.cells #[.int .u64 qh, .int .u64 ql] 65) (.cells #[.int .u64 rh, .int .u64 rl] 65))
      clear S2 c00 c01 f00 f01 k0 c10 c11 f10 f11 k1
      generalize ((((((w1.setCell ⟨w.heap.size, 0, none⟩ (.int .u64 jh)).setCell ⟨w.heap.size, 1, none⟩ (.int .u64 jl)).setCell ⟨w.heap.size + 1, 0, none⟩ (.int .u64 rh)).setCell ⟨w.heap.size + 1, 1, none⟩ (.int .u64 rl)).alloc (.cells #[.int .u64 qh, .int .u64 ql] 65)).alloc (.cells #[.int .u64 rh, .int .u64 rl] 65)).drew = w3 at S3 ⊢
      go_wp2
      go_roundg (i % j)
      case measure => omega
      case rel => exact ⟨j, i % j, jh, jl, rh, rl, Nat.le_refl _, HJ, HR.out, (by show _ = _; rw [← HG.out, Nat.gcd_comm i j, Nat.gcd_rec j i, Nat.gcd_comm]), S3.out⟩
end Go.Proofs.Ytlocgjhblcgpbaa
