/-
  A word drawn from a tape.
-/
import Derived.Test.YtjciniffkdadaaaIMath
import Derived.Test.YtjciniffkdadaaaTapeB
namespace Go.Proofs.Ytjciniffkdadaaa
open Go.RowKit
set_option linter.unusedSimpArgs false
set_option linter.unusedVariables false

theorem u8_back {x : Int} (h : 0 ≤ x ∧ x < 256) : ((UInt8.ofNat x.toNat).toNat : Int) = x := by
  have : x.toNat < 256 := by omega
  rw [UInt8.toNat_ofNat']
  omega
/-- string([]byte(of one byte)) -/
theorem text_one (w : World) (x : Int) (hx : 0 ≤ x ∧ x < 256) :
    (convert 67 9 (.slice (some ⟨w.heap.size, 0, none⟩) 1 1)).run Try.prog (w.alloc (.cells #[.int .u8 x] 5)) = .ok (.string ⟨[UInt8.ofNat x.toNat].toArray⟩) (w.alloc (.cells #[.int .u8 x] 5)) := by
  refine run_convert_bytes_back (P := Try.prog) _ 67 9 5 ⟨w.heap.size, 0, none⟩ 1 [UInt8.ofNat x.toNat] Try.underlying67 Try.underlying5 Try.underlying9 (fun j hj => ?_)
  obtain rfl : j = 0 := by have : j < 1 := hj; omega
  have e : (⟨w.heap.size, 0, none⟩ : Addr).add 0 = ⟨w.heap.size, 0, none⟩ := by unfold Addr.add; simp
  have PB := Blk.newAt (w := w) (n := w.heap.size) (t := 5) (cs := #[.int .u8 x]) rfl
  rw [e, PB.cell]
  show some (Value.int .u8 x) = some (Value.int .u8 ((UInt8.ofNat x.toNat).toNat : Int))
  rw [u8_back hx]
def Low (s : ByteArray) : Prop := ∀ x ∈ s.data.toList, 97 ≤ x.toNat ∧ x.toNat ≤ 122
def WordR (w : World) (B g : Nat) (o : Option Addr) (n c : Nat) (z : Nat → Int) (e : Ending) (w' : World) : Prop :=
  ∃ s : ByteArray, e = .returned (.string s) ∧ 1 ≤ s.size ∧ s.size ≤ 3 ∧ Low s ∧ Tp w' B g o n c z ∧ w.grownBy w' (some g)
set_option maxRecDepth 100000 in
set_option maxHeartbeats 4000000 in
theorem word_any {w : World} {B g : Nat} {o : Option Addr} {n c : Nat} {z : Nat → Int} (h : Tp w B g o n c z) :
    Calls Try.prog 38 #[.pointer (some ⟨g, 0, none⟩), .int .i64 3] w (WordR w B g o n c z) := by
  have H := Lib.hid h
  clear h
  go_enter Try.func38, Try.ntmps38
  go_wp2_with fail
  refine (tape_range 1 3 (by omega) (by omega) (by omega) H.out).mono ?_
  rintro e w1 ⟨v1, ⟨hv0, hv1⟩, rfl, ht1, hg1⟩
  have T1 := Lib.hid ht1
  have G1 := Lib.hid hg1
  clear ht1 hg1 H
  go_wp2_with fail
  go_loopw [5, 6] (fun v i wr => ∃ (k : Nat) (s : ByteArray), i = .int .i64 (v1 - k) ∧ (k : Int) ≤ v1 ∧ v = .string s ∧ Hid (s.size = k) ∧ Hid (Low s) ∧ Hid (Tp wr B g o n c z) ∧ Hid (w.grownBy wr (some g))) (fun _ i _ => (intOf i).toNat)
  case atStart => exact ⟨0, _, by simp, by omega, rfl, Lib.hid rfl, Lib.hid (fun x hx => by simp at hx), T1, G1⟩
  case round =>
    clear T1 G1
    obtain ⟨k, s, rfl, hk, rfl, HSZ, HL, T2, G2⟩ := hrel
    by_cases hkn : (k : Int) < v1
    · have hp : 0 < v1 - (k : Int) := by omega
      go_wp2_with fail
      refine (tape_next 3 (by omega) (by omega) T2.out).mono ?_
      rintro e w5 ⟨v5, ⟨h50, h51⟩, rfl, ht5, hg5⟩
      have T5 := Lib.hid ht5
      have G5 := Lib.hid (gTr G2.out hg5)
      clear ht5 hg5 T2 G2
      have hwr : IntKind.i64.wrap (97 + v5) = 97 + v5 := by rw [IntKind.wrap_i64]; omega
      have hwu : IntKind.u8.wrap (97 + v5) = 97 + v5 := by rw [IntKind.wrap_u8]; omega
      have hwk : IntKind.i64.wrap (v1 - (k : Int) - 1) = v1 - ((k + 1 : Nat) : Int) := by rw [IntKind.wrap_i64]; omega
      have HCV := text_one w5 (97 + v5) (by omega)
      have HSN := Lib.hid (show (s ++ ⟨[UInt8.ofNat (97 + v5).toNat].toArray⟩ : ByteArray).size = k + 1 by rw [ByteArray.size_append]; have := HSZ.out; rw [this]; rfl)
      have HLN := Lib.hid (show Low (s ++ ⟨[UInt8.ofNat (97 + v5).toNat].toArray⟩ : ByteArray) by
        intro x hx
        rw [ByteArray.data_append, Array.toList_append, List.mem_append] at hx
        rcases hx with hx | hx
        · exact HL.out x hx
        · simp at hx
          subst hx
          have := u8_back (x := 97 + v5) (by omega)
          omega)
      have hsz : s.size ≤ 100 := by have := HSZ.out; omega
      go_wp2_with fail
      go_roundw
      case rel => exact ⟨k + 1, _, rfl, by omega, rfl, HSN, HLN, Lib.hid (T5.out.alloc _), Lib.hid (gAlc G5.out _)⟩
      case measure => simp [intOf]; omega
    · have hp : ¬ 0 < v1 - (k : Int) := by omega
      have hkv : (k : Int) = v1 := by omega
      have HF := Lib.hid (show 1 ≤ s.size ∧ s.size ≤ 3 by have := HSZ.out; omega)
      clear hkv
      go_wp2_with fail
      exact bodyPost_ret (v := .string s) (by simp [results, Try.results38, go_sem]) rfl ⟨s, rfl, HF.out.1, HF.out.2, HL.out, T2.out, G2.out⟩
end Go.Proofs.Ytjciniffkdadaaa
