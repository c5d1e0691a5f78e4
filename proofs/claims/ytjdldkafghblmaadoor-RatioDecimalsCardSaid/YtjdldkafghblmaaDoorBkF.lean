/-
  The texts of fractions: the reference's digits, its Format and the program's.
-/
import Derived.Test.YtjdldkafghblmaaDoorBkB
import Derived.Test.YtjdldkafghblmaaDoorBkD
import Derived.Test.YtjdldkafghblmaaDoorShelfI
import Derived.Lib.ItoaNum
import Derived.Lib.AppendIntMem
import Derived.Laws.StructEq
import Derived.RegionCalls
namespace Go.Proofs.YtjdldkafghblmaaDoor
open Go.RowKit Go.Lib
set_option linter.unusedSimpArgs false
set_option linter.unusedVariables false

theorem eqlW (a b c d : Int) (w : World) : (binOp .eql 46 (.agg #[.int .u64 a, .int .u64 b]) (.agg #[.int .u64 c, .int .u64 d])).run Tryd.prog w = .ok (.bool (decide ((a, b) = (c, d)))) w := by
  have u3 := Tryd.underlying43
  have a3 := Tryd.isAgg43
  have z3 := Tryd.sizeOf43
  have hS : Tryd.prog.underlying 46 = some (.struct (Tryd.prog.fieldsOf 46)) := by kernel_rfl
  have hp : Tryd.prog.stoodInHeld 46 = false := by kernel_rfl
  rw [run_eql_struct, show (10000 : Nat) = 9999 + 1 from rfl, run_equalIn_agg w 9999 46 _ _ hS hp]
  simp only [Program.fieldsOf, Tryd.underlying46]
  go_simp
  by_cases h1 : a = c <;> by_cases h2 : b = d <;> simp [h1, h2]
theorem zeroW {h l : Int} {x : Nat} (H : W2 h l x) : decide ((h, l) = ((0 : Int), (0 : Int))) = decide (x = 0) := by
  obtain ⟨a, b, c, d, e⟩ := H
  by_cases hx : x = 0
  · rw [decide_eq_true hx, decide_eq_true (by rw [show h = 0 by omega, show l = 0 by omega])]
  · rw [decide_eq_false hx, decide_eq_false (fun g => hx (by injection g with g1 g2; omega))]
theorem u8_back {x : Int} (h : 0 ≤ x ∧ x < 256) : ((UInt8.ofNat x.toNat).toNat : Int) = x := by
  have : x.toNat < 256 := by omega
  rw [UInt8.toNat_ofNat']
  omega
/-- string([]byte(of one byte)) -/
theorem text_one (w : World) (x : Int) (hx : 0 ≤ x ∧ x < 256) :
    (convert 74 9 (.slice (some ⟨w.heap.size, 0, none⟩) 1 1)).run Tryd.prog (w.alloc (.cells #[.int .u8 x] 5)) = .ok (.string ⟨[UInt8.ofNat x.toNat].toArray⟩) (w.alloc (.cells #[.int .u8 x] 5)) := by
  refine run_convert_bytes_back (P := Tryd.prog) _ 74 9 5 ⟨w.heap.size, 0, none⟩ 1 [UInt8.ofNat x.toNat] Tryd.underlying74 Tryd.underlying5 Tryd.underlying9 (fun j hj => ?_)
  obtain rfl : j = 0 := by have : j < 1 := hj; omega
  have e : (⟨w.heap.size, 0, none⟩ : Addr).add 0 = ⟨w.heap.size, 0, none⟩ := by unfold Addr.add; simp
  have PB := Blk.newAt (w := w) (n := w.heap.size) (t := 5) (cs := #[.int .u8 x]) rfl
  rw [e, PB.cell]
  show some (Value.int .u8 x) = some (Value.int .u8 ((UInt8.ofNat x.toNat).toNat : Int))
  rw [u8_back hx]

def strLen : Value → Nat
  | .string b => b.size
  | _ => 0
theorem decD_small {u : Nat} (h : u < 10) : decDigits u = [UInt8.ofNat (48 + u)] := by rw [decDigits, dif_pos h]
theorem decD_big {u : Nat} (h : ¬ u < 10) : decDigits u = decDigits (u / 10) ++ [UInt8.ofNat (48 + u % 10)] := by rw [decDigits, dif_neg h]
theorem decD_len : ∀ (k u : Nat), 1 ≤ k → u < 10 ^ k → 1 ≤ (decDigits u).length ∧ (decDigits u).length ≤ k
  | 0, _, h, _ => by omega
  | k + 1, u, _, h => by
    by_cases hs : u < 10
    · rw [decD_small hs]; simp
    · rw [decD_big hs, List.length_append, List.length_singleton]
      rcases Nat.eq_zero_or_pos k with rfl | hk
      · simp at h; omega
      · have := decD_len k (u / 10) hk (by rw [Nat.pow_succ] at h; omega)
        omega
theorem text_app (a b : List UInt8) : (⟨a.toArray⟩ : ByteArray) ++ ⟨b.toArray⟩ = ⟨(a ++ b).toArray⟩ := by
  apply ByteArray.ext
  rw [ByteArray.data_append]
  simp
theorem text_size (a : List UInt8) : (⟨a.toArray⟩ : ByteArray).size = a.length := by simp [ByteArray.size]
theorem ret_str {a b : ByteArray} (h : a = b) : Ending.returned (.string a) = .returned (.string b) := by rw [h]

/-- the reference's digits: what is left, and the text so far -/
structure DS (w : World) (x : Nat) (x' : Nat) (tl : List UInt8) (wr : World) : Prop where
  blk : ∃ h l, W2 h l x' ∧ Blk wr w.heap.size 46 #[.int .u64 h, .int .u64 l]
  txt : decDigits x = decDigits x' ++ tl
  be : Below w.heap.size w wr

set_option maxRecDepth 100000 in
set_option maxHeartbeats 4000000 in
theorem digits_any {h l : Int} {x : Nat} (HX : W2 h l x) (w : World) :
    Calls Tryd.prog 21 #[.agg #[.int .u64 h, .int .u64 l]] w fun e w' => e = .returned (.string ⟨(decDigits x).toArray⟩) ∧ Below w.heap.size w w' := by
  have hlen := Lib.hid (decD_len 39 x (by omega) (Nat.lt_trans HX.bd (by decide)))
  have HB := Lib.hid (show DS w x x [] (w.alloc (.cells #[.int .u64 h, .int .u64 l] 46)) from ⟨⟨h, l, HX, Blk.new _ _ _⟩, by simp, bAl (Below.refl _ _) _⟩)
  clear HX
  go_enter Tryd.func21, Tryd.ntmps21
  go_wp2_with fail
  go_loopw [3] (fun v wr => ∃ (x' : Nat) (tl : List UInt8), v = .string ⟨tl.toArray⟩ ∧ DS w x x' tl wr) (fun v _ => 40 - strLen v)
  case atStart => exact ⟨x, [], rfl, HB.out⟩
  case round =>
    clear HB
    obtain ⟨x', tl, rfl, hS⟩ := hrel
    have HS := Lib.hid hS
    clear hS
    obtain ⟨h', l', HX, hB⟩ := HS.out.blk
    obtain ⟨⟨c0, c1⟩, ⟨f0, f1⟩, hlt⟩ := hB.two
    have PB := Lib.hid hB
    clear hB
    go_wp2_with fail
    refine (divide_w HX (show W2 0 10 10 from W2.mkLow (x := 10) (by omega)) (by omega) _).mono ?_
    rintro e w2 ⟨qh, ql, rh, rl, ⟨Hq, Hr⟩, rfl, hb⟩
    have hr10 : x' % 10 < 10 := Nat.mod_lt _ (by omega)
    obtain ⟨rfl, hrl⟩ : rh = 0 ∧ rl = ((x' % 10 : Nat) : Int) := by
      obtain ⟨a1, a2, a3, a4, a5⟩ := Hr
      omega
    have hrl0 : 0 ≤ rl ∧ rl < 10 := by omega
    have HRL := Lib.hid hrl
    have HQ := Lib.hid Hq
    have P2 := Lib.hid (PB.out.later hb)
    have B2 := Lib.hid (bTr HS.out.be hb)
    have hlt2 : w.heap.size < w2.heap.size := P2.out.lt
    clear Hr Hq hrl hb c0 c1 f0 f1 PB hr10 HX
    obtain ⟨⟨c0, c1⟩, ⟨f0, f1⟩, -⟩ := P2.out.two
    have HCV := text_one ((w2.alloc (.cells #[.int .u64 qh, .int .u64 ql] 46)).alloc (.cells #[.int .u64 0, .int .u64 rl] 46)) (48 + rl) (by omega)
    simp only [World.size_alloc] at HCV
    have hw1 : IntKind.u64.wrap (48 + rl) = 48 + rl := by rw [IntKind.wrap_u64]; omega
    have hw2 : IntKind.u8.wrap (48 + rl) = 48 + rl := by rw [IntKind.wrap_u8]; omega
    have hsz : (⟨tl.toArray⟩ : ByteArray).size ≤ 100 := by
      rw [text_size]
      have h1 := hlen.out
      have h2 := congrArg List.length HS.out.txt
      rw [List.length_append] at h2
      omega
    have hsz2 : ¬ 9223372036854775807 < 1 + tl.length := by rw [text_size] at hsz; omega
    have P3 := Lib.hid ((((((P2.out.alloc (.cells #[.int .u64 qh, .int .u64 ql] 46)).alloc (.cells #[.int .u64 0, .int .u64 rl] 46)).alloc (.cells #[.int .u8 (48 + rl)] 5))).set0 (.int .u64 qh)).set1 (.int .u64 ql))
    have B3 := Lib.hid (bSt (bSt (bAl (bAl (bAl B2.out (.cells #[.int .u64 qh, .int .u64 ql] 46)) (.cells #[.int .u64 0, .int .u64 rl] 46)) (.cells #[.int .u8 (48 + rl)] 5)) (p := ⟨w.heap.size, 0, none⟩) (Nat.le_refl _) (.int .u64 qh)) (p := ⟨w.heap.size, 1, none⟩) (Nat.le_refl _) (.int .u64 ql))
    obtain ⟨⟨d0, d1⟩, ⟨g0, g1⟩, -⟩ := (((P2.out.alloc (.cells #[.int .u64 qh, .int .u64 ql] 46)).alloc (.cells #[.int .u64 0, .int .u64 rl] 46)).alloc (.cells #[.int .u8 (48 + rl)] 5)).two
    by_cases hz : x' / 10 = 0
    · have heq : ∀ W, (binOp .eql 46 (.agg #[.int .u64 qh, .int .u64 ql]) (.agg #[.int .u64 0, .int .u64 0])).run Tryd.prog W = .ok (.bool true) W := fun W => by rw [eqlW, zeroW HQ.out, decide_eq_true hz]
      have hz2 : x' < 10 := by omega
      have HT := Lib.hid (show [UInt8.ofNat (48 + rl).toNat] ++ tl = decDigits x by
        rw [HS.out.txt, decD_small hz2, HRL.out, Nat.mod_eq_of_lt hz2]
        rfl)
      clear hz hz2 HQ HRL
      go_wp2_with fail
      go_ret
      exact ⟨ret_str ((text_app [UInt8.ofNat (48 + rl).toNat] tl).trans (by rw [HT.out])), B3.out⟩
    · have heq : ∀ W, (binOp .eql 46 (.agg #[.int .u64 qh, .int .u64 ql]) (.agg #[.int .u64 0, .int .u64 0])).run Tryd.prog W = .ok (.bool false) W := fun W => by rw [eqlW, zeroW HQ.out, decide_eq_false hz]
      have hz2 : ¬ x' < 10 := by omega
      have HT := Lib.hid (show decDigits x = decDigits (x' / 10) ++ ([UInt8.ofNat (48 + rl).toNat] ++ tl) by
        rw [HS.out.txt, decD_big hz2, HRL.out, List.append_assoc]
        rfl)
      have HL := Lib.hid (show (40 - strLen (.string ⟨([UInt8.ofNat (48 + rl).toNat] ++ tl).toArray⟩) : Nat) < 40 - strLen (.string ⟨tl.toArray⟩) by
        have h1 := hlen.out
        have h2 := congrArg List.length HS.out.txt
        rw [List.length_append] at h2
        show 40 - (⟨([UInt8.ofNat (48 + rl).toNat] ++ tl).toArray⟩ : ByteArray).size < 40 - (⟨tl.toArray⟩ : ByteArray).size
        rw [text_size, text_size, List.length_append, List.length_singleton]
        omega)
      have HDS := Lib.hid (show DS w x (x' / 10) ([UInt8.ofNat (48 + rl).toNat] ++ tl) _ from ⟨⟨qh, ql, HQ.out, P3.out⟩, HT.out, B3.out⟩)
      have HTA := Lib.hid (text_app [UInt8.ofNat (48 + rl).toNat] tl)
      clear hz hz2 HQ HRL
      go_wp2_with fail
      go_roundw
      case rel => exact ⟨x' / 10, _, by exact congrArg Value.string HTA.out, HDS.out⟩
      case measure => exact Nat.lt_of_le_of_lt (Nat.le_of_eq (by show 40 - (_ : ByteArray).size = 40 - (_ : ByteArray).size; rw [← HTA.out])) HL.out
end Go.Proofs.YtjdldkafghblmaaDoor
