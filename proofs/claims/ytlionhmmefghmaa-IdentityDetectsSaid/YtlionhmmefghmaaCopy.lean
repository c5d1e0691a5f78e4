/-
  copy(n[:], s) into nine bytes, and the text of such bytes.
-/
import Derived.Test.YtlionhmmefghmaaNumC
import Derived.Lib.LazyBuf
import Derived.Laws.IdiomStrings
import Derived.Laws.BytesString
namespace Go.Proofs.Ytlionhmmefghmaa
open Go.RowKit
set_option linter.unusedSimpArgs false
set_option linter.unusedVariables false
set_option maxRecDepth 100000

/-- the byte at place i -/
def byteAt (s : ByteArray) (i : Nat) : Int := ((s.data.toList.getD i 0).toNat : Int)
theorem byteAt_bd (s : ByteArray) (i : Nat) : 0 ≤ byteAt s i ∧ byteAt s i < 256 := by
  unfold byteAt
  have := (s.data.toList.getD i 0).toNat_lt
  omega
def setArr (cs : Array Value) : Nat → List Value → Array Value
  | _, [] => cs
  | o, v :: r => setArr (cs.setIfInBounds o v) (o + 1) r
theorem Blk.setCells {g : Nat} {t : TypeId} : ∀ (vs : List Value) (o : Nat) (w : World) (cs : Array Value), Blk w g t cs → Blk (w.setCells g o vs) g t (setArr cs o vs)
  | [], _, _, _, h => h
  | v :: r, o, w, cs, h => Blk.setCells r (o + 1) _ _ (h.set_ o v)
theorem Blk.farCells {g b : Nat} {t : TypeId} {cs : Array Value} (hne : g ≠ b) : ∀ (vs : List Value) (o : Nat) (w : World), Blk w g t cs → Blk (w.setCells b o vs) g t cs
  | [], _, _, h => h
  | v :: r, o, w, h => Blk.farCells hne r (o + 1) _ (h.far (p := ⟨b, o, none⟩) hne v)
theorem setArr_nine : ∀ (l : List UInt8) (o : Nat) (c : Nat → Int), o + l.length ≤ 9 → setArr (nine c) o (l.map fun x => Value.int .u8 (x.toNat : Int)) = nine (fun i => if o ≤ i ∧ i < o + l.length then ((l.getD (i - o) 0).toNat : Int) else c i)
  | [], o, c, _ => by
    refine nine_ext fun i _ => ?_
    rw [if_neg (by simp)]
  | x :: l, o, c, h => by
    have h' : o + (l.length + 1) ≤ 9 := h
    show setArr ((nine c).setIfInBounds o _) (o + 1) _ = _
    rw [set_nine c (by omega), setArr_nine l (o + 1) _ (by omega)]
    refine nine_ext fun i _ => ?_
    by_cases h1 : i = o
    · subst h1
      rw [if_neg (by omega), if_pos rfl, if_pos (by simp), Nat.sub_self]
      rfl
    · by_cases h2 : o + 1 ≤ i ∧ i < o + 1 + l.length
      · rw [if_pos h2, if_pos (by simp; omega), show i - o = (i - (o + 1)) + 1 by omega]
        rfl
      · rw [if_neg h2, if_neg h1, if_neg (by simp; omega)]
theorem size_data (s : ByteArray) : s.data.toList.length = s.size := by rw [Lib.size_eq]
theorem copy_nine (s : ByteArray) (hs : s.size ≤ 9) (w : World) (g : Nat) (PB : Blk w g 43 (nine fun _ => 0)) :
    ∃ w2, (Builtin.copy_ #[36, 9] 3 #[.slice (some ⟨g, 0, none⟩) 9 9, .string s]).run Try.prog w = .ok (goInt s.size) w2 ∧ Hid (Blk w2 g 43 (nine (byteAt s)))
      ∧ Hid (∀ h t cs, h ≠ g → Blk w h t cs → Blk w2 h t cs) ∧ Hid (∀ B v, B ≤ g → Below B v w → Below B v w2) := by
  have hl := size_data s
  refine ⟨_, run_copy_string (P := Try.prog) w 36 9 3 5 g 0 9 9 s Try.underlying36 (fun w => Try.sizeOf5 w) hs (fun j hj => ?_) (fun j _ => PB.frozen _), Lib.hid ?_, Lib.hid fun h t cs hne hb => Blk.farCells hne _ _ _ hb, Lib.hid fun B v hB hb => below_setCells hB _ _ _ hb⟩
  · rw [PB.cell, nine_at _ (by omega)]; rfl
  · have := Blk.setCells (s.data.toList.map fun x => Value.int .u8 (x.toNat : Int)) 0 w _ PB
    rw [setArr_nine _ _ _ (by omega)] at this
    rw [show nine (byteAt s) = nine (fun i => if 0 ≤ i ∧ i < 0 + s.data.toList.length then ((s.data.toList.getD (i - 0) 0).toNat : Int) else 0) from nine_ext fun i _ => ?_]
    · exact this
    · unfold byteAt
      split
      · rfl
      · rename_i h
        rw [List.getD_eq_getElem?_getD, List.getElem?_eq_none (by omega)]
        rfl
/-- the text of nine bytes -/
def tx9 (c : Nat → Int) : ByteArray := ⟨[UInt8.ofNat (c 0).toNat, UInt8.ofNat (c 1).toNat, UInt8.ofNat (c 2).toNat, UInt8.ofNat (c 3).toNat, UInt8.ofNat (c 4).toNat, UInt8.ofNat (c 5).toNat, UInt8.ofNat (c 6).toNat, UInt8.ofNat (c 7).toNat, UInt8.ofNat (c 8).toNat].toArray⟩
theorem u8_back {x : Int} (h : 0 ≤ x ∧ x < 256) : ((UInt8.ofNat x.toNat).toNat : Int) = x := by
  rw [UInt8.toNat_ofNat']
  omega
theorem text_nine (c : Nat → Int) (hc : ∀ i, 0 ≤ c i ∧ c i < 256) (w : World) (g : Nat) (PB : Blk w g 43 (nine c)) :
    (convert 36 9 (.slice (some ⟨g, 0, none⟩) 9 9)).run Try.prog w = .ok (.string (tx9 c)) w := by
  refine run_convert_bytes_back (P := Try.prog) w 36 9 5 ⟨g, 0, none⟩ 9 [UInt8.ofNat (c 0).toNat, UInt8.ofNat (c 1).toNat, UInt8.ofNat (c 2).toNat, UInt8.ofNat (c 3).toNat, UInt8.ofNat (c 4).toNat, UInt8.ofNat (c 5).toNat, UInt8.ofNat (c 6).toNat, UInt8.ofNat (c 7).toNat, UInt8.ofNat (c 8).toNat] Try.underlying36 Try.underlying5 Try.underlying9 (fun j hj => ?_)
  have hj' : j < 9 := hj
  have e : (⟨g, 0, none⟩ : Addr).add j = ⟨g, j, none⟩ := by unfold Addr.add; split <;> simp_all
  rw [e, PB.cell, nine_at c hj']
  obtain rfl | rfl | rfl | rfl | rfl | rfl | rfl | rfl | rfl : j = 0 ∨ j = 1 ∨ j = 2 ∨ j = 3 ∨ j = 4 ∨ j = 5 ∨ j = 6 ∨ j = 7 ∨ j = 8 := by omega
  all_goals exact congrArg (fun z => some (Value.int .u8 z)) (u8_back (hc _)).symm
theorem text_last (c : Nat → Int) (hc : ∀ i, 0 ≤ c i ∧ c i < 256) (w : World) (g : Nat) (PB : Blk w g 43 (nine c)) :
    (convert 36 9 (.slice (some ⟨g, 8, none⟩) 1 1)).run Try.prog w = .ok (.string ⟨[UInt8.ofNat (c 8).toNat].toArray⟩) w := by
  refine run_convert_bytes_back (P := Try.prog) w 36 9 5 ⟨g, 8, none⟩ 1 [UInt8.ofNat (c 8).toNat] Try.underlying36 Try.underlying5 Try.underlying9 (fun j hj => ?_)
  obtain rfl : j = 0 := by have : j < 1 := hj; omega
  have e : (⟨g, 8, none⟩ : Addr).add 0 = ⟨g, 8, none⟩ := by unfold Addr.add; simp
  rw [e, PB.cell, nine_at c (by omega)]
  show _ = some (Value.int .u8 ((UInt8.ofNat (c 8).toNat).toNat : Int))
  rw [u8_back (hc 8)]
/-- a world behind the nine stores of a whole number -/
abbrev stored (w : World) (g : Nat) (c : Nat → Int) : World :=
  ((((((((w.setCell ⟨g, 0, none⟩ (.int .u8 (c 0))).setCell ⟨g, 1, none⟩ (.int .u8 (c 1))).setCell ⟨g, 2, none⟩ (.int .u8 (c 2))).setCell ⟨g, 3, none⟩ (.int .u8 (c 3))).setCell ⟨g, 4, none⟩ (.int .u8 (c 4))).setCell ⟨g, 5, none⟩ (.int .u8 (c 5))).setCell ⟨g, 6, none⟩ (.int .u8 (c 6))).setCell ⟨g, 7, none⟩ (.int .u8 (c 7))).setCell ⟨g, 8, none⟩ (.int .u8 (c 8))
theorem blk_set9 {w : World} {g : Nat} {t : TypeId} {d : Nat → Int} (h : Blk w g t (nine d)) (k : Nat) (hk : k < 9) (x : Int) : Blk (w.setCell ⟨g, k, none⟩ (.int .u8 x)) g t (nine (fun i => if i = k then x else d i)) := by
  have := h.set_ k (.int .u8 x)
  rwa [set_nine d hk] at this
theorem stored_blk {w : World} {g : Nat} {d : Nat → Int} (h : Blk w g 43 (nine d)) (c : Nat → Int) : Blk (stored w g c) g 43 (nine c) := by
  have h8 := (blk_set9 (blk_set9 (blk_set9 (blk_set9 (blk_set9 (blk_set9 (blk_set9 (blk_set9 (blk_set9 h 0 (by omega) (c 0)) 1 (by omega) (c 1)) 2 (by omega) (c 2)) 3 (by omega) (c 3)) 4 (by omega) (c 4)) 5 (by omega) (c 5)) 6 (by omega) (c 6)) 7 (by omega) (c 7)) 8 (by omega) (c 8))
  rw [nine_ext (d := c)] at h8
  · exact h8
  · intro i hi
    obtain rfl | rfl | rfl | rfl | rfl | rfl | rfl | rfl | rfl : i = 0 ∨ i = 1 ∨ i = 2 ∨ i = 3 ∨ i = 4 ∨ i = 5 ∨ i = 6 ∨ i = 7 ∨ i = 8 := by omega
    all_goals simp
theorem stored_below {a w : World} {g : Nat} (h : Below a.heap.size a w) (hg : a.heap.size ≤ g) (c : Nat → Int) : Below a.heap.size a (stored w g c) :=
  bSt (bSt (bSt (bSt (bSt (bSt (bSt (bSt (bSt h (by exact hg) _) (by exact hg) _) (by exact hg) _) (by exact hg) _) (by exact hg) _) (by exact hg) _) (by exact hg) _) (by exact hg) _) (by exact hg) _
theorem stored_far {w : World} {g h : Nat} {t : TypeId} {cs : Array Value} (hb : Blk w h t cs) (hne : h ≠ g) (c : Nat → Int) : Blk (stored w g c) h t cs :=
  ((((((((hb.off hne _).off hne _).off hne _).off hne _).off hne _).off hne _).off hne _).off hne _).off hne _
end Go.Proofs.Ytlionhmmefghmaa
