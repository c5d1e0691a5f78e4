/-
  Check: the program's.
-/
import Derived.Test.YtglikjdgjmijfaaSOr
namespace Go.Proofs.Ytglikjdgjmijfaa
open Go.RowKit
set_option linter.unusedSimpArgs false
set_option linter.unusedVariables false

set_option maxHeartbeats 1000000 in
theorem contains_str (o : Option Addr) (n c B : Nat) (nm : Nat → ByteArray) (x : ByteArray) (w : World) (hs : RowStr w B o n nm) (hn : n ≤ 1000000) :
    Calls Try.prog 77 #[.slice o n c, .string x] w fun e w' => e = .returned (.bool (hasS nm x n)) ∧ w' = w := by
  go_enter Try.func77, Try.ntmps77
  go_wp2_with fail
  refine (index_str o n c B nm x w hs hn).mono ?_
  rintro e w' ⟨r, rfl, hr, rfl⟩
  have HR := Lib.hid hr
  clear hr
  go_wp2_with fail
  go_ret
  exact ⟨ret_bool HR.out, rfl⟩
def nameE (s : ByteArray) (dup : Bool) : Int := if nameB s = true then (if dup = true then 5 else 0) else 7
set_option maxHeartbeats 1000000 in
theorem checkName_any (s : ByteArray) (o : Option Addr) (n c B : Nat) (nm : Nat → ByteArray) (w : World) (hs : RowStr w B o n nm) (hn : n ≤ 1000000) :
    Calls Try.prog 61 #[.string s, .slice o n c] w fun e w' => e = .returned (.int .i64 (nameE s (hasS nm s n))) ∧ w' = w := by
  have HC := Lib.hid (contains_str o n c B nm s w hs hn)
  have HI := Lib.hid (isName_any s w)
  have HE := Lib.hid (show nameE s (hasS nm s n) = if nameB s = true then (if hasS nm s n = true then 5 else 0) else 7 from rfl)
  rw [HE.out]
  clear HE
  generalize hasS nm s n = d at HC ⊢
  generalize nameB s = q at HI ⊢
  cases q
  · rw [if_neg (by decide)]
    go_enter Try.func61, Try.ntmps61
    go_wp2_with (go_at_call 76; refine HI.out.mono ?_; rintro e w' ⟨rfl, rfl⟩)
    go_ret
    exact ⟨rfl, rfl⟩
  · rw [if_pos rfl]
    cases d
    · rw [if_neg (by decide)]
      go_enter Try.func61, Try.ntmps61
      go_wp2_with (first | (go_at_call 76; refine HI.out.mono ?_; rintro e w' ⟨rfl, rfl⟩) | (go_at_call 77; refine HC.out.mono ?_; rintro e w' ⟨rfl, rfl⟩))
      go_ret
      exact ⟨rfl, rfl⟩
    · rw [if_pos rfl]
      go_enter Try.func61, Try.ntmps61
      go_wp2_with (first | (go_at_call 76; refine HI.out.mono ?_; rintro e w' ⟨rfl, rfl⟩) | (go_at_call 77; refine HC.out.mono ?_; rintro e w' ⟨rfl, rfl⟩))
      go_ret
      exact ⟨rfl, rfl⟩
theorem nameE_nm (nm : Nat → ByteArray) (k : Nat) : nameE (nm k) (hasS nm (nm k) k) = nmE nm k := rfl
theorem nmE_bd (nm : Nat → ByteArray) (k : Nat) : nmE nm k = 0 ∨ nmE nm k = 5 ∨ nmE nm k = 7 := by unfold nmE; split <;> (try split) <;> omega

set_option maxHeartbeats 1000000 in
theorem checkObj_any (o : Option Addr) (n c B : Nat) (nm : Nat → ByteArray) (w : World) (hs : RowStr w B o n nm) (hn : n ≤ 1000000) (hc : n ≤ c) :
    Calls Try.prog 40 #[.slice o n c] w fun e w' => e = .returned (.int .i64 (firstE (nmE nm) n)) ∧ w' = w := by
  have HS := Lib.hid hs
  clear hs
  go_enter Try.func40, Try.ntmps40
  go_wp2_with fail
  go_loopw [8] (fun i wr => ∃ k : Nat, i = .int .i64 k ∧ k ≤ n ∧ Hid (firstE (nmE nm) k = 0) ∧ wr = w) (fun i _ => n - (intOf i).toNat)
  case atStart => exact ⟨0, rfl, Nat.zero_le _, Lib.hid rfl, rfl⟩
  case round =>
    obtain ⟨k, rfl, hk, HD, rfl⟩ := hrel
    by_cases hkn : k < n
    · have hkn' : (k : Int) < (n : Int) := by omega
      have hk0 : (0 : Int) ≤ (k : Int) := by omega
      have hkc : (k : Int) ≤ (c : Int) := by omega
      obtain ⟨b, off, rfl, hbB, hcell⟩ := HS.out k hkn
      have HC := Lib.hid (checkName_any (nm k) (some ⟨b, off, none⟩) k c B nm wr (HS.out.less hk) (by omega))
      rw [nameE_nm] at HC
      by_cases he : nmE nm k = 0
      · have HG := Lib.hid (firstE_go HD.out he)
        rw [he] at HC
        clear he
        go_wp2_with (go_at_call 61; refine HC.out.mono ?_; rintro e w' ⟨rfl, rfl⟩)
        go_roundw
        case rel => exact ⟨k + 1, by go_num, by omega, HG, trivial⟩
        case measure => simp [intOf]; omega
      · have HF := Lib.hid (firstE_stop HD.out he hkn)
        generalize nmE nm k = y at HC HF he
        have he' : (y != 0) = true := by rw [bne_iff_ne]; exact he
        clear he
        go_wp2_with (go_at_call 61; refine HC.out.mono ?_; rintro e w' ⟨rfl, rfl⟩)
        exact bodyPost_ret (v := .int .i64 y) (by simp [results, Try.results40, go_sem]) rfl ⟨ret_int HF.out.symm, rfl⟩
    · obtain rfl : k = n := by omega
      go_wp2_with fail
      exact bodyPost_ret (v := .int .i64 0) (by simp [results, Try.results40, go_sem]) rfl ⟨ret_int HD.out.symm, rfl⟩

theorem string_info : (Try.prog.info? 9).map (fun i => (i.zero, i.size, i.bytes)) = some (some (.string ⟨#[]⟩), 1, 16) := by kernel_rfl
theorem int_info : (Try.prog.info? 3).map (fun i => (i.zero, i.size, i.bytes)) = some (some (.int .i64 0), 1, 8) := by kernel_rfl
theorem strCells_len (nm : Nat → ByteArray) (n : Nat) : (strCells nm n).length = n := by unfold strCells; simp
def TopAt (tn : Nat → ByteArray) (tp : Nat → Int) (n : Nat) (w : World) (v i : Value) (wr : World) : Prop :=
  ∃ k : Nat, i = .int .i64 k ∧ k ≤ n ∧ Hid (firstE (topE tn tp) k = 0) ∧ Hid (wr.ownsRow w.heap.size 9 1 v k (strCells tn k)) ∧ Hid (Below w.heap.size w wr)
set_option maxRecDepth 100000 in
set_option maxHeartbeats 4000000 in
theorem checkTop_any (o : Option Addr) (n c : Nat) (tn : Nat → ByteArray) (tp : Nat → Int) (w : World) (hs : RowT w w.heap.size o n tn tp) (hn : n ≤ 16) :
    Calls Try.prog 39 #[.slice o n c] w fun e w' => e = .returned (.int .i64 (firstE (topE tn tp) n)) ∧ Below w.heap.size w w' := by
  have HS := Lib.hid hs
  clear hs
  obtain ⟨i0, hi0, hz0, hz1, hz2⟩ := info_parts string_info
  go_enter Try.func39, Try.ntmps39
  go_wp2_with fail
  go_loopw [3, 9] (fun v i wr => TopAt tn tp n w v i wr) (fun _ i _ => n - (intOf i).toNat)
  case atStart => exact ⟨0, rfl, Nat.zero_le _, Lib.hid rfl, Lib.hid (World.ownsRow_nil _ _ _ _), Lib.hid (Below.refl _ _)⟩
  case round =>
    obtain ⟨k, rfl, hk, HD, HO, HB⟩ := hrel
    by_cases hkn : k < n
    · have hkn' : (k : Int) < (n : Int) := by omega
      obtain ⟨b, off, rfl, hbB, h0, h1⟩ := HS.out.below HB.out (Nat.le_refl _) k hkn
      have HOL := HO.out
      obtain ⟨oe, ce, rfl, hce, hcm, hrow⟩ := strRow_own HOL
      have HR := Lib.hid hrow
      clear HOL hrow
      have HT := Lib.hid (show topE tn tp k = if nmE tn k = 0 then (if tp k < -1 ∨ (k : Int) ≤ tp k then 2 else 0) else nmE tn k from rfl)
      have HNM := Lib.hid (nameE_nm tn k)
      have HBB := Lib.hid HB.out.size
      have HCN := Lib.hid (fun W (hb : Below wr.heap.size wr W) => checkName_any (tn k) oe k ce wr.heap.size tn W (HR.out.below hb (Nat.le_refl _)) (by omega))
      rw [HNM.out] at HCN
      have HW := Lib.hid (show Below wr.heap.size wr (wr.alloc (.cells #[.string (tn k), .int .i64 (tp k)] 36)) from bAl (Below.refl _ _) _)
      by_cases he : nmE tn k = 0
      · rw [he] at HCN
        rw [if_pos he] at HT
        clear he HNM
        have HSN := Lib.hid (strCells_snoc tn k)
        generalize hx : tn k = x at h0 HW HCN HSN
        generalize hy : tp k = y at h1 HW HT
        by_cases hp : y < -1
        · have HF := Lib.hid (show firstE (topE tn tp) n = 2 by rw [firstE_stop HD.out (by rw [HT.out, if_pos (.inl hp)]; decide) hkn, HT.out, if_pos (.inl hp)])
          go_wp2_with (go_at_call 61; refine (HCN.out _ HW.out).mono ?_; rintro e w' ⟨rfl, rfl⟩)
          exact bodyPost_ret (v := .int .i64 2) (by simp [results, Try.results39, go_sem]) rfl ⟨ret_int HF.out.symm, bTr HB.out HW.out⟩
        · by_cases hq : (k : Int) ≤ y
          · have HF := Lib.hid (show firstE (topE tn tp) n = 2 by rw [firstE_stop HD.out (by rw [HT.out, if_pos (.inr hq)]; decide) hkn, HT.out, if_pos (.inr hq)])
            go_wp2_with (go_at_call 61; refine (HCN.out _ HW.out).mono ?_; rintro e w' ⟨rfl, rfl⟩)
            exact bodyPost_ret (v := .int .i64 2) (by simp [results, Try.results39, go_sem]) rfl ⟨ret_int HF.out.symm, bTr HB.out HW.out⟩
          · have HG := Lib.hid (show firstE (topE tn tp) (k + 1) = 0 from firstE_go HD.out (by rw [HT.out, if_neg (by omega)]))
            have hl := strCells_len tn k
            go_wp2_with (first | (go_at_call 61; refine (HCN.out _ HW.out).mono ?_; rintro e w' ⟨rfl, rfl⟩) | (at_builtin; refine wpList_append_own_at _ rfl (.tmp 30) (.tmp 33) 24 rfl w.heap.size 9 i0 (.string ⟨#[]⟩) 1 16 Try.underlying24 hi0 hz0 hz1 hz2 rfl (by decide) _ _ _ rfl (own_later HO.out (bAl HW.out _)) ⟨wr.heap.size + 1, 0, none⟩ 1 1 [.string x] rfl rfl ?c1 ?c2 ?c3 ?c4 ?c5 ?_; (case c1 => exact cell_one_new' _ (by simp) _ _); (case c2 => intro u hu; simp at hu; subst hu; rfl); (case c3 => unfold maxLen; omega); (case c4 => omega); (case c5 => have h1 := HBB.out; simp; omega); intro v' w3 hown3 hgrow hnil hat; rw [← HSN.out] at hown3))
            go_roundw
            case rel => exact ⟨k + 1, by go_num, by omega, HG, Lib.hid hown3, Lib.hid ((bAl (bTr HB.out HW.out) _).grown hgrow (by have h1 := HBB.out; simp; omega) (fun j hj => (HO.out.lt j hj).1))⟩
            case measure => simp [intOf]; omega
      · have HF := Lib.hid (show firstE (topE tn tp) n = nmE tn k by rw [firstE_stop HD.out (by rw [HT.out, if_neg he]; exact he) hkn, HT.out, if_neg he])
        generalize nmE tn k = z at HCN HF he
        have he' : (z != 0) = true := by rw [bne_iff_ne]; exact he
        clear he HT HNM
        generalize tn k = x at h0 HW HCN
        generalize tp k = y at h1 HW
        go_wp2_with (go_at_call 61; refine (HCN.out _ HW.out).mono ?_; rintro e w' ⟨rfl, rfl⟩)
        exact bodyPost_ret (v := .int .i64 z) (by simp [results, Try.results39, go_sem]) rfl ⟨ret_int HF.out.symm, bTr HB.out HW.out⟩
    · obtain rfl : k = n := by omega
      go_wp2_with fail
      exact bodyPost_ret (v := .int .i64 0) (by simp [results, Try.results39, go_sem]) rfl ⟨ret_int HD.out.symm, HB.out⟩
end Go.Proofs.Ytglikjdgjmijfaa
