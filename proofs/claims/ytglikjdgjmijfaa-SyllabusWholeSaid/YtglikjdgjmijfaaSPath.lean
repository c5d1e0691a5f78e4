/-
  The path to a topic: the recursive closure, and the reference's test.
-/
import Derived.Test.YtglikjdgjmijfaaSNat
import Derived.Laws.EntriesVeiled
namespace Go.Proofs.Ytglikjdgjmijfaa
open Go.RowKit
set_option linter.unusedSimpArgs false
set_option linter.unusedVariables false

theorem own_any {w : World} {B size n : Nat} {e : TypeId} {v : Value} {xs : List Value} (h : w.ownsRow B e size v n xs) : ∃ p cap, v = .slice p n cap := by
  rcases h.2 with ⟨rfl, hx⟩ | ⟨g, cap, cur, rfl, _⟩
  · exact ⟨none, 0, by rw [show n = 0 by omega]⟩
  · exact ⟨_, _, rfl⟩
/-- what the closure captured: itself, the topics, the path so far -/
structure PInv (w : World) (Bs bt bf bp : Nat) (o : Option Addr) (n c : Nat) (tn : Nat → ByteArray) (tp : Nat → Int) (l : List Nat) : Prop where
  rows : RowT w Bs o n tn tp
  top : Blk w bt 23 #[.slice o n c]
  self : Blk w bf 87 #[.func (.func 64) #[] #[.pointer (some ⟨bf, 0, none⟩), .pointer (some ⟨bt, 0, none⟩), .pointer (some ⟨bp, 0, none⟩)]]
  out : ∃ v, Blk w bp 22 #[v] ∧ w.ownsRow (Bs + 3) 3 1 v l.length (l.map iv)
  ht : Bs ≤ bt ∧ bt < Bs + 3
  hf : Bs ≤ bf ∧ bf < Bs + 3
  hp : Bs ≤ bp ∧ bp < Bs + 3
  tf : bt ≠ bp ∧ bf ≠ bp ∧ bt ≠ bf
  sz : Bs + 3 ≤ w.heap.size
theorem PInv.later {w w' : World} {Bs bt bf bp : Nat} {o : Option Addr} {n c : Nat} {tn : Nat → ByteArray} {tp : Nat → Int} {l : List Nat} (h : PInv w Bs bt bf bp o n c tn tp l) (hb : Below w.heap.size w w') : PInv w' Bs bt bf bp o n c tn tp l := by
  have h1 := h.top.lt
  have h2 := h.ht
  obtain ⟨v, hv, ho⟩ := h.out
  exact ⟨h.rows.below hb (by omega), h.top.later hb, h.self.later hb, ⟨v, hv.later hb, own_later ho hb⟩, h.ht, h.hf, h.hp, h.tf, Nat.le_trans h.sz hb.size⟩
theorem PInv.push {w w8 : World} {Bs bt bf bp : Nat} {o : Option Addr} {n c : Nat} {tn : Nat → ByteArray} {tp : Nat → Int} {l : List Nat} {v v8 : Value} {ob : Obj} {k : Nat} (h : PInv w Bs bt bf bp o n c tn tp l) (hv : Blk w bp 22 #[v])
    (ho : w.ownsRow (Bs + 3) 3 1 v l.length (l.map iv)) (hg : (w.alloc ob).grownBy w8 v.ownBlock) (h8 : w8.ownsRow (Bs + 3) 3 1 v8 (l.length + 1) (l.map iv ++ [iv k])) :
    PInv (w8.setCell ⟨bp, 0, none⟩ v8) Bs bt bf bp o n c tn tp (l ++ [k]) ∧ Below Bs w (w8.setCell ⟨bp, 0, none⟩ v8) := by
  have hsz := h.sz
  have hp := h.hp
  have hb : Below Bs w w8 := ((Below.refl Bs w).alloc (by omega) ob).grown hg (by simp; omega) (fun j hj => by have := (ho.lt j hj).1; omega)
  have hb' : Below Bs w (w8.setCell ⟨bp, 0, none⟩ v8) := hb.setCell (by simpa using hp.1) v8
  have ne : ∀ b : Nat, b < Bs + 3 → some b ≠ v.ownBlock := fun b hb e => by have := (ho.lt b e.symm).1; omega
  have h8s : w.heap.size ≤ w8.heap.size := hb.size
  refine ⟨⟨h.rows.below hb' (Nat.le_refl _), ((h.top.alloc ob).grown hg (ne _ h.ht.2)).off h.tf.1 v8, ((h.self.alloc ob).grown hg (ne _ h.hf.2)).off h.tf.2.1 v8, ⟨v8, ?_, ?_⟩, h.ht, h.hf, h.hp, h.tf, by simp; omega⟩, hb'⟩
  · have := ((hv.alloc ob).grown hg (ne _ hp.2)).set_ 0 v8
    simpa using this
  · have := ownsRow_setCell_below h8 (a := ⟨bp, 0, none⟩) (by simpa using hp.2) v8
    simpa using this
def ClimbR (w : World) (Bs bt bf bp : Nat) (o : Option Addr) (n c : Nat) (tn : Nat → ByteArray) (tp : Nat → Int) (l : List Nat) (e : Ending) (w' : World) : Prop :=
  e = .returned (.tuple #[]) ∧ PInv w' Bs bt bf bp o n c tn tp l ∧ Below Bs w w'
set_option maxRecDepth 100000 in
set_option maxHeartbeats 2000000 in
theorem climb_any (Bs bt bf bp : Nat) (o : Option Addr) (n c : Nat) (tn : Nat → ByteArray) (tp : Nat → Int) (hF : Fst tp n) (hn : n ≤ 16) : ∀ (m : Nat) (t : Int), -1 ≤ t → t < (n : Int) → (t + 1).toNat = m → ∀ (l : List Nat) (w : World), l.length + m ≤ 100 → PInv w Bs bt bf bp o n c tn tp l →
    Calls Try.prog 64 #[.int .i64 t, .pointer (some ⟨bf, 0, none⟩), .pointer (some ⟨bt, 0, none⟩), .pointer (some ⟨bp, 0, none⟩)] w (ClimbR w Bs bt bf bp o n c tn tp (l ++ pathI tp t)) := by
  intro m
  induction m using Nat.strongRecOn with
  | ind m ih =>
    intro t h1 h2 hm l w hl H
    have HI := Lib.hid H
    by_cases h0 : t = -1
    · subst h0
      have HP := Lib.hid (show l ++ pathI tp (-1) = l by unfold pathI; rw [if_pos (by decide), List.append_nil])
      rw [HP.out]
      clear H
      go_enter Try.func64, Try.ntmps64
      go_wp2_with fail
      exact bodyPost_ret (v := .tuple #[]) (by simp [results, Try.results64, go_sem]) rfl ⟨rfl, HI.out, Below.refl _ _⟩
    · obtain ⟨k, rfl⟩ := Int.eq_ofNat_of_zero_le (show 0 ≤ t by omega)
      have hkn : k < n := by omega
      have hkn' : (k : Int) < (n : Int) := by omega
      have hk0 : (0 : Int) ≤ (k : Int) := by omega
      obtain ⟨p1, p2⟩ := hF k hkn
      have HP := Lib.hid (show l ++ pathI tp ((k : Nat) : Int) = (l ++ pathI tp (tp k)) ++ [k] by
        have e : pathI tp ((k : Nat) : Int) = path tp k := by unfold pathI; rw [if_neg (by omega)]; rfl
        rw [e, path_eq hF hkn, List.append_assoc])
      have IH := Lib.hid (fun W (HW : PInv W Bs bt bf bp o n c tn tp l) => ih (tp k + 1).toNat (by omega) (tp k) p1 (by omega) rfl l W (by omega) HW)
      have HLEN := Lib.hid (show (l ++ pathI tp (tp k)).length ≤ 200 by
        rw [List.length_append]
        have : (pathI tp (tp k)).length ≤ k + 1 := by
          unfold pathI
          split
          · simp
          · exact Nat.le_trans (path_len _ _) (by omega)
        omega)
      rw [HP.out]
      generalize l ++ pathI tp (tp k) = l' at IH HLEN ⊢
      clear ih HP
      obtain ⟨b, off, rfl, hbB, c0, c1⟩ := H.rows k hkn
      have hBw : b < w.heap.size := by have := H.top.lt; have := H.ht; omega
      obtain ⟨i0, hi0, hz0, hz1, hz2⟩ := info_parts int_info
      have q0 : ∀ p : BelowOf w, p.to.cell? ⟨bf, 0, none⟩ = some (.func (.func 64) #[] #[.pointer (some ⟨bf, 0, none⟩), .pointer (some ⟨bt, 0, none⟩), .pointer (some ⟨bp, 0, none⟩)]) := bq_cell H.self.lt (H.self.cell 0)
      have q1 : ∀ p : BelowOf w, p.to.cell? ⟨bt, 0, none⟩ = some (.slice (some ⟨b, off, none⟩) n c) := bq_cell H.top.lt (H.top.cell 0)
      have q2 : ∀ p : BelowOf w, p.to.cell? ⟨b, off + k * 2 + 1, none⟩ = some (.int .i64 (tp k)) := bq_cell hBw c1
      clear H c0 c1
      generalize tp k = u at p1 p2 IH q2
      have hne : ((k : Int) == -1) = false := by rw [beq_eq_false_iff_ne]; omega
      go_enter Try.func64, Try.ntmps64
      go_wp2_with fail
      refine wp_region_below_tail 6 (by kernel_rfl) (by kernel_rfl) ?_
      simp only [List.take_succ_cons, List.take_zero, List.drop_succ_cons, List.drop_zero]
      repeat (go_big_quiet_step (fail))
      refine wpQuiet_nil ?_
      intro w6 hw'
      have HX := Lib.hid (show Below w.heap.size w w6 by obtain ⟨pw, h⟩ := hw'; exact h ▸ pw.h)
      clear hw' q0 q1 q2
      go_wp2_with (first | (go_at_call 64; refine (IH.out w6 (HI.out.later HX.out)).mono ?_; rintro e w7 ⟨rfl, h7, hb7⟩; have H7 := Lib.hid h7; have HB7 := Lib.hid hb7; have hz7 := h7.sz; obtain ⟨v, hv, ho⟩ := h7.out; have HO := Lib.hid ho; have HV := Lib.hid hv; have hvc : w7.cell? ⟨bp, 0, none⟩ = some v := hv.cell 0; have hvf := hv.frozen 0; have hvl := hv.lt; clear h7 hb7 ho hv) | (at_builtin; refine wpList_append_own_at _ rfl (.tmp 14) (.tmp 16) 22 rfl (Bs + 3) 3 i0 (.int .i64 0) 1 8 Try.underlying22 hi0 hz0 hz1 hz2 rfl (by decide) _ _ _ rfl (HO.out.alloc _) ⟨w7.heap.size, 0, none⟩ 1 1 [iv k] rfl rfl ?c1 ?c2 ?c3 ?c4 ?c5 ?_; (case c1 => exact cell_one_new _ _ _); (case c2 => intro u hu; simp at hu; subst hu; rfl); (case c3 => have := HLEN.out; unfold maxLen; omega); (case c4 => have := HLEN.out; omega); (case c5 => simp; omega); intro v8 w8 hown8 hgrow8 hnil8 hat8; obtain ⟨o8, c8, rfl⟩ := own_any hown8; have HPU := Lib.hid (H7.out.push HV.out HO.out hgrow8 hown8); have HV8 := Lib.hid ((HV.out.alloc (.cells #[iv k] 3)).grown hgrow8 (fun e => by have := (HO.out.lt bp e.symm).1; have := HI.out.hp; omega)); have e0 := HV8.out.cell 0; have e1 := HV8.out.frozen 0; have e2 := HV8.out.lt; clear hown8 hgrow8 hnil8 hat8))
      exact bodyPost_ret (v := .tuple #[]) (by simp [results, Try.results64, go_sem]) rfl ⟨rfl, HPU.out.1, ((HX.out.mono (by have := HI.out.sz; omega)).trans HB7.out).trans HPU.out.2⟩

set_option maxRecDepth 100000 in
set_option maxHeartbeats 2000000 in
theorem pathTo_any (o : Option Addr) (n c : Nat) (tn : Nat → ByteArray) (tp : Nat → Int) (hF : Fst tp n) (hn : n ≤ 16) (t : Nat) (ht : t < n) (w : World) (hs : RowT w w.heap.size o n tn tp) :
    Calls Try.prog 45 #[.slice o n c, .int .i64 t] w (NatR (path tp t) w) := by
  have HP := Lib.hid (show pathI tp ((t : Nat) : Int) = path tp t by unfold pathI; rw [if_neg (by omega)]; rfl)
  have CL := Lib.hid (fun W bt bf bp (H : PInv W w.heap.size bt bf bp o n c tn tp []) => climb_any w.heap.size bt bf bp o n c tn tp hF hn _ (t : Int) (by omega) (by omega) rfl [] W (by simp; omega) H)
  rw [HP.out, List.nil_append] at CL
  generalize path tp t = l at CL ⊢
  have HS := Lib.hid hs
  clear hs
  go_enter Try.func45, Try.ntmps45
  go_wp2_with fail
  have HW := Lib.hid (bAl (bAl (bAl (Below.refl w.heap.size w) (.cells #[.slice o n c] 23)) (.cells #[.slice none 0 0] 22)) (.cells #[.func (.func 64) #[] #[.pointer (some ⟨w.heap.size + 1 + 1, 0, none⟩), .pointer (some ⟨w.heap.size, 0, none⟩), .pointer (some ⟨w.heap.size + 1, 0, none⟩)]] 87))
  refine (CL.out _ (w.heap.size) (w.heap.size + 1 + 1) (w.heap.size + 1) ⟨HS.out.below HW.out (Nat.le_refl _), ((Blk.new w _ _).alloc _).alloc _, Blk.newAt (by simp), ⟨.slice none 0 0, (Blk.newAt (by simp)).alloc _, World.ownsRow_nil _ _ _ _⟩, by omega, by omega, by omega, by omega, by simp⟩).mono ?_
  rintro e w7 ⟨rfl, h7, hb7⟩
  obtain ⟨v, hv, ho⟩ := h7.out
  obtain ⟨o8, c8, rfl⟩ := own_any ho
  have hvc : w7.cell? ⟨w.heap.size + 1, 0, none⟩ = some (.slice o8 l.length c8) := hv.cell 0
  have hvl := hv.lt
  have HO := Lib.hid ho
  have HF := Lib.hid (HW.out.trans hb7)
  clear hv ho h7 hb7 HW
  go_wp2_with fail
  go_ret
  exact ⟨_, rfl, ⟨_, HO.out, by omega⟩, HF.out⟩

set_option maxRecDepth 100000 in
set_option maxHeartbeats 2000000 in
/-- the reference's test of one topic above another -/
theorem above_any (p : Ptr) (S : Syl) (hF : Fst S.tp S.nT) (a b : Nat) (hb : b < S.nT) (w : World) (hs : SylIn w w.heap.size p S) (hn : S.nT ≤ 16) :
    Calls Try.prog 47 #[.agg (sylC p S), .int .i64 a, .int .i64 b] w fun e w' => e = .returned (.bool (decide (a ∈ path S.tp b))) ∧ Below w.heap.size w w' := by
  have HD0 := Lib.hid (show decide (a ∈ path S.tp b) = decide (a ∈ pathI S.tp ((b : Nat) : Int)) by unfold pathI; rw [if_neg (by omega)]; rfl)
  generalize decide (a ∈ path S.tp b) = d at HD0 ⊢
  have HS := Lib.hid hs.t
  have HFF := Lib.hid hF
  clear hs hF
  obtain ⟨o1, c1, o2, c2, o3, c3⟩ := p
  obtain ⟨nT, tn, tp, nO, on, nC, cn, cw, cm⟩ := S
  unfold sylC
  dsimp only at HD0 HS HFF hb hn ⊢
  go_enter Try.func47, Try.ntmps47
  go_wp2_with fail
  have P0 : Hid (Blk (w.alloc (.cells #[.slice o1 nT c1, .slice o2 nO c2, .slice o3 nC c3] 27)) w.heap.size 27 #[.slice o1 nT c1, .slice o2 nO c2, .slice o3 nC c3]) := Lib.hid (Blk.newAt rfl)
  have HB := Lib.hid (bAl (Below.refl _ w) (.cells #[.slice o1 nT c1, .slice o2 nO c2, .slice o3 nC c3] 27))
  generalize w.alloc (.cells #[.slice o1 nT c1, .slice o2 nO c2, .slice o3 nC c3] 27) = wc at P0 HB ⊢
  have q0 := P0.out.cell 0
  have ql := P0.out.lt
  go_loopw [2] (fun i wr => ∃ t : Int, i = .int .i64 t ∧ -1 ≤ t ∧ t < (nT : Int) ∧ Hid (d = decide (a ∈ pathI tp t)) ∧ wr = wc) (fun i _ => (intOf i + 1).toNat)
  case atStart => exact ⟨_, rfl, by omega, by omega, HD0, rfl⟩
  case round =>
    obtain ⟨t, rfl, ht0, ht1, HD, rfl⟩ := hrel
    by_cases hneg : t < 0
    · have HF := Lib.hid (show false = d by rw [HD.out]; unfold pathI; rw [if_pos hneg]; rfl)
      have hng : ¬ 0 ≤ t := by omega
      go_wp2_with fail
      exact bodyPost_ret (v := .bool false) (by simp [results, Try.results47, go_sem]) rfl ⟨ret_bool HF.out, HB.out⟩
    · obtain ⟨k, rfl⟩ := Int.eq_ofNat_of_zero_le (show 0 ≤ t by omega)
      have hkn : k < nT := by omega
      have hPE := path_eq HFF.out hkn
      obtain ⟨p1, p2⟩ := HFF.out k hkn
      have hk0 : (0 : Int) ≤ (k : Int) := by omega
      obtain ⟨b', off, rfl, hbB, h0, h1⟩ := HS.out.below HB.out (Nat.le_refl _) k hkn
      by_cases he : a = k
      · subst he
        have HF := Lib.hid (show true = d by rw [HD.out]; unfold pathI; rw [if_neg (by omega)]; exact (decide_eq_true (by simpa using path_self tp a)).symm)
        have hxx : ((a : Int) == (a : Int)) = true := by simp
        clear hPE
        go_wp2_with fail
        exact bodyPost_ret (v := .bool true) (by simp [results, Try.results47, go_sem]) rfl ⟨ret_bool HF.out, HB.out⟩
      · have HN := Lib.hid (show d = decide (a ∈ pathI tp (tp k)) by
          rw [HD.out]
          have e : pathI tp ((k : Nat) : Int) = path tp k := by unfold pathI; rw [if_neg (by omega)]; rfl
          rw [e, hPE, decide_eq_decide]
          simp [he])
        have he' : ((a : Int) == (k : Int)) = false := by rw [beq_eq_false_iff_ne]; omega
        clear hPE he
        generalize tp k = u at h1 HN p1 p2
        go_wp2_with fail
        go_roundw
        case rel => exact ⟨u, rfl, by omega, by omega, HN, trivial⟩
        case measure => simp [intOf]; omega
end Go.Proofs.Ytglikjdgjmijfaa
