/-
  Canonical of the reference.
-/
import Derived.Test.YtdggmnhddoejhaaCounts
import Derived.Test.YtdggmnhddoejhaaCanon
import Derived.Laws.AppendOwnNone
import Derived.IntWalk
namespace Go.Proofs.Ytdggmnhddoejhaa
open Go.RowKit Go.Sort Go.Lib
set_option linter.unusedSimpArgs false
set_option linter.unusedVariables false

theorem grownRefl (w : World) (row : Option Nat) : w.grownBy w row := ⟨rfl, rfl, rfl, Nat.le_refl _, fun _ _ _ => rfl⟩
/-- append of a slice that may be nil -/
theorem wpList_append_row {P : Program} {w : World} {ops : Array Oper} {rest : List Oper} {o : Oper} {a : Act} {Q : Exit → Act → World → Prop} (hgd : o.guard = none) (s x : Operand) (t : TypeId)
    (ho : o.op = .call { callee := .builtin .append, args := #[s, x], argTypes := #[t, t] })
    (base : Nat) (e : TypeId) (i : TypeInfo) (z : Value) (size bytes : Nat) (ht : P.underlying t = some (.slice e)) (hi : P.info? e = some i) (hz : i.zero = some z)
    (hsize : i.size = size) (hby : i.bytes = bytes) (hzs : z.cells.size = size) (hsz : 0 < size)
    (v : Value) (n : Nat) (xs : List Value) (hs : a.eval s = v) (hown : w.ownsRow base e size v n xs)
    (p : Option Addr) (m c : Nat) (news : List Value) (hx : a.eval x = .slice p m c) (hp : p = none → m = 0 ∧ c = 0) (hl : news.length = m * size) (hnews : ∀ ad, p = some ad → ∀ j u, news[j]? = some u → w.cell? (ad.add j) = some u) (h1 : ∀ u ∈ news, u.oneCell' = true)
    (h63 : n + m ≤ maxLen) (hbytes : (n + m) * bytes ≤ 140737488355328) (hbase : base ≤ w.heap.size)
    (h : ∀ v' w', w'.ownsRow base e size v' (n + m) (xs ++ news) → w.grownBy w' v.ownBlock → (v'.ownBlock = v.ownBlock ∨ v'.ownBlock = some w.heap.size) → wpList P ops Q rest (a.put o.dst v') w') :
    wpList P ops Q (o :: rest) a w := by
  rcases p with _ | ad
  · obtain ⟨rfl, rfl⟩ := hp rfl
    have hn : news = [] := List.eq_nil_of_length_eq_zero (by simpa using hl)
    subst hn
    exact wpList_append_own_none hgd s x t ho base e i size ht hi v n xs hs hown hx (h v w (by simpa using hown) (grownRefl w _) (.inl rfl))
  · exact wpList_append_own_at _ hgd s x t ho base e i z size bytes ht hi hz hsize hby hzs hsz v n xs hs hown ad m c news hx hl (hnews ad rfl) h1 h63 hbytes hbase fun v' w' h2 h3 _ h5 => h v' w' h2 h3 h5

/-- the events that count among the first k, in order -/
structure IsPre (L : Nat → St) (C : Nat → Int) (n k : Nat) (zs : List Nat) : Prop where
  mem : ∀ i, i ∈ zs ↔ i < k ∧ cnts L C n i = true
  asc : zs.Pairwise fun i j => stLt (L i) (L j)
theorem IsPre.nil (L : Nat → St) (C : Nat → Int) (n : Nat) : IsPre L C n 0 [] := ⟨by simp, by simp⟩
theorem IsPre.skip {L : Nat → St} {C : Nat → Int} {n k : Nat} {zs : List Nat} (h : IsPre L C n k zs) (hc : cnts L C n k = false) : IsPre L C n (k + 1) zs := by
  refine ⟨fun i => (h.mem i).trans ⟨fun hi => ⟨by omega, hi.2⟩, fun hi => ⟨?_, hi.2⟩⟩, h.asc⟩
  rcases Nat.lt_succ_iff_lt_or_eq.1 hi.1 with h' | h'
  · exact h'
  · rw [h', hc] at hi; cases hi.2
theorem cnts_ne {L : Nat → St} {C : Nat → Int} {n i k : Nat} (hi : cnts L C n i = true) (hk : cnts L C n k = true) (hlt : i < k) (hkn : k < n) : L i ≠ L k := by
  intro e
  rw [cnts_iff] at hi hk
  have := hk.2 i (by omega)
  rw [bars_copy hi.1 hlt e] at this
  cases this
theorem IsPre.ins {L : Nat → St} {C : Nat → Int} {n k a : Nat} {zs : List Nat} (h : IsPre L C n k zs) (hk : k < n) (hc : cnts L C n k = true) (ha : a ≤ zs.length)
    (hup : ∀ j x, a ≤ j → zs[j]? = some x → stLt (L k) (L x)) (hlo : ∀ x, 0 < a → zs[a - 1]? = some x → ¬ stLt (L k) (L x)) : IsPre L C n (k + 1) (zs.take a ++ [k] ++ zs.drop a) := by
  have hsplit : zs = zs.take a ++ zs.drop a := (List.take_append_drop a zs).symm
  have hlow : ∀ x ∈ zs.take a, stLt (L x) (L k) := by
    intro x hx
    obtain ⟨j, hj, rfl⟩ := List.getElem_of_mem hx
    rw [List.length_take] at hj
    have hja : j < a := by omega
    have hjz : j < zs.length := by omega
    rw [List.getElem_take]
    have hy : zs[a - 1]? = some zs[a - 1] := List.getElem?_eq_getElem (by omega)
    have hnl := hlo _ (by omega) hy
    have hym := (h.mem zs[a - 1]).1 (List.getElem_mem _)
    have hyk : stLt (L zs[a - 1]) (L k) := by
      rcases stLt_tri (L zs[a - 1]) (L k) with g | g | g
      · exact g
      · exact absurd g (cnts_ne hym.2 hc hym.1 hk)
      · exact absurd g hnl
    rcases Nat.lt_or_ge j (a - 1) with g | g
    · exact stLt_trans (List.pairwise_iff_getElem.1 h.asc j (a - 1) hjz (by omega) g) hyk
    · have : j = a - 1 := by omega
      subst this; exact hyk
  have hhigh : ∀ x ∈ zs.drop a, stLt (L k) (L x) := by
    intro x hx
    obtain ⟨j, hj, rfl⟩ := List.getElem_of_mem hx
    rw [List.length_drop] at hj
    rw [List.getElem_drop]
    exact hup (a + j) _ (by omega) (List.getElem?_eq_getElem (by omega))
  have hasc := h.asc
  rw [hsplit, List.pairwise_append] at hasc
  refine ⟨fun i => ?_, ?_⟩
  · have hm := h.mem i
    rw [hsplit, List.mem_append] at hm
    simp only [List.mem_append, List.mem_singleton]
    constructor
    · rintro ((hi | rfl) | hi)
      · have := hm.1 (.inl hi); exact ⟨by omega, this.2⟩
      · exact ⟨by omega, hc⟩
      · have := hm.1 (.inr hi); exact ⟨by omega, this.2⟩
    · rintro ⟨hi, hci⟩
      rcases Nat.lt_succ_iff_lt_or_eq.1 hi with g | g
      · rcases hm.2 ⟨g, hci⟩ with g | g
        · exact .inl (.inl g)
        · exact .inr g
      · exact .inl (.inr g)
  · rw [List.pairwise_append, List.pairwise_append]
    refine ⟨⟨hasc.1, by simp, fun x hx y hy => ?_⟩, hasc.2.1, fun x hx y hy => ?_⟩
    · simp only [List.mem_singleton] at hy; subst hy; exact hlow x hx
    · simp only [List.mem_append, List.mem_singleton] at hx
      rcases hx with hx | rfl
      · exact hasc.2.2 x hx y hy
      · exact hhigh y hy
theorem own_base {w : World} {B B' : Nat} {e : TypeId} {size n : Nat} {v : Value} {xs : List Value} (h : w.ownsRow B' e size v n xs) (hB : B ≤ B') : w.ownsRow B e size v n xs := by
  rcases h with ⟨h0, h | ⟨g, cap, cur, h1, h2, h3⟩⟩
  · exact ⟨h0, .inl h⟩
  · exact ⟨h0, .inr ⟨g, cap, cur, h1, by omega, h3⟩⟩
theorem take_get {zs : List Nat} {a j : Nat} {u : Value} (h : ((zs.take a).map iv)[j]? = some u) : (zs.map iv)[j]? = some u := by
  rw [List.getElem?_map] at h ⊢
  rw [List.getElem?_take] at h
  split at h
  · exact h
  · cases h
theorem drop_get {zs : List Nat} {a j : Nat} {u : Value} (h : ((zs.drop a).map iv)[j]? = some u) : (zs.map iv)[a + j]? = some u := by
  rw [List.getElem?_map] at h ⊢
  rw [List.getElem?_drop] at h
  exact h
theorem iv_one {l : List Nat} : ∀ u ∈ l.map iv, u.oneCell' = true := by
  intro u hu
  obtain ⟨x, _, rfl⟩ := List.mem_map.1 hu
  rfl
theorem src_get {w5 w7 : World} {B q n cap a j : Nat} {zs : List Nat} {u : Value} (h : w5.ownsRow B 3 1 (.slice (some ⟨q, 0, none⟩) n cap) n (zs.map iv)) (hb : RowKit.Below w5.heap.size w5 w7) (hql : q < w5.heap.size) (hu : ((zs.drop a).map iv)[j]? = some u) : w7.cell? ((⟨q, a, none⟩ : Addr).add j) = some u := by
  have h1 := drop_get hu
  have hl : (zs.map iv).length = n := by have := h.1; simpa using this
  have hlt : a + j < n := by
    rcases Nat.lt_or_ge (a + j) n with g | g
    · exact g
    · rw [List.getElem?_eq_none (by omega)] at h1; cases h1
  have e : (⟨q, a, none⟩ : Addr).add j = ⟨q, a + j, none⟩ := by
    unfold Addr.add
    split
    · rename_i hj; rw [hj]; rfl
    · rfl
  rw [e, hb.cell (p := ⟨q, a + j, none⟩) hql, h.cellAt (a + j) (by omega), h1]
theorem drop_nil' {zs : List Nat} {a j : Nat} {u : Value} (h : zs.length ≤ a) (hu : ((zs.drop a).map iv)[j]? = some u) : False := by
  rw [List.drop_eq_nil_of_le h] at hu; simp at hu
theorem own_cast {w : World} {B size n n' : Nat} {e : TypeId} {v : Value} {xs xs' : List Value} (h : w.ownsRow B e size v n xs) (hn : n = n') (hx : xs = xs') : w.ownsRow B e size v n' xs' := by subst hn; subst hx; exact h
theorem cmp3_gt (x y : St) : 0 < cmp3 x y ↔ stLt y x := by
  have h1 := cmp3_lt x y; have h2 := cmp3_eq x y
  rcases stLt_tri x y with h | h | h
  · have := h1.2 h
    exact ⟨fun g => by omega, fun g => absurd (stLt_trans h g) (stLt_irr _)⟩
  · have := h2.2 h
    exact ⟨fun g => by omega, fun g => by rw [h] at g; exact absurd g (stLt_irr _)⟩
  · refine ⟨fun _ => h, fun _ => ?_⟩
    have a1 : ¬ cmp3 x y < 0 := fun g => stLt_irr _ (stLt_trans (h1.1 g) h)
    have a2 : ¬ cmp3 x y = 0 := fun g => by rw [h2.1 g] at h; exact stLt_irr _ h
    omega
def PAt (L : Nat → St) (C : Nat → Int) (n : Nat) (w0 : World) (v6 i : Value) (wr : World) : Prop :=
  ∃ (k : Nat) (zs : List Nat), i = .int .i64 k ∧ k ≤ n ∧ IsPre L C n k zs ∧ zs.length ≤ k ∧ wr.ownsRow w0.heap.size 3 1 v6 zs.length (zs.map iv) ∧ RowKit.Below w0.heap.size w0 wr

set_option maxHeartbeats 400000 in
theorem rcanon_bad (o o' : Option Addr) (n n' c c' : Nat) (w : World) (hne : n' ≠ n) :
    Calls Try.prog 21 #[.slice o n c, .slice o' n' c'] w fun e w' => e = .returned (.tuple #[.slice none 0 0, .int .i64 1]) ∧ w = w' := by
  have h1 : (((n' : Nat) : Int) != (n : Int)) = true := by rw [bne_iff_ne]; omega
  go_enter Try.func21, Try.ntmps21
  go_wp2
  go_ret2
  exact ⟨rfl, rfl⟩

set_option maxHeartbeats 4000000 in
theorem rcanon_any (o o' : Option Addr) (n c c' : Nat) (L : Nat → St) (C : Nat → Int) (w : World) (hs : RowS w w.heap.size o n L) (hC : RowI w w.heap.size o' n C) (hn : n ≤ 1000000) :
    Calls Try.prog 21 #[.slice o n c, .slice o' n c'] w (CanonR L C n w) := by
  obtain ⟨i0, hi0, hz0, hz1, hz2⟩ := info_parts int_info
  have h1 : (((n : Nat) : Int) != (n : Int)) = false := by simp
  have mixed : Try.prog.follows .mixedOrders = true := by kernel_rfl
  have HS := Lib.hid hs
  have HC := Lib.hid hC
  clear hs hC
  go_enter Try.func21, Try.ntmps21
  go_wp2_with fail
  go_loopw [6, 7] (fun v6 i wr => PAt L C n w v6 i wr) (fun _ i _ => n - (intOf i).toNat)
  case atStart => exact ⟨0, [], rfl, Nat.zero_le _, IsPre.nil L C n, Nat.le_refl _, World.ownsRow_nil _ _ _ _, RowKit.Below.refl _ _⟩
  case round =>
    obtain ⟨k, zs, rfl, hk, hpre, hzk, hown, hb⟩ := hrel
    have HP := Lib.hid hpre
    have HO := Lib.hid hown
    have HB := Lib.hid hb
    clear hpre hown hb
    by_cases hkn : k < n
    · have hkn' : (k : Int) < n := by omega
      have HRS := Lib.hid (HS.out.below HB.out (Nat.le_refl _))
      have HRC := Lib.hid (HC.out.below HB.out (Nat.le_refl _))
      cases hc : cnts L C n k
      · have HX := Lib.hid (HP.out.skip hc)
        go_wp2_with (go_at_call 43; refine (ref_counts _ _ _ _ _ _ _ L C k _ HRS.out HRC.out HB.out.size HB.out.size hn hkn).mono ?_; rintro e w1 ⟨rfl, hb⟩; have HB1 := Lib.hid hb; clear hb)
        go_roundw
        case rel => exact ⟨k + 1, zs, by go_num, by omega, HX.out, by omega, own_later HO.out HB1.out.below, HB.out.trans (HB1.out.below.mono HB.out.size)⟩
        case measure => simp [intOf]; omega
      · have HCK := Lib.hid hc
        obtain ⟨p, cap, hv6, hcells⟩ := own_form HO.out
        subst hv6
        have HCE := Lib.hid hcells
        clear hcells
        go_wp2_with (go_at_call 43; refine (ref_counts _ _ _ _ _ _ _ L C k _ HRS.out HRC.out HB.out.size HB.out.size hn hkn).mono ?_; rintro e w1 ⟨rfl, hb⟩; have HB1 := Lib.hid hb; clear hb)
        go_loopw [8] (fun v wr' => ∃ a : Nat, v = .int .i64 a ∧ a ≤ zs.length ∧ Hid (∀ j x, a ≤ j → zs[j]? = some x → stLt (L k) (L x)) ∧ Gro w1 wr') (fun v _ => (intOf v).toNat)
        case atStart => exact ⟨zs.length, rfl, Nat.le_refl _, (fun j x hj hx => by rw [List.getElem?_eq_none hj] at hx; cases hx), Gro.refl _⟩
        case round =>
          obtain ⟨a, rfl, ha, hup, hg⟩ := hrel
          obtain ⟨wr', hwr'⟩ : ∃ wr' : World, wr' = wr := ⟨_, rfl⟩
          subst hwr'
          have HG := Lib.hid hg
          have hlt := HG.out.size
          clear hg
          by_cases ha0 : a = 0
          · have HLO := Lib.hid (show ∀ x, 0 < a → zs[a - 1]? = some x → ¬ stLt (L k) (L x) from fun _ h => absurd h (by omega))
            have hg0 : decide (0 < (a : Int)) = false := decide_eq_false (by omega)
            have hg1 : decide (0 < a) = false := decide_eq_false (by omega)
            clear ha0
            go_wp2_with fail
            refine wp_region_quiet_grown mixed (by kernel_rfl) ?_
            repeat (go_big_quiet_step (fail))
            refine wpQuiet_nil ?_
            intro w5 hw'
            have HG5 := Lib.hid (show Gro wr' w5 by obtain ⟨pp, h⟩ := hw'; exact ⟨pp.n, pp.os, h⟩)
            clear hw'
            have HO5 := Lib.hid (own_later (own_later HO.out HB1.out.below) (HG.out.trans HG5.out).below)
            rcases own_form2 HO5.out with ⟨rfl, hz, hcz⟩ | ⟨q, rfl, hzc, hcm, hqB, hql⟩
            · obtain rfl : zs = [] := List.length_eq_zero_iff.1 hz
              subst hcz
              obtain rfl : a = 0 := by simpa using ha
              go_wp2_with (first | (at_builtin; refine wpList_append_own_at _ rfl (.tmp 53) (.tmp 55) 28 rfl w5.heap.size 3 i0 (.int .i64 0) 1 8 Try.underlying28 hi0 hz0 hz1 hz2 rfl (by decide) (.slice none 0 0) 0 [] rfl ((World.ownsRow_nil _ _ _ _).alloc _) ⟨w5.heap.size, 0, none⟩ 1 1 [iv k] rfl rfl ?d1 ?d2 ?d3 ?d4 ?d5 ?_; (case d1 => exact cell_one_new _ _ _); (case d2 => intro u hu; simp at hu; subst hu; rfl); (case d3 => unfold maxLen; omega); (case d4 => omega); (case d5 => simp); intro v2 w7 hown7 hgrow7 hnil7 hat7; have H7 := Lib.hid (And.intro hown7 hgrow7); clear hown7 hgrow7 hnil7 hat7) | (at_builtin; refine wpList_append_own_none rfl (.tmp 57) (.tmp 60) 28 rfl w5.heap.size 3 i0 1 Try.underlying28 hi0 _ _ _ rfl H7.out.1 rfl ?_))
              go_roundw
              case rel => exact ⟨k + 1, [k], by go_num, by omega, by have := HP.out.ins hkn HCK.out (Nat.zero_le _) hup HLO.out; simpa using this, by simp, own_base (own_cast H7.out.1 (by simp) (by simp)) (Nat.le_trans HB.out.size (Nat.le_trans HB1.out.size (Nat.le_trans HG.out.size HG5.out.size))), ((HB.out.trans ((HB1.out.trans (HG.out.trans HG5.out)).below.mono HB.out.size)).alloc (Nat.le_trans HB.out.size (Nat.le_trans HB1.out.size (Nat.le_trans HG.out.size HG5.out.size))) _).grown H7.out.2 (by have h1 := HB.out.size; have h2 := HB1.out.size; have h3 := HG.out.size; have h4 := HG5.out.size; simp; omega) (fun j hj => by simp [Value.ownBlock] at hj)⟩
              case measure => simp [intOf]; omega
            · have hac : a ≤ cap := by omega
              have hac1 : (a : Int) ≤ (cap : Int) := by omega
              have haz : (a : Int) ≤ (zs.length : Int) := by omega
              have HZ := Lib.hid (show zs.length ≤ 1000000 by omega)
              by_cases hca : cap = a
              · obtain rfl : a = cap := hca.symm
                have HDR := Lib.hid (show zs.drop a = [] from List.drop_eq_nil_of_le hzc)
                go_wp2_with (first | (at_builtin; refine wpList_append_row rfl (.tmp 48) (.tmp 51) 28 rfl w5.heap.size 3 i0 (.int .i64 0) 1 8 Try.underlying28 hi0 hz0 hz1 hz2 rfl (by decide) (.slice none 0 0) 0 [] rfl (World.ownsRow_nil _ _ _ _) _ a _ ((zs.take a).map iv) rfl ?c1 ?c2 ?c3 ?c4 ?c5 ?c6 ?c7 ?_; (case c1 => intro h; cases h); (case c2 => simp; omega); (case c3 => intro ad had j u hu; cases had; exact HO5.out.cells (g := q) rfl j u (take_get hu)); (case c4 => exact iv_one); (case c5 => have := HZ.out; unfold maxLen; omega); (case c6 => have := HZ.out; omega); (case c7 => exact Nat.le_refl _); intro v1 w6 hown6 hgrow6 hat6; have H6 := Lib.hid (And.intro hown6 hgrow6); clear hown6 hgrow6 hat6) | (at_builtin; refine wpList_append_own_at _ rfl (.tmp 53) (.tmp 55) 28 rfl w5.heap.size 3 i0 (.int .i64 0) 1 8 Try.underlying28 hi0 hz0 hz1 hz2 rfl (by decide) _ _ _ rfl (H6.out.1.alloc _) ⟨w6.heap.size, 0, none⟩ 1 1 [iv k] rfl rfl ?d1 ?d2 ?d3 ?d4 ?d5 ?_; (case d1 => exact cell_one_new _ _ _); (case d2 => intro u hu; simp at hu; subst hu; rfl); (case d3 => have := HZ.out; unfold maxLen; omega); (case d4 => have := HZ.out; omega); (case d5 => have := H6.out.2.size; simp; omega); intro v2 w7 hown7 hgrow7 hnil7 hat7; have H7 := Lib.hid (And.intro hown7 hgrow7); have HB7 := Lib.hid ((((RowKit.Below.refl w5.heap.size w5).grown H6.out.2 (Nat.le_refl _) (by simp [Value.ownBlock])).alloc H6.out.2.size _).grown hgrow7 (by have := H6.out.2.size; simp; omega) (fun j hj => (H6.out.1.lt j hj).1)); clear hown7 hgrow7 hnil7 hat7) | (at_builtin; refine wpList_append_row rfl (.tmp 57) (.tmp 60) 28 rfl w5.heap.size 3 i0 (.int .i64 0) 1 8 Try.underlying28 hi0 hz0 hz1 hz2 rfl (by decide) _ _ _ rfl H7.out.1 _ 0 _ [] rfl ?e1 ?e2 ?e3 ?e4 ?e5 ?e6 ?e7 ?_; (case e1 => intro h; cases h); (case e2 => rfl); (case e3 => intro ad had j u hu; simp at hu); (case e4 => intro u hu; simp at hu); (case e5 => have := HZ.out; unfold maxLen; omega); (case e6 => have := HZ.out; omega); (case e7 => exact HB7.out.size); intro v3 w8 hown8 hgrow8 hat8; have H8 := Lib.hid (And.intro hown8 hgrow8); clear hown8 hgrow8 hat8))
                go_roundw
                case rel => exact ⟨k + 1, zs.take a ++ [k] ++ zs.drop a, by go_num, by omega, HP.out.ins hkn HCK.out ha hup HLO.out, by simp; omega, own_base (own_cast H8.out.1 (by rw [HDR.out]; simp; omega) (by rw [HDR.out]; simp)) (Nat.le_trans HB.out.size (Nat.le_trans HB1.out.size (Nat.le_trans HG.out.size HG5.out.size))), (HB.out.trans (((HB1.out.trans (HG.out.trans HG5.out)).below.mono HB.out.size).trans (HB7.out.mono (Nat.le_trans HB.out.size (Nat.le_trans HB1.out.size (Nat.le_trans HG.out.size HG5.out.size)))))).grown H8.out.2 (by have := HB7.out.size; have h1 := HB.out.size; have h2 := HB1.out.size; have h3 := HG.out.size; have h4 := HG5.out.size; omega) (fun j hj => by have := (H7.out.1.lt j hj).1; have h1 := HB.out.size; have h2 := HB1.out.size; have h3 := HG.out.size; have h4 := HG5.out.size; omega)⟩
                case measure => simp [intOf]; omega
              · go_wp2_with (first | (at_builtin; refine wpList_append_row rfl (.tmp 48) (.tmp 51) 28 rfl w5.heap.size 3 i0 (.int .i64 0) 1 8 Try.underlying28 hi0 hz0 hz1 hz2 rfl (by decide) (.slice none 0 0) 0 [] rfl (World.ownsRow_nil _ _ _ _) _ a _ ((zs.take a).map iv) rfl ?c1 ?c2 ?c3 ?c4 ?c5 ?c6 ?c7 ?_; (case c1 => intro h; cases h); (case c2 => simp; omega); (case c3 => intro ad had j u hu; cases had; exact HO5.out.cells (g := q) rfl j u (take_get hu)); (case c4 => exact iv_one); (case c5 => have := HZ.out; unfold maxLen; omega); (case c6 => have := HZ.out; omega); (case c7 => exact Nat.le_refl _); intro v1 w6 hown6 hgrow6 hat6; have H6 := Lib.hid (And.intro hown6 hgrow6); clear hown6 hgrow6 hat6) | (at_builtin; refine wpList_append_own_at _ rfl (.tmp 53) (.tmp 55) 28 rfl w5.heap.size 3 i0 (.int .i64 0) 1 8 Try.underlying28 hi0 hz0 hz1 hz2 rfl (by decide) _ _ _ rfl (H6.out.1.alloc _) ⟨w6.heap.size, 0, none⟩ 1 1 [iv k] rfl rfl ?d1 ?d2 ?d3 ?d4 ?d5 ?_; (case d1 => exact cell_one_new _ _ _); (case d2 => intro u hu; simp at hu; subst hu; rfl); (case d3 => have := HZ.out; unfold maxLen; omega); (case d4 => have := HZ.out; omega); (case d5 => have := H6.out.2.size; simp; omega); intro v2 w7 hown7 hgrow7 hnil7 hat7; have H7 := Lib.hid (And.intro hown7 hgrow7); have HB7 := Lib.hid ((((RowKit.Below.refl w5.heap.size w5).grown H6.out.2 (Nat.le_refl _) (by simp [Value.ownBlock])).alloc H6.out.2.size _).grown hgrow7 (by have := H6.out.2.size; simp; omega) (fun j hj => (H6.out.1.lt j hj).1)); clear hown7 hgrow7 hnil7 hat7) | (at_builtin; refine wpList_append_row rfl (.tmp 57) (.tmp 60) 28 rfl w5.heap.size 3 i0 (.int .i64 0) 1 8 Try.underlying28 hi0 hz0 hz1 hz2 rfl (by decide) _ _ _ rfl H7.out.1 _ (zs.length - a) _ ((zs.drop a).map iv) rfl ?e1 ?e2 ?e3 ?e4 ?e5 ?e6 ?e7 ?_; (case e1 => intro h; cases h); (case e2 => simp); (case e3 => intro ad had j u hu; cases had; exact src_get HO5.out HB7.out hql hu); (case e4 => exact iv_one); (case e5 => have := HZ.out; unfold maxLen; omega); (case e6 => have := HZ.out; omega); (case e7 => exact HB7.out.size); intro v3 w8 hown8 hgrow8 hat8; have H8 := Lib.hid (And.intro hown8 hgrow8); clear hown8 hgrow8 hat8))
                go_roundw
                case rel => exact ⟨k + 1, zs.take a ++ [k] ++ zs.drop a, by go_num, by omega, HP.out.ins hkn HCK.out ha hup HLO.out, by simp; omega, own_base (own_cast H8.out.1 (by simp; omega) (by simp)) (Nat.le_trans HB.out.size (Nat.le_trans HB1.out.size (Nat.le_trans HG.out.size HG5.out.size))), (HB.out.trans (((HB1.out.trans (HG.out.trans HG5.out)).below.mono HB.out.size).trans (HB7.out.mono (Nat.le_trans HB.out.size (Nat.le_trans HB1.out.size (Nat.le_trans HG.out.size HG5.out.size)))))).grown H8.out.2 (by have := HB7.out.size; have h1 := HB.out.size; have h2 := HB1.out.size; have h3 := HG.out.size; have h4 := HG5.out.size; omega) (fun j hj => by have := (H7.out.1.lt j hj).1; have h1 := HB.out.size; have h2 := HB1.out.size; have h3 := HG.out.size; have h4 := HG5.out.size; omega)⟩
                case measure => simp [intOf]; omega
          · have hap : 0 < a := by omega
            have hg0 : decide (0 < (a : Int)) = true := decide_eq_true (by omega)
            have hg1 : decide (0 < a) = true := decide_eq_true (by omega)
            have HOW := Lib.hid (own_later (own_later HO.out HB1.out.below) HG.out.below)
            obtain ⟨x, hx⟩ : ∃ x, zs[a - 1]? = some x := ⟨_, List.getElem?_eq_getElem (by omega)⟩
            obtain ⟨q, rfl, hqB, hql0, hcx0⟩ := HCE.out (a - 1) x hx
            have hql : q < wr'.heap.size := Nat.lt_of_lt_of_le hql0 (Nat.le_trans HB1.out.size HG.out.size)
            have hxn : x < n := by have := (HP.out.mem x).1 (List.mem_of_getElem? hx); omega
            have hxi : (x : Int) < (n : Int) := by omega
            have HXX := Lib.hid hx
            have hbw := (HB1.out.trans HG.out).below
            have hcx := (hbw.cell (p := ⟨q, a - 1, none⟩) hql0).trans hcx0
            obtain ⟨b, off, rfl, hbB, a0, a1, a2⟩ := (HRS.out.below hbw HB.out.size) k hkn
            obtain ⟨b', off', hbb, _, d0, d1, d2⟩ := (HRS.out.below hbw HB.out.size) x hxn
            injection hbb with hbb
            injection hbb with e1 e2
            subst e1; subst e2
            have hzb : b < wr'.heap.size := by have h1 := HB.out.size; have h2 := HB1.out.size; have h3 := HG.out.size; omega
            have hcx := cell_grown (by simpa using hql) hcx
            have a0 := cell_grown (by simpa using hzb) a0
            have a1 := cell_grown (by simpa using hzb) a1
            have a2 := cell_grown (by simpa using hzb) a2
            have d0 := cell_grown (by simpa using hzb) d0
            have d1 := cell_grown (by simpa using hzb) d1
            have d2 := cell_grown (by simpa using hzb) d2
            have q1 : IntKind.i64.wrap ((a : Int) - 1) = (a : Int) - 1 := IntWalk.i64_in _ (by omega)
            have q2 : (0 : Int) ≤ (a : Int) - 1 := by omega
            have q3 : (1 : Int) ≤ (a : Int) := by omega
            have q4 : (a : Int) - 1 < zs.length := by omega
            have q5 : ((a : Int) - 1).toNat = a - 1 := by omega
            clear hcx0 hbw hx hlt ha0
            by_cases hst : stLt (L k) (L x)
            · have hcv : decide (0 < cmp3 ((L x).1, (L x).2.1, (L x).2.2) ((L k).1, (L k).2.1, (L k).2.2)) = true := decide_eq_true ((cmp3_gt (L x) (L k)).2 hst)
              have HUP := Lib.hid (show ∀ j y, a - 1 ≤ j → zs[j]? = some y → stLt (L k) (L y) from fun j y hj hy => by
                rcases Nat.lt_or_ge j a with g | g
                · have : j = a - 1 := by omega
                  rw [this, HXX.out] at hy; cases hy; exact hst
                · exact hup j y g hy)
              clear hst
              go_wp2_with fail
              refine wp_region_quiet_grown mixed (by kernel_rfl) ?_
              repeat (go_big_quiet_step ((go_at_call 15; exact Calls.grown_of (ref_compare _ _ _ _ _ _ _))))
              refine wpQuiet_nil ?_
              intro w5 hw'
              have HG5 := Lib.hid (show Gro wr' w5 by obtain ⟨pp, h⟩ := hw'; exact ⟨pp.n, pp.os, h⟩)
              clear hw' a0 a1 a2 d0 d1 d2 hcx q1 q2 q4 q5
              go_wp2
              go_roundw
              case rel => exact ⟨a - 1, by go_num, by omega, HUP.out, HG.out.trans HG5.out⟩
              case measure => simp [intOf]; omega
            · have hcv : decide (0 < cmp3 ((L x).1, (L x).2.1, (L x).2.2) ((L k).1, (L k).2.1, (L k).2.2)) = false := decide_eq_false (fun h => hst ((cmp3_gt (L x) (L k)).1 h))
              have HLO := Lib.hid (show ∀ y, 0 < a → zs[a - 1]? = some y → ¬ stLt (L k) (L y) from fun y _ hy => by rw [HXX.out] at hy; cases hy; exact hst)
              clear hst
              go_wp2_with fail
              refine wp_region_quiet_grown mixed (by kernel_rfl) ?_
              repeat (go_big_quiet_step ((go_at_call 15; exact Calls.grown_of (ref_compare _ _ _ _ _ _ _))))
              refine wpQuiet_nil ?_
              intro w5 hw'
              have HG5 := Lib.hid (show Gro wr' w5 by obtain ⟨pp, h⟩ := hw'; exact ⟨pp.n, pp.os, h⟩)
              clear hw' a0 a1 a2 d0 d1 d2 hcx q1 q2 q4 q5 HOW
              have HO5 := Lib.hid (own_later (own_later HO.out HB1.out.below) (HG.out.trans HG5.out).below)
              rcases own_form2 HO5.out with ⟨hno, hz, hcz⟩ | ⟨q2', hq2, hzc, hcm, hqB, hql⟩
              · cases hno
              · injection hq2 with hq2
                injection hq2 with hq2
                subst hq2
                have hac : a ≤ cap := by omega
                have hac1 : (a : Int) ≤ (cap : Int) := by omega
                have haz : (a : Int) ≤ (zs.length : Int) := by omega
                have HZ := Lib.hid (show zs.length ≤ 1000000 by omega)
                by_cases hca : cap = a
                · obtain rfl : a = cap := hca.symm
                  have HDR := Lib.hid (show zs.drop a = [] from List.drop_eq_nil_of_le hzc)
                  go_wp2_with (first | (at_builtin; refine wpList_append_row rfl (.tmp 48) (.tmp 51) 28 rfl w5.heap.size 3 i0 (.int .i64 0) 1 8 Try.underlying28 hi0 hz0 hz1 hz2 rfl (by decide) (.slice none 0 0) 0 [] rfl (World.ownsRow_nil _ _ _ _) _ a _ ((zs.take a).map iv) rfl ?c1 ?c2 ?c3 ?c4 ?c5 ?c6 ?c7 ?_; (case c1 => intro h; cases h); (case c2 => simp; omega); (case c3 => intro ad had j u hu; cases had; exact HO5.out.cells (g := q) rfl j u (take_get hu)); (case c4 => exact iv_one); (case c5 => have := HZ.out; unfold maxLen; omega); (case c6 => have := HZ.out; omega); (case c7 => exact Nat.le_refl _); intro v1 w6 hown6 hgrow6 hat6; have H6 := Lib.hid (And.intro hown6 hgrow6); clear hown6 hgrow6 hat6) | (at_builtin; refine wpList_append_own_at _ rfl (.tmp 53) (.tmp 55) 28 rfl w5.heap.size 3 i0 (.int .i64 0) 1 8 Try.underlying28 hi0 hz0 hz1 hz2 rfl (by decide) _ _ _ rfl (H6.out.1.alloc _) ⟨w6.heap.size, 0, none⟩ 1 1 [iv k] rfl rfl ?d1 ?d2 ?d3 ?d4 ?d5 ?_; (case d1 => exact cell_one_new _ _ _); (case d2 => intro u hu; simp at hu; subst hu; rfl); (case d3 => have := HZ.out; unfold maxLen; omega); (case d4 => have := HZ.out; omega); (case d5 => have := H6.out.2.size; simp; omega); intro v2 w7 hown7 hgrow7 hnil7 hat7; have H7 := Lib.hid (And.intro hown7 hgrow7); have HB7 := Lib.hid ((((RowKit.Below.refl w5.heap.size w5).grown H6.out.2 (Nat.le_refl _) (by simp [Value.ownBlock])).alloc H6.out.2.size _).grown hgrow7 (by have := H6.out.2.size; simp; omega) (fun j hj => (H6.out.1.lt j hj).1)); clear hown7 hgrow7 hnil7 hat7) | (at_builtin; refine wpList_append_row rfl (.tmp 57) (.tmp 60) 28 rfl w5.heap.size 3 i0 (.int .i64 0) 1 8 Try.underlying28 hi0 hz0 hz1 hz2 rfl (by decide) _ _ _ rfl H7.out.1 _ 0 _ [] rfl ?e1 ?e2 ?e3 ?e4 ?e5 ?e6 ?e7 ?_; (case e1 => intro h; cases h); (case e2 => rfl); (case e3 => intro ad had j u hu; simp at hu); (case e4 => intro u hu; simp at hu); (case e5 => have := HZ.out; unfold maxLen; omega); (case e6 => have := HZ.out; omega); (case e7 => exact HB7.out.size); intro v3 w8 hown8 hgrow8 hat8; have H8 := Lib.hid (And.intro hown8 hgrow8); clear hown8 hgrow8 hat8))
                  go_roundw
                  case rel => exact ⟨k + 1, zs.take a ++ [k] ++ zs.drop a, by go_num, by omega, HP.out.ins hkn HCK.out ha hup HLO.out, by simp; omega, own_base (own_cast H8.out.1 (by rw [HDR.out]; simp; omega) (by rw [HDR.out]; simp)) (Nat.le_trans HB.out.size (Nat.le_trans HB1.out.size (Nat.le_trans HG.out.size HG5.out.size))), (HB.out.trans (((HB1.out.trans (HG.out.trans HG5.out)).below.mono HB.out.size).trans (HB7.out.mono (Nat.le_trans HB.out.size (Nat.le_trans HB1.out.size (Nat.le_trans HG.out.size HG5.out.size)))))).grown H8.out.2 (by have := HB7.out.size; have h1 := HB.out.size; have h2 := HB1.out.size; have h3 := HG.out.size; have h4 := HG5.out.size; omega) (fun j hj => by have := (H7.out.1.lt j hj).1; have h1 := HB.out.size; have h2 := HB1.out.size; have h3 := HG.out.size; have h4 := HG5.out.size; omega)⟩
                  case measure => simp [intOf]; omega
                · go_wp2_with (first | (at_builtin; refine wpList_append_row rfl (.tmp 48) (.tmp 51) 28 rfl w5.heap.size 3 i0 (.int .i64 0) 1 8 Try.underlying28 hi0 hz0 hz1 hz2 rfl (by decide) (.slice none 0 0) 0 [] rfl (World.ownsRow_nil _ _ _ _) _ a _ ((zs.take a).map iv) rfl ?c1 ?c2 ?c3 ?c4 ?c5 ?c6 ?c7 ?_; (case c1 => intro h; cases h); (case c2 => simp; omega); (case c3 => intro ad had j u hu; cases had; exact HO5.out.cells (g := q) rfl j u (take_get hu)); (case c4 => exact iv_one); (case c5 => have := HZ.out; unfold maxLen; omega); (case c6 => have := HZ.out; omega); (case c7 => exact Nat.le_refl _); intro v1 w6 hown6 hgrow6 hat6; have H6 := Lib.hid (And.intro hown6 hgrow6); clear hown6 hgrow6 hat6) | (at_builtin; refine wpList_append_own_at _ rfl (.tmp 53) (.tmp 55) 28 rfl w5.heap.size 3 i0 (.int .i64 0) 1 8 Try.underlying28 hi0 hz0 hz1 hz2 rfl (by decide) _ _ _ rfl (H6.out.1.alloc _) ⟨w6.heap.size, 0, none⟩ 1 1 [iv k] rfl rfl ?d1 ?d2 ?d3 ?d4 ?d5 ?_; (case d1 => exact cell_one_new _ _ _); (case d2 => intro u hu; simp at hu; subst hu; rfl); (case d3 => have := HZ.out; unfold maxLen; omega); (case d4 => have := HZ.out; omega); (case d5 => have := H6.out.2.size; simp; omega); intro v2 w7 hown7 hgrow7 hnil7 hat7; have H7 := Lib.hid (And.intro hown7 hgrow7); have HB7 := Lib.hid ((((RowKit.Below.refl w5.heap.size w5).grown H6.out.2 (Nat.le_refl _) (by simp [Value.ownBlock])).alloc H6.out.2.size _).grown hgrow7 (by have := H6.out.2.size; simp; omega) (fun j hj => (H6.out.1.lt j hj).1)); clear hown7 hgrow7 hnil7 hat7) | (at_builtin; refine wpList_append_row rfl (.tmp 57) (.tmp 60) 28 rfl w5.heap.size 3 i0 (.int .i64 0) 1 8 Try.underlying28 hi0 hz0 hz1 hz2 rfl (by decide) _ _ _ rfl H7.out.1 _ (zs.length - a) _ ((zs.drop a).map iv) rfl ?e1 ?e2 ?e3 ?e4 ?e5 ?e6 ?e7 ?_; (case e1 => intro h; cases h); (case e2 => simp); (case e3 => intro ad had j u hu; cases had; exact src_get HO5.out HB7.out hql hu); (case e4 => exact iv_one); (case e5 => have := HZ.out; unfold maxLen; omega); (case e6 => have := HZ.out; omega); (case e7 => exact HB7.out.size); intro v3 w8 hown8 hgrow8 hat8; have H8 := Lib.hid (And.intro hown8 hgrow8); clear hown8 hgrow8 hat8))
                  go_roundw
                  case rel => exact ⟨k + 1, zs.take a ++ [k] ++ zs.drop a, by go_num, by omega, HP.out.ins hkn HCK.out ha hup HLO.out, by simp; omega, own_base (own_cast H8.out.1 (by simp; omega) (by simp)) (Nat.le_trans HB.out.size (Nat.le_trans HB1.out.size (Nat.le_trans HG.out.size HG5.out.size))), (HB.out.trans (((HB1.out.trans (HG.out.trans HG5.out)).below.mono HB.out.size).trans (HB7.out.mono (Nat.le_trans HB.out.size (Nat.le_trans HB1.out.size (Nat.le_trans HG.out.size HG5.out.size)))))).grown H8.out.2 (by have := HB7.out.size; have h1 := HB.out.size; have h2 := HB1.out.size; have h3 := HG.out.size; have h4 := HG5.out.size; omega) (fun j hj => by have := (H7.out.1.lt j hj).1; have h1 := HB.out.size; have h2 := HB1.out.size; have h3 := HG.out.size; have h4 := HG5.out.size; omega)⟩
                  case measure => simp [intOf]; omega
    · have hkk : k = n := by omega
      subst hkk
      have HZ := Lib.hid (show zs.length ≤ 1000000 by omega)
      have HIC := Lib.hid (show IsCanon L C k zs from ⟨fun i => HP.out.mem i, HP.out.asc⟩)
      obtain ⟨p6, cap6, hv6, _⟩ := own_form HO.out
      subst hv6
      by_cases hbig : 300 < zs.length
      · have HX := Lib.hid (show CanonR L C k w (.returned (.tuple #[.slice none 0 0, .int .i64 3])) wr from ⟨_, _, rfl, zs, HIC.out, HB.out, .inr ⟨hbig, rfl, rfl⟩⟩)
        go_wp2
        go_ret2
        exact HX.out
      · have HX := Lib.hid (show CanonR L C k w (.returned (.tuple #[.slice p6 zs.length cap6, .int .i64 0])) wr from ⟨_, _, rfl, zs, HIC.out, HB.out, .inl ⟨by omega, rfl, _, HO.out, Nat.le_refl _⟩⟩)
        go_wp2
        go_ret2
        exact HX.out
end Go.Proofs.Ytdggmnhddoejhaa
