/-
  Layer 9: shares, in numbers.
-/
import Derived.Test.YtflbdmbiceenjaaRank
namespace Go.Eng
set_option linter.unusedVariables false
set_option maxRecDepth 100000
/-- How many slots one has at least, and what was left of its part. -/
def flF (m : Nat) (f : Nat → UInt64) (n : Nat) (k : Nat) : Nat := if k < n then (wholeP (UInt64.ofNat m) (f k) (totN f n)).a.toNat else 0
def rsF (m : Nat) (f : Nat → UInt64) (n : Nat) (k : Nat) : N4 := restD (mul8 (smallN (UInt64.ofNat m)) (smallN (f k))).lo (totN f n)
def leftN (m : Nat) (f : Nat → UInt64) (n : Nat) : Nat := m - sumF (flF m f n) n
def cntF (m : Nat) (f : Nat → UInt64) (n : Nat) : Nat → Nat := shC (flF m f n) (rsF m f n) n (leftN m f n)
section
variable {m n : Nat} {f : Nat → UInt64}
theorem u_of {m : Nat} (hm : m ≤ 200) : (UInt64.ofNat m).toNat = m := by rw [UInt64.toNat_ofNat']; omega
theorem f_le_tot (hn : n ≤ 40) {k : Nat} (hk : k < n) : (f k).toNat ≤ (totN f n).val := by
  rw [totN_val f n (by omega)]; exact sumU_one hk
theorem whole_val (hm : m ≤ 200) (hn : n ≤ 40) {k : Nat} (hk : k < n) : (wholeP (UInt64.ofNat m) (f k) (totN f n)).val = m * (f k).toNat / (totN f n).val ∧ m * (f k).toNat / (totN f n).val ≤ m := by
  have hle : m * (f k).toNat / (totN f n).val ≤ m := by
    by_cases h0 : (totN f n).val = 0
    · rw [h0, Nat.div_zero]; omega
    · exact Nat.div_le_of_le_mul (by rw [Nat.mul_comm (totN f n).val]; exact Nat.mul_le_mul_left _ (f_le_tot hn hk))
  refine ⟨?_, hle⟩
  unfold wholeP quoD
  rw [N4.val_ofNat, mulSmall, u_of hm, Nat.mod_eq_of_lt (by omega)]
theorem fl_le (hm : m ≤ 200) (hn : n ≤ 40) {k : Nat} (hk : k < n) : (wholeP (UInt64.ofNat m) (f k) (totN f n)).a.toNat ≤ 200 := by
  obtain ⟨h1, h2⟩ := whole_val (f := f) hm hn hk
  rw [N4.a_of_lt (by omega)]; omega
theorem fl_val (hm : m ≤ 200) (hn : n ≤ 40) {k : Nat} (hk : k < n) : flF m f n k = m * (f k).toNat / (totN f n).val := by
  obtain ⟨h1, h2⟩ := whole_val (f := f) hm hn hk
  unfold flF; rw [if_pos hk, N4.a_of_lt (by omega), h1]
theorem fl_out {k : Nat} (hk : ¬ k < n) : flF m f n k = 0 := if_neg hk
theorem rs_val (hm : m ≤ 200) (hn : n ≤ 40) {k : Nat} : (rsF m f n k).val = if (totN f n).val = 0 then 0 else m * (f k).toNat % (totN f n).val := by
  unfold rsF restD
  by_cases h0 : (totN f n).val = 0
  · rw [if_pos (by rw [eq4_val, h0]; rfl), if_pos h0]; rfl
  · rw [if_neg (by rw [eq4_val]; intro h; exact h0 (of_decide_eq_true h)), if_neg h0, N4.val_ofNat, mulSmall, u_of hm]
    have h1 := Nat.mod_lt (m * (f k).toNat) (Nat.pos_of_ne_zero h0)
    have h2 := (totN f n).val_lt
    exact Nat.mod_eq_of_lt (by omega)
theorem sumF_mono {q : Nat → Nat} : ∀ {a b : Nat}, a ≤ b → sumF q a ≤ sumF q b
  | a, 0, h => by rw [show a = 0 by omega]; exact Nat.le_refl _
  | a, b + 1, h => by
    by_cases e : a = b + 1
    · subst e; exact Nat.le_refl _
    · have := sumF_mono (q := q) (a := a) (b := b) (by omega)
      simp only [sumF]; omega
theorem sumF_more {q : Nat → Nat} {n : Nat} (hq : ∀ k, ¬ k < n → q k = 0) : ∀ d, sumF q (n + d) = sumF q n
  | 0 => rfl
  | d + 1 => by show sumF q (n + d) + q (n + d) = _; rw [sumF_more hq d, hq _ (by omega)]; rfl
theorem fl_sumv (hm : m ≤ 200) (hn : n ≤ 40) : sumF (flF m f n) n = sumF (fun k => m * (f k).toNat / (totN f n).val) n := sumF_congr fun k hk => fl_val hm hn hk
theorem fl_parts (hm : m ≤ 200) (hn : n ≤ 40) (hz : (totN f n).val ≠ 0) : sumF (flF m f n) n * (totN f n).val ≤ m * (totN f n).val ∧ m * (totN f n).val + n ≤ (sumF (flF m f n) n + n) * (totN f n).val := by
  have h := sumF_div (pot := m) (q := fun k => (f k).toNat) (Nat.pos_of_ne_zero hz) n
  have e : sumF (fun k => (f k).toNat) n = (totN f n).val := by rw [totN_val f n (by omega), sumU_sumF]
  rw [e, ← fl_sumv hm hn] at h; exact h
theorem fl_sum (hm : m ≤ 200) (hn : n ≤ 40) (i : Nat) : sumF (flF m f n) i ≤ m := by
  have h1 : sumF (flF m f n) n ≤ m := by
    by_cases hz : (totN f n).val = 0
    · rw [fl_sumv hm hn, hz, sumF_congr (q := fun _ => 0) (fun k _ => Nat.div_zero _)]
      have : ∀ n, sumF (fun _ => 0) n = 0 := fun n => by induction n with
        | zero => rfl
        | succ n ih => simp [sumF, ih]
      rw [this]; omega
    · exact Nat.le_of_mul_le_mul_right (fl_parts hm hn hz).1 (Nat.pos_of_ne_zero hz)
  rcases Nat.le_total i n with h | h
  · exact Nat.le_trans (sumF_mono h) h1
  · obtain ⟨d, rfl⟩ := Nat.exists_eq_add_of_le h
    rw [sumF_more (fun k hk => fl_out hk)]; exact h1
theorem fl_room (hm : m ≤ 200) (hn : n ≤ 40) (h0 : 0 < n) (hz : (totN f n).val = 0 → m = 0) : m < sumF (flF m f n) n + n := by
  by_cases hz0 : (totN f n).val = 0
  · rw [hz hz0]; omega
  · have h := (fl_parts hm hn hz0).2
    by_cases hlt : m < sumF (flF m f n) n + n
    · exact hlt
    · have := Nat.mul_le_mul_right (totN f n).val (show sumF (flF m f n) n + n ≤ m by omega)
      omega
theorem pop_lt {F : Nat → LkR} {r : Nat → N4} {L k : Nat} (hL : 0 < L) (hp : HpB ltL 0 F L) (he : En F L (lfS r n k)) (hc : cntB (goneB r n k) n = k) : (popF ltL F (L - 1) (L - 1)).w < n := by
  obtain ⟨w, hw, e, _⟩ := lf_pop hL hp he hc
  rw [e]; exact hw
theorem pop_step {F : Nat → LkR} {r : Nat → N4} {fl C : Nat → Nat} {L k : Nat} (hL : 0 < L) (hk : L + k = n) (hp : HpB ltL 0 F L) (he : En F L (lfS r n k)) (hc : cntB (goneB r n k) n = k) (hC : C = shC fl r n k) :
    L - 1 + (k + 1) = n ∧ HpB ltL 0 (popF ltL F (L - 1)) (L - 1) ∧ En (popF ltL F (L - 1)) (L - 1) (lfS r n (k + 1)) ∧ cntB (goneB r n (k + 1)) n = k + 1 ∧ upd C (popF ltL F (L - 1) (L - 1)).w (C (popF ltL F (L - 1) (L - 1)).w + 1) = shC fl r n (k + 1) := by
  obtain ⟨w, hw, e, hr, h1, h2⟩ := lf_pop hL hp he hc
  refine ⟨by omega, h1, h2, (gone_next hc hw hr).2, ?_⟩
  rw [e, hC]; exact shC_next hc hw hr
theorem port_nz (hz : (totN f n).val = 0 → m = 0) : selB (decide ((0 : Nat) < m)) (eq4 (totN f n) (N4.mk 0 0 0 0)) false = false := by
  by_cases h : (totN f n).val = 0
  · rw [hz h]; rfl
  · have : eq4 (totN f n) (N4.mk 0 0 0 0) = false := by rw [eq4_val]; exact decide_eq_false h
    rw [this]; cases (decide ((0 : Nat) < m)) <;> rfl
theorem port_z (h0 : 0 < m) (hz : (totN f n).val = 0) : selB (decide ((0 : Nat) < m)) (eq4 (totN f n) (N4.mk 0 0 0 0)) false = true := by
  have : eq4 (totN f n) (N4.mk 0 0 0 0) = true := by rw [eq4_val]; exact decide_eq_true hz
  rw [this]; simp [selB, h0]
theorem fl_in {k : Nat} (hk : k < n) : (wholeP (UInt64.ofNat m) (f k) (totN f n)).a.toNat = flF m f n k := by unfold flF; rw [if_pos hk]
theorem cutF_at {fl : Nat → Nat} (i : Nat) : cutF fl (i + 1) i = fl i := if_pos (by omega)
theorem share_first (hm : m ≤ 200) (hn : n ≤ 40) (h0 : 0 < n) {l c : Nat} {g : Nat → LkR} (h1 : l + sumF (flF m f n) 1 = m) (h2 : 1 ≤ c) (hg : g 0 = LkR.mk (rsF m f n 0) 0) :
    (1 ≤ 1 ∧ 1 ≤ n ∧ l + sumF (flF m f n) 1 = m ∧ 1 ≤ c ∧ HpB ltL 0 (upF ltL g 0) 1 ∧ En (upF ltL g 0) 1 (wtS (rsF m f n) 1)) ∧ n - 1 < n := by
  obtain ⟨a, b⟩ := wt_push (r := rsF m f n) (F := g) (g := g) (i := 0) (x := LkR.mk (rsF m f n 0) 0) hp_zero en_zero (fun _ _ => rfl) hg rfl
  exact ⟨⟨Nat.le_refl _, h0, h1, h2, a, b⟩, by omega⟩
theorem share_step {i nm nw l' c' : Nat} {F : Nat → LkR} (hi : i < n) (h1 : l' + sumF (flF m f n) (i + 1) = m) (h2 : i + 1 ≤ c') (h3 : HpB ltL 0 F i) (h4 : En F i (wtS (rsF m f n) i)) :
    (1 ≤ i + 1 ∧ i + 1 ≤ n ∧ l' + sumF (flF m f n) (i + 1) = m ∧ i + 1 ≤ c' ∧ HpB ltL 0 (upF ltL (pshG F i (LkR.mk (rsF m f n i) i) lkZ nm nw) (i + 1 - 1)) (i + 1) ∧ En (upF ltL (pshG F i (LkR.mk (rsF m f n i) i) lkZ nm nw) (i + 1 - 1)) (i + 1) (wtS (rsF m f n) (i + 1))) ∧ n - (i + 1) < n - i := by
  obtain ⟨a, b⟩ := wt_push (r := rsF m f n) (F := F) (g := pshG F i (LkR.mk (rsF m f n i) i) lkZ nm nw) (i := i) (x := LkR.mk (rsF m f n i) i) h3 h4 (fun k hk => pshG_lt hk) pshG_eq rfl
  exact ⟨⟨by omega, by omega, h1, h2, a, b⟩, by omega⟩
theorem cutF_all {fl : Nat → Nat} (h : ∀ k, ¬ k < n → fl k = 0) : cutF fl n = fl := by
  funext k; unfold cutF
  by_cases hk : k < n
  · rw [if_pos hk]
  · rw [if_neg hk, h k hk]
theorem share_mid {i l : Nat} {F : Nat → LkR} (hm : m ≤ 200) (hn : n ≤ 40) (h0 : 0 < n) (hz : (totN f n).val = 0 → m = 0) (e : i = n) (h2 : l + sumF (flF m f n) i = m) (hp : HpB ltL 0 F i) (he : En F i (wtS (rsF m f n) i)) :
    i + 0 = n ∧ HpB ltL 0 F i ∧ En F i (lfS (rsF m f n) n 0) ∧ cntB (goneB (rsF m f n) n 0) n = 0 ∧ cutF (flF m f n) i = shC (flF m f n) (rsF m f n) n 0 ∧ 0 ≤ l ∧ l < n := by
  subst e
  have := fl_room hm hn h0 hz
  exact ⟨rfl, hp, lf_zero he, gone_cnt0, by rw [shC_zero, cutF_all fun k hk => fl_out hk], Nat.zero_le _, by omega⟩
theorem share_pop {k L l : Nat} {F : Nat → LkR} {C : Nat → Nat} (hkl : k < l) (c0 : L + k = n) (c1 : HpB ltL 0 F L) (c2 : En F L (lfS (rsF m f n) n k)) (c3 : cntB (goneB (rsF m f n) n k) n = k) (c4 : C = shC (flF m f n) (rsF m f n) n k) (c6 : l < n) :
    (L - 1 + (k + 1) = n ∧ HpB ltL 0 (popF ltL F (L - 1)) (L - 1) ∧ En (popF ltL F (L - 1)) (L - 1) (lfS (rsF m f n) n (k + 1)) ∧ cntB (goneB (rsF m f n) n (k + 1)) n = k + 1 ∧ upd C (popF ltL F (L - 1) (L - 1)).w (C (popF ltL F (L - 1) (L - 1)).w + 1) = shC (flF m f n) (rsF m f n) n (k + 1) ∧ k + 1 ≤ l ∧ l < n) ∧ l - (k + 1) < l - k := by
  obtain ⟨h1, h2, h3, h4, h5⟩ := pop_step (by omega) c0 c1 c2 c3 c4
  exact ⟨⟨h1, h2, h3, h4, h5, by omega, c6⟩, by omega⟩
theorem fl_le2 (hm : m ≤ 200) (hn : n ≤ 40) (k : Nat) : flF m f n k ≤ 200 := by
  by_cases hk : k < n
  · rw [← fl_in hk]; exact fl_le hm hn hk
  · rw [fl_out hk]; omega
theorem sh_le (hm : m ≤ 200) (hn : n ≤ 40) {C : Nat → Nat} {k : Nat} (c4 : C = shC (flF m f n) (rsF m f n) n k) (w : Nat) : C w ≤ 201 := by
  have := fl_le2 (f := f) hm hn w
  rw [c4]; unfold shC; split <;> omega
theorem share_end {C : Nat → Nat} {k l i : Nat} (c4 : C = shC (flF m f n) (rsF m f n) n k) (hk : k = l) (e : i = n) (b2 : l + sumF (flF m f n) i = m) : C = cntF m f n := by
  subst hk; subst e
  rw [c4]; unfold cntF leftN
  rw [show m - sumF (flF m f i) i = k by omega]
end
end Go.Eng
