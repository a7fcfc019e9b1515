/-
  Layer 9: all slots are given, by stake; twice all stakes share the same.
-/
import Derived.Test.YtflbdmbiceenjaaPort2
namespace Go.Eng
set_option linter.unusedVariables false
set_option linter.unusedSimpArgs false
set_option maxRecDepth 100000
section
variable {m n : Nat} {f : Nat → UInt64}
theorem sumF_addP (a b : Nat → Nat) : ∀ n, sumF (fun k => a k + b k) n = sumF a n + sumF b n
  | 0 => rfl
  | n + 1 => by simp only [sumF]; rw [sumF_addP a b n]; omega
theorem sumF_mul (c : Nat) (a : Nat → Nat) : ∀ n, sumF (fun k => c * a k) n = c * sumF a n
  | 0 => rfl
  | n + 1 => by simp only [sumF]; rw [sumF_mul c a n, Nat.mul_add]
theorem sumF_cnt (p : Nat → Bool) : ∀ n, sumF (fun k => if p k = true then 1 else 0) n = cntB p n
  | 0 => rfl
  | n + 1 => by simp only [sumF, cntB]; rw [sumF_cnt p n]
theorem left_le (hm : m ≤ 200) (hn : n ≤ 40) (hz : (totN f n).val ≠ 0) : leftN m f n ≤ n ∧ sumF (flF m f n) n + leftN m f n = m := by
  have h1 := fl_sum (f := f) (n := n) hm hn n
  have h2 := (fl_parts (f := f) hm hn hz).2
  unfold leftN
  refine ⟨?_, by omega⟩
  by_cases h : m ≤ sumF (flF m f n) n + n
  · omega
  · have := Nat.mul_le_mul_right (totN f n).val (show sumF (flF m f n) n + n + 1 ≤ m by omega)
    rw [Nat.add_mul (sumF (flF m f n) n + n) 1, Nat.one_mul] at this
    omega
theorem rs_sum (hm : m ≤ 200) (hn : n ≤ 40) (hz : (totN f n).val ≠ 0) : sumF (fun k => (rsF m f n k).val) n = leftN m f n * (totN f n).val := by
  have h1 : sumF (fun k => m * (f k).toNat) n = m * (totN f n).val := by
    rw [sumF_mul m (fun k => (f k).toNat) n, totN_val f n (by omega), sumU_sumF]
  have h2 : sumF (fun k => m * (f k).toNat) n = sumF (fun k => (totN f n).val * flF m f n k + (rsF m f n k).val) n := sumF_congr fun k hk => by
    rw [fl_val hm hn hk, rs_val hm hn, if_neg hz]; exact (Nat.div_add_mod _ _).symm
  rw [sumF_addP (fun k => (totN f n).val * flF m f n k) (fun k => (rsF m f n k).val), sumF_mul (totN f n).val (flF m f n), h1, Nat.mul_comm (totN f n).val] at h2
  have h3 := (left_le (f := f) hm hn hz).2
  have h4 : (sumF (flF m f n) n + leftN m f n) * (totN f n).val = m * (totN f n).val := by rw [h3]
  rw [Nat.add_mul] at h4
  omega
theorem rs_lt (hm : m ≤ 200) (hn : n ≤ 40) (hz : (totN f n).val ≠ 0) (k : Nat) : (rsF m f n k).val < (totN f n).val := by
  rw [rs_val hm hn, if_neg hz]; exact Nat.mod_lt _ (Nat.pos_of_ne_zero hz)
theorem sum_pos {q : Nat → Nat} {T : Nat} (hq : ∀ k, q k ≤ T) : ∀ n, sumF q n ≤ cntB (fun k => decide (0 < q k)) n * T
  | 0 => by simp [sumF, cntB]
  | n + 1 => by
    have ih := sum_pos hq n
    simp only [sumF, cntB]
    by_cases h : 0 < q n
    · have := hq n
      simp only [h, decide_true, if_true]
      rw [Nat.add_mul, Nat.one_mul]; omega
    · simp only [h, decide_false, Bool.false_eq_true, if_false, Nat.add_zero]; omega
/-- Who has no rest is not among those who get one more. -/
theorem zero_not (hm : m ≤ 200) (hn : n ≤ 40) (hz : (totN f n).val ≠ 0) {i : Nat} (hi : (rsF m f n i).val = 0) : goneB (rsF m f n) n (leftN m f n) i = false := by
  have h1 := sum_pos (q := fun k => (rsF m f n k).val) (T := (totN f n).val) (fun k => Nat.le_of_lt (rs_lt hm hn hz k)) n
  rw [rs_sum hm hn hz] at h1
  have h2 : leftN m f n ≤ cntB (fun k => decide (0 < (rsF m f n k).val)) n := Nat.le_of_mul_le_mul_right h1 (Nat.pos_of_ne_zero hz)
  have h3 : cntB (fun k => decide (0 < (rsF m f n k).val)) n ≤ rankL (rsF m f n) n i := cntB_mono fun k _ hk => by
    rw [ltL_iff]; left; show (rsF m f n i).val < (rsF m f n k).val; rw [hi]; simpa using hk
  unfold goneB
  exact decide_eq_false (by omega)
theorem cnt_eq (hn0 : 0 < n ∨ True) {k : Nat} (hk : k < n) : cntF m f n k = flF m f n k + if goneB (rsF m f n) n (leftN m f n) k = true then 1 else 0 := by
  unfold cntF shC; simp [hk]
theorem cnt_or {k : Nat} (hk : k < n) : cntF m f n k = flF m f n k ∨ cntF m f n k = flF m f n k + 1 := by
  rw [cnt_eq (.inr trivial) hk]; split
  · exact .inr rfl
  · exact .inl rfl
theorem cnt_zero (hm : m ≤ 200) (hn : n ≤ 40) (hz : (totN f n).val ≠ 0) {k : Nat} (hk : k < n) (h : (f k).toNat = 0) : cntF m f n k = 0 := by
  have h1 : (rsF m f n k).val = 0 := by rw [rs_val hm hn, if_neg hz, h]; simp
  rw [cnt_eq (.inr trivial) hk, zero_not hm hn hz h1, fl_val hm hn hk, h]; simp
theorem cnt_mono (hm : m ≤ 200) (hn : n ≤ 40) (hm0 : 0 < m) (hz : (totN f n).val ≠ 0) {i k : Nat} (hi : i < n) (hk : k < n) (h : (f i).toNat < (f k).toNat) : cntF m f n i ≤ cntF m f n k := by
  have hmul : m * (f i).toNat < m * (f k).toNat := Nat.mul_lt_mul_of_pos_left h hm0
  have h1 : flF m f n i ≤ flF m f n k := by rw [fl_val hm hn hi, fl_val hm hn hk]; exact Nat.div_le_div_right (by omega)
  rw [cnt_eq (.inr trivial) hi, cnt_eq (.inr trivial) hk]
  by_cases h2 : flF m f n i = flF m f n k
  · have h3 : (rsF m f n i).val < (rsF m f n k).val := by
      rw [rs_val hm hn, rs_val hm hn, if_neg hz, if_neg hz]
      rw [fl_val hm hn hi, fl_val hm hn hk] at h2
      have a := Nat.div_add_mod (m * (f i).toNat) (totN f n).val
      have b := Nat.div_add_mod (m * (f k).toNat) (totN f n).val
      rw [h2] at a
      omega
    have h4 : rankL (rsF m f n) n k < rankL (rsF m f n) n i := rank_lt hk (by rw [ltL_iff]; exact .inl h3)
    unfold goneB
    by_cases h5 : rankL (rsF m f n) n i < leftN m f n
    · simp [h5, show rankL (rsF m f n) n k < leftN m f n by omega, h2]
    · simp [h5]; omega
  · split <;> split <;> omega
theorem cnt_sum (hm : m ≤ 200) (hn : n ≤ 40) (hz : (totN f n).val ≠ 0) : sumF (cntF m f n) n = m := by
  obtain ⟨h1, h2⟩ := left_le (f := f) hm hn hz
  rw [sumF_congr fun k hk => cnt_eq (.inr trivial) hk, sumF_addP, sumF_cnt, gone_cnt h1]; exact h2
/-! ### scales -/
theorem rank_congr {r r' : Nat → N4} (h : ∀ i j, i < n → j < n → ltL (lkF r i) (lkF r j) = ltL (lkF r' i) (lkF r' j)) {j : Nat} (hj : j < n) : rankL r n j = rankL r' n j := cntB_congr fun i hi => h i j hi hj
theorem tot_twice (hn : n ≤ 40) (h : ∀ k, k < n → (f k).toNat < 2 ^ 63) : (totN (fun k => 2 * f k) n).val = 2 * (totN f n).val := by
  rw [totN_val _ n (by omega), totN_val f n (by omega), sumU_sumF, sumU_sumF, ← sumF_mul]
  exact sumF_congr fun k hk => by
    have := h k hk
    rw [UInt64.toNat_mul]; show 2 * (f k).toNat % 2 ^ 64 = _; omega
theorem cnt_twice (hm : m ≤ 200) (hn : n ≤ 40) (h : ∀ k, k < n → (f k).toNat < 2 ^ 63) {k : Nat} (hk : k < n) : cntF m (fun k => 2 * f k) n k = cntF m f n k := by
  have ht := tot_twice hn h
  have h2 : ∀ j, j < n → ((fun k => 2 * f k) j).toNat = 2 * (f j).toNat := fun j hj => by
    have := h j hj
    show (2 * f j).toNat = _
    rw [UInt64.toNat_mul]; show 2 * (f j).toNat % 2 ^ 64 = _; omega
  have e2 : ∀ j, m * (2 * (f j).toNat) = 2 * (m * (f j).toNat) := fun j => by rw [Nat.mul_left_comm]
  have hfl : ∀ j, flF m (fun k => 2 * f k) n j = flF m f n j := fun j => by
    by_cases hj : j < n
    · rw [fl_val hm hn hj, fl_val hm hn hj, ht, h2 j hj, e2, Nat.mul_div_mul_left _ _ (by decide)]
    · rw [fl_out hj, fl_out hj]
  have hrs : ∀ j, j < n → (rsF m (fun k => 2 * f k) n j).val = 2 * (rsF m f n j).val := fun j hj => by
    rw [rs_val hm hn, rs_val hm hn, ht, h2 j hj, e2]
    by_cases hz : (totN f n).val = 0
    · rw [if_pos (by omega), if_pos hz]
    · rw [if_neg (by omega), if_neg hz, Nat.mul_mod_mul_left]
  have hl : leftN m (fun k => 2 * f k) n = leftN m f n := by unfold leftN; rw [sumF_congr fun j _ => hfl j]
  have hr : rankL (rsF m (fun k => 2 * f k) n) n k = rankL (rsF m f n) n k := rank_congr (fun i j hi hj => by
    rw [Bool.eq_iff_iff, ltL_iff, ltL_iff]
    show ((rsF m (fun k => 2 * f k) n j).val < (rsF m (fun k => 2 * f k) n i).val ∨ (rsF m (fun k => 2 * f k) n j).val = (rsF m (fun k => 2 * f k) n i).val ∧ i < j) ↔ ((rsF m f n j).val < (rsF m f n i).val ∨ (rsF m f n j).val = (rsF m f n i).val ∧ i < j)
    rw [hrs i hi, hrs j hj]; omega) hk
  rw [cnt_eq (.inr trivial) hk, cnt_eq (.inr trivial) hk, hfl, hl]
  unfold goneB; rw [hr]
theorem tot_more (hn : n ≤ 39) : (totN (catU f n fun _ => 0) (n + 1)).val = (totN f n).val := by
  rw [totN_val _ (n + 1) (by omega), totN_val f n (by omega)]
  simp only [sumU]
  have e1 : sumU (catU f n fun _ => 0) n = sumU f n := by
    rw [sumU_sumF, sumU_sumF]; exact sumF_congr fun k hk => by simp [catU, hk]
  rw [e1]; simp [catU]
theorem cnt_more (hm : m ≤ 200) (hn : n ≤ 39) (hz : (totN f n).val ≠ 0 ∨ m = 0) {k : Nat} (hk : k < n + 1) : cntF m (catU f n fun _ => 0) (n + 1) k = catU (cntF m f n) n (fun _ => 0) k := by
  have ht := tot_more (f := f) hn
  have hc : ∀ j, j < n → (catU f n fun _ => 0) j = f j := fun j hj => if_pos hj
  have hcn : (catU f n fun _ => (0 : UInt64)) n = 0 := by simp [catU]
  have hfl : ∀ j, j < n → flF m (catU f n fun _ => 0) (n + 1) j = flF m f n j := fun j hj => by
    rw [fl_val hm (by omega) (by omega), fl_val hm (by omega) hj, ht, hc j hj]
  have hfn : flF m (catU f n fun _ => 0) (n + 1) n = 0 := by rw [fl_val hm (by omega) (by omega), hcn]; simp
  have hrs : ∀ j, j < n → (rsF m (catU f n fun _ => 0) (n + 1) j).val = (rsF m f n j).val := fun j hj => by
    rw [rs_val hm (by omega), rs_val hm (by omega), ht, hc j hj]
  have hrn : (rsF m (catU f n fun _ => 0) (n + 1) n).val = 0 := by rw [rs_val hm (by omega), hcn]; simp
  have hl : leftN m (catU f n fun _ => 0) (n + 1) = leftN m f n := by
    unfold leftN; simp only [sumF]; rw [hfn, sumF_congr fun j hj => hfl j hj, Nat.add_zero]
  by_cases hkn : k < n
  · have hr : rankL (rsF m (catU f n fun _ => 0) (n + 1)) (n + 1) k = rankL (rsF m f n) n k := by
      unfold rankL
      simp only [cntB]
      have : ltL (lkF (rsF m (catU f n fun _ => 0) (n + 1)) n) (lkF (rsF m (catU f n fun _ => 0) (n + 1)) k) = false := by
        rw [ltL_not]; show ¬ ((rsF m (catU f n fun _ => 0) (n + 1) k).val < (rsF m (catU f n fun _ => 0) (n + 1) n).val ∨ (rsF m (catU f n fun _ => 0) (n + 1) k).val = (rsF m (catU f n fun _ => 0) (n + 1) n).val ∧ n < k)
        rw [hrn]; omega
      simp only [this, Bool.false_eq_true, if_false, Nat.add_zero]
      exact cntB_congr fun i hi => by
        rw [Bool.eq_iff_iff, ltL_iff, ltL_iff]
        show ((rsF m (catU f n fun _ => 0) (n + 1) k).val < (rsF m (catU f n fun _ => 0) (n + 1) i).val ∨ (rsF m (catU f n fun _ => 0) (n + 1) k).val = (rsF m (catU f n fun _ => 0) (n + 1) i).val ∧ i < k) ↔ ((rsF m f n k).val < (rsF m f n i).val ∨ (rsF m f n k).val = (rsF m f n i).val ∧ i < k)
        rw [hrs i hi, hrs k hkn]
    rw [cnt_eq (.inr trivial) hk, hfl k hkn, hl]
    show _ = if k < n then cntF m f n k else 0
    rw [if_pos hkn, cnt_eq (.inr trivial) hkn]
    unfold goneB; rw [hr]
  · obtain rfl : k = n := by omega
    show _ = if k < k then cntF m f k k else 0
    rw [if_neg (by omega)]
    rcases hz with hz | hz
    · exact cnt_zero hm (by omega) (by rw [ht]; exact hz) hk (by rw [hcn]; rfl)
    · subst hz
      rw [cnt_eq (.inr trivial) hk, hfn]
      have : leftN 0 (catU f k fun _ => 0) (k + 1) = 0 := by unfold leftN; omega
      rw [this, gone_zero]; rfl
end
end Go.Eng
namespace Go.Eng
set_option linter.unusedVariables false
/-! ### what the laws ask -/
theorem part_fl {m n : Nat} {f : Nat → UInt64} (hm : m ≤ 200) (hn : n ≤ 40) {k : Nat} (hk : k < n) : (partP (UInt64.ofNat m) (f k) (totN f n)).toNat = flF m f n k := by
  rw [partP_val (f_le_tot hn hk), u_of hm, fl_val hm hn hk]
theorem all_cond {C p : Nat} {x : UInt64} (h1 : C = p ∨ C = p + 1) (h2 : x.toNat = 0 → C = 0) : selB (selB (!(decide (C = p))) (!(decide (C = p + 1))) false) true (selB (x == 0) (!(decide (C = 0))) false) = false := by
  have h3 : selB (!(decide (C = p))) (!(decide (C = p + 1))) false = false := by
    rcases h1 with h | h <;> simp [selB, h]
  rw [h3]
  by_cases h : x.toNat = 0
  · rw [h2 h]; cases (x == 0) <;> simp [selB]
  · have : (x == 0) = false := by
      cases hb : (x == 0) with
      | false => rfl
      | true => exact absurd (by have := eq_of_beq hb; rw [this]; rfl) h
    rw [this]; rfl
theorem mono_cond {x y : UInt64} {a b : Nat} (h1 : x.toNat < y.toNat → a ≤ b) (h2 : y.toNat < x.toNat → b ≤ a) : selB (selB (decide (x < y)) (decide (b < a)) false) true (selB (decide (y < x)) (decide (a < b)) false) = false := by
  rcases Nat.lt_trichotomy x.toNat y.toNat with h | h | h
  · have := h1 h
    simp [selB, UInt64.lt_iff_toNat_lt, h, Nat.not_lt.2 this, Nat.lt_asymm h]
  · simp [selB, UInt64.lt_iff_toNat_lt, h]
  · have := h2 h
    simp [selB, UInt64.lt_iff_toNat_lt, h, Nat.not_lt.2 this, Nat.lt_asymm h]
theorem cnt_le {m n : Nat} {f : Nat → UInt64} (hm : m ≤ 200) (hn : n ≤ 40) (k : Nat) : cntF m f n k ≤ 201 := sh_le (f := f) (k := leftN m f n) hm hn rfl k
theorem own_lt {f : Nat → Int} {n j : Nat} (h : j < sumF (tN f) n) : ownF f n j < n ∧ (cutQ f n (ownF f n j)).a ≤ j ∧ j < (cutQ f n (ownF f n j)).b := by
  have key : ∀ m, m ≤ n → j < sumF (tN f) m → ∃ i, i < m ∧ sumF (tN f) i ≤ j ∧ j < sumF (tN f) (i + 1) := fun m => by
    induction m with
    | zero => intro _ h; simp [sumF] at h
    | succ m ih =>
      intro h1 h2
      by_cases h3 : j < sumF (tN f) m
      · obtain ⟨i, a, b, c⟩ := ih (by omega) h3
        exact ⟨i, by omega, b, c⟩
      · exact ⟨m, by omega, by omega, h2⟩
  obtain ⟨i, h1, h2, h3⟩ := key n (Nat.le_refl _) h
  rw [own_at h1 h2 h3]
  obtain ⟨e1, e2, _⟩ := cutQ_in (f := f) (n := n) h1
  exact ⟨h1, by omega, by omega⟩
theorem rg_cond {n i t : Nat} {f : Nat → Int} (hi : i < n) (hok : okC n f) (ht : t = sumF (tN f) i) : (cutQ f n i).a = t ∧ (((cutQ f n i).b : Nat) : Int) = ((t : Nat) : Int) + f i := by
  obtain ⟨e1, e2, _⟩ := cutQ_in (f := f) (n := n) hi
  have h1 := (okC_at hok hi).1
  have h2 := tN_sum f i
  exact ⟨by omega, by omega⟩
theorem sc_twice {m n : Nat} {f : Nat → UInt64} (hm : m ≤ 200) (hn : n ≤ 40) (h : ∀ k, k < n → (f k).toNat < 2 ^ 63) : sameI (cntF m f n) (cntF m (fun k => 2 * f k) n) n = true := sameI_iff.2 fun k hk => (cnt_twice hm hn h hk).symm
theorem sc_more {m n : Nat} {f : Nat → UInt64} (hm : m ≤ 200) (hn : n ≤ 39) (hz : (totN f n).val ≠ 0 ∨ m = 0) : sameI (catU (cntF m f n) n fun _ => 0) (cntF m (catU f n fun _ => 0) (n + 1)) (n + 1) = true := sameI_iff.2 fun k hk => (cnt_more hm hn hz hk).symm
theorem u63 {x : UInt64} (h : decide ((9223372036854775808 : UInt64) ≤ x) = false) : x.toNat < 2 ^ 63 := by
  have := of_decide_eq_false h
  rw [UInt64.le_iff_toNat_le] at this
  have e : (9223372036854775808 : UInt64).toNat = 2 ^ 63 := rfl
  omega
end Go.Eng
namespace Go.Eng
theorem sc_first {f : Nat → UInt64} : ∀ k, k < 1 → (fun _ => 2 * f 0) k = 2 * f k := fun k hk => by rw [show k = 0 by omega]
theorem sc_one {f : Nat → UInt64} (h : decide ((9223372036854775808 : UInt64) ≤ f 0) = false) : ∀ k, k < 1 → (f k).toNat < 2 ^ 63 := fun k hk => by rw [show k = 0 by omega]; exact u63 h
theorem sc_next {f G : Nat → UInt64} {i : Nat} (h : ∀ k, k < i → G k = 2 * f k) : ∀ k, k < i + 1 → catU G i (fun _ => 2 * f i) k = 2 * f k := fun k hk => by
  unfold catU
  by_cases h2 : k < i
  · rw [if_pos h2]; exact h k h2
  · rw [if_neg h2, show k = i by omega]
theorem sc_nextf {f : Nat → UInt64} {i : Nat} (h : ∀ k, k < i → (f k).toNat < 2 ^ 63) (hg : decide ((9223372036854775808 : UInt64) ≤ f i) = false) : ∀ k, k < i + 1 → (f k).toNat < 2 ^ 63 := fun k hk => by
  by_cases h2 : k < i
  · exact h k h2
  · rw [show k = i by omega]; exact u63 hg
theorem sc_small {f : Nat → UInt64} {i n : Nat} (h : ∀ k, k < i → (f k).toNat < 2 ^ 63) (e : i = n) : ∀ k, k < n → (f k).toNat < 2 ^ 63 := e ▸ h
theorem sc_imp {T m : Nat} (hz : T ≠ 0 ∨ m = 0) : T = 0 → m = 0 := fun h => hz.resolve_left fun h2 => h2 h
theorem scz_zero : (totN (catU (fun _ => 0) 0 fun _ => 0) (0 + 1)).val = 0 := rfl
end Go.Eng
