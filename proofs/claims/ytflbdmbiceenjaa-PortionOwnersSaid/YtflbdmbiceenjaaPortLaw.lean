/-
  Many in one: PortLaw, PortIn, Port4, Port5.
-/
import Derived.Test.YtflbdmbiceenjaaPort2
set_option linter.unusedVariables false
set_option linter.unusedSimpArgs false
namespace Go.Eng
set_option linter.unusedVariables false
set_option linter.unusedSimpArgs false
set_option maxRecDepth 100000
section
variable {m n : Nat} {f : Nat → UInt64}
theorem sumF_addP (a b : Nat → Nat) : ∀ n, sumF (fun k => a k + b k) n = sumF a n + sumF b n
  | 0 => rfl
  | n + 1 => by simp only [sumF]; rw [sumF_addP a b n]; omega
theorem sumF_mul (c : Nat) (a : Nat → Nat) : ∀ n, sumF (fun k => c * a k) n = c * sumF a n
  | 0 => rfl
  | n + 1 => by simp only [sumF]; rw [sumF_mul c a n, Nat.mul_add]
theorem sumF_cnt (p : Nat → Bool) : ∀ n, sumF (fun k => if p k = true then 1 else 0) n = cntB p n
  | 0 => rfl
  | n + 1 => by simp only [sumF, cntB]; rw [sumF_cnt p n]
theorem left_le (hm : m ≤ 200) (hn : n ≤ 40) (hz : (totN f n).val ≠ 0) : leftN m f n ≤ n ∧ sumF (flF m f n) n + leftN m f n = m := by
  have h1 := fl_sum (f := f) (n := n) hm hn n
  have h2 := (fl_parts (f := f) hm hn hz).2
  unfold leftN
  refine ⟨?_, by omega⟩
  by_cases h : m ≤ sumF (flF m f n) n + n
  · omega
  · have := Nat.mul_le_mul_right (totN f n).val (show sumF (flF m f n) n + n + 1 ≤ m by omega)
    rw [Nat.add_mul (sumF (flF m f n) n + n) 1, Nat.one_mul] at this
    omega
theorem rs_sum (hm : m ≤ 200) (hn : n ≤ 40) (hz : (totN f n).val ≠ 0) : sumF (fun k => (rsF m f n k).val) n = leftN m f n * (totN f n).val := by
  have h1 : sumF (fun k => m * (f k).toNat) n = m * (totN f n).val := by
    rw [sumF_mul m (fun k => (f k).toNat) n, totN_val f n (by omega), sumU_sumF]
  have h2 : sumF (fun k => m * (f k).toNat) n = sumF (fun k => (totN f n).val * flF m f n k + (rsF m f n k).val) n := sumF_congr fun k hk => by
    rw [fl_val hm hn hk, rs_val hm hn, if_neg hz]; exact (Nat.div_add_mod _ _).symm
  rw [sumF_addP (fun k => (totN f n).val * flF m f n k) (fun k => (rsF m f n k).val), sumF_mul (totN f n).val (flF m f n), h1, Nat.mul_comm (totN f n).val] at h2
  have h3 := (left_le (f := f) hm hn hz).2
  have h4 : (sumF (flF m f n) n + leftN m f n) * (totN f n).val = m * (totN f n).val := by rw [h3]
  rw [Nat.add_mul] at h4
  omega
theorem rs_lt (hm : m ≤ 200) (hn : n ≤ 40) (hz : (totN f n).val ≠ 0) (k : Nat) : (rsF m f n k).val < (totN f n).val := by
  rw [rs_val hm hn, if_neg hz]; exact Nat.mod_lt _ (Nat.pos_of_ne_zero hz)
theorem sum_pos {q : Nat → Nat} {T : Nat} (hq : ∀ k, q k ≤ T) : ∀ n, sumF q n ≤ cntB (fun k => decide (0 < q k)) n * T
  | 0 => by simp [sumF, cntB]
  | n + 1 => by
    have ih := sum_pos hq n
    simp only [sumF, cntB]
    by_cases h : 0 < q n
    · have := hq n
      simp only [h, decide_true, if_true]
      rw [Nat.add_mul, Nat.one_mul]; omega
    · simp only [h, decide_false, Bool.false_eq_true, if_false, Nat.add_zero]; omega
/-- Who has no rest is not among those who get one more. -/
theorem zero_not (hm : m ≤ 200) (hn : n ≤ 40) (hz : (totN f n).val ≠ 0) {i : Nat} (hi : (rsF m f n i).val = 0) : goneB (rsF m f n) n (leftN m f n) i = false := by
  have h1 := sum_pos (q := fun k => (rsF m f n k).val) (T := (totN f n).val) (fun k => Nat.le_of_lt (rs_lt hm hn hz k)) n
  rw [rs_sum hm hn hz] at h1
  have h2 : leftN m f n ≤ cntB (fun k => decide (0 < (rsF m f n k).val)) n := Nat.le_of_mul_le_mul_right h1 (Nat.pos_of_ne_zero hz)
  have h3 : cntB (fun k => decide (0 < (rsF m f n k).val)) n ≤ rankL (rsF m f n) n i := cntB_mono fun k _ hk => by
    rw [ltL_iff]; left; show (rsF m f n i).val < (rsF m f n k).val; rw [hi]; simpa using hk
  unfold goneB
  exact decide_eq_false (by omega)
theorem cnt_eq (hn0 : 0 < n ∨ True) {k : Nat} (hk : k < n) : cntF m f n k = flF m f n k + if goneB (rsF m f n) n (leftN m f n) k = true then 1 else 0 := by
  unfold cntF shC; simp [hk]
theorem cnt_or {k : Nat} (hk : k < n) : cntF m f n k = flF m f n k ∨ cntF m f n k = flF m f n k + 1 := by
  rw [cnt_eq (.inr trivial) hk]; split
  · exact .inr rfl
  · exact .inl rfl
theorem cnt_zero (hm : m ≤ 200) (hn : n ≤ 40) (hz : (totN f n).val ≠ 0) {k : Nat} (hk : k < n) (h : (f k).toNat = 0) : cntF m f n k = 0 := by
  have h1 : (rsF m f n k).val = 0 := by rw [rs_val hm hn, if_neg hz, h]; simp
  rw [cnt_eq (.inr trivial) hk, zero_not hm hn hz h1, fl_val hm hn hk, h]; simp
theorem cnt_mono (hm : m ≤ 200) (hn : n ≤ 40) (hm0 : 0 < m) (hz : (totN f n).val ≠ 0) {i k : Nat} (hi : i < n) (hk : k < n) (h : (f i).toNat < (f k).toNat) : cntF m f n i ≤ cntF m f n k := by
  have hmul : m * (f i).toNat < m * (f k).toNat := Nat.mul_lt_mul_of_pos_left h hm0
  have h1 : flF m f n i ≤ flF m f n k := by rw [fl_val hm hn hi, fl_val hm hn hk]; exact Nat.div_le_div_right (by omega)
  rw [cnt_eq (.inr trivial) hi, cnt_eq (.inr trivial) hk]
  by_cases h2 : flF m f n i = flF m f n k
  · have h3 : (rsF m f n i).val < (rsF m f n k).val := by
      rw [rs_val hm hn, rs_val hm hn, if_neg hz, if_neg hz]
      rw [fl_val hm hn hi, fl_val hm hn hk] at h2
      have a := Nat.div_add_mod (m * (f i).toNat) (totN f n).val
      have b := Nat.div_add_mod (m * (f k).toNat) (totN f n).val
      rw [h2] at a
      omega
    have h4 : rankL (rsF m f n) n k < rankL (rsF m f n) n i := rank_lt hk (by rw [ltL_iff]; exact .inl h3)
    unfold goneB
    by_cases h5 : rankL (rsF m f n) n i < leftN m f n
    · simp [h5, show rankL (rsF m f n) n k < leftN m f n by omega, h2]
    · simp [h5]; omega
  · split <;> split <;> omega
theorem cnt_sum (hm : m ≤ 200) (hn : n ≤ 40) (hz : (totN f n).val ≠ 0) : sumF (cntF m f n) n = m := by
  obtain ⟨h1, h2⟩ := left_le (f := f) hm hn hz
  rw [sumF_congr fun k hk => cnt_eq (.inr trivial) hk, sumF_addP, sumF_cnt, gone_cnt h1]; exact h2
/-! ### scales -/
theorem rank_congr {r r' : Nat → N4} (h : ∀ i j, i < n → j < n → ltL (lkF r i) (lkF r j) = ltL (lkF r' i) (lkF r' j)) {j : Nat} (hj : j < n) : rankL r n j = rankL r' n j := cntB_congr fun i hi => h i j hi hj
theorem tot_twice (hn : n ≤ 40) (h : ∀ k, k < n → (f k).toNat < 2 ^ 63) : (totN (fun k => 2 * f k) n).val = 2 * (totN f n).val := by
  rw [totN_val _ n (by omega), totN_val f n (by omega), sumU_sumF, sumU_sumF, ← sumF_mul]
  exact sumF_congr fun k hk => by
    have := h k hk
    rw [UInt64.toNat_mul]; show 2 * (f k).toNat % 2 ^ 64 = _; omega
theorem cnt_twice (hm : m ≤ 200) (hn : n ≤ 40) (h : ∀ k, k < n → (f k).toNat < 2 ^ 63) {k : Nat} (hk : k < n) : cntF m (fun k => 2 * f k) n k = cntF m f n k := by
  have ht := tot_twice hn h
  have h2 : ∀ j, j < n → ((fun k => 2 * f k) j).toNat = 2 * (f j).toNat := fun j hj => by
    have := h j hj
    show (2 * f j).toNat = _
    rw [UInt64.toNat_mul]; show 2 * (f j).toNat % 2 ^ 64 = _; omega
  have e2 : ∀ j, m * (2 * (f j).toNat) = 2 * (m * (f j).toNat) := fun j => by rw [Nat.mul_left_comm]
  have hfl : ∀ j, flF m (fun k => 2 * f k) n j = flF m f n j := fun j => by
    by_cases hj : j < n
    · rw [fl_val hm hn hj, fl_val hm hn hj, ht, h2 j hj, e2, Nat.mul_div_mul_left _ _ (by decide)]
    · rw [fl_out hj, fl_out hj]
  have hrs : ∀ j, j < n → (rsF m (fun k => 2 * f k) n j).val = 2 * (rsF m f n j).val := fun j hj => by
    rw [rs_val hm hn, rs_val hm hn, ht, h2 j hj, e2]
    by_cases hz : (totN f n).val = 0
    · rw [if_pos (by omega), if_pos hz]
    · rw [if_neg (by omega), if_neg hz, Nat.mul_mod_mul_left]
  have hl : leftN m (fun k => 2 * f k) n = leftN m f n := by unfold leftN; rw [sumF_congr fun j _ => hfl j]
  have hr : rankL (rsF m (fun k => 2 * f k) n) n k = rankL (rsF m f n) n k := rank_congr (fun i j hi hj => by
    rw [Bool.eq_iff_iff, ltL_iff, ltL_iff]
    show ((rsF m (fun k => 2 * f k) n j).val < (rsF m (fun k => 2 * f k) n i).val ∨ (rsF m (fun k => 2 * f k) n j).val = (rsF m (fun k => 2 * f k) n i).val ∧ i < j) ↔ ((rsF m f n j).val < (rsF m f n i).val ∨ (rsF m f n j).val = (rsF m f n i).val ∧ i < j)
    rw [hrs i hi, hrs j hj]; omega) hk
  rw [cnt_eq (.inr trivial) hk, cnt_eq (.inr trivial) hk, hfl, hl]
  unfold goneB; rw [hr]
theorem tot_more (hn : n ≤ 39) : (totN (catU f n fun _ => 0) (n + 1)).val = (totN f n).val := by
  rw [totN_val _ (n + 1) (by omega), totN_val f n (by omega)]
  simp only [sumU]
  have e1 : sumU (catU f n fun _ => 0) n = sumU f n := by
    rw [sumU_sumF, sumU_sumF]; exact sumF_congr fun k hk => by simp [catU, hk]
  rw [e1]; simp [catU]
theorem cnt_more (hm : m ≤ 200) (hn : n ≤ 39) (hz : (totN f n).val ≠ 0 ∨ m = 0) {k : Nat} (hk : k < n + 1) : cntF m (catU f n fun _ => 0) (n + 1) k = catU (cntF m f n) n (fun _ => 0) k := by
  have ht := tot_more (f := f) hn
  have hc : ∀ j, j < n → (catU f n fun _ => 0) j = f j := fun j hj => if_pos hj
  have hcn : (catU f n fun _ => (0 : UInt64)) n = 0 := by simp [catU]
  have hfl : ∀ j, j < n → flF m (catU f n fun _ => 0) (n + 1) j = flF m f n j := fun j hj => by
    rw [fl_val hm (by omega) (by omega), fl_val hm (by omega) hj, ht, hc j hj]
  have hfn : flF m (catU f n fun _ => 0) (n + 1) n = 0 := by rw [fl_val hm (by omega) (by omega), hcn]; simp
  have hrs : ∀ j, j < n → (rsF m (catU f n fun _ => 0) (n + 1) j).val = (rsF m f n j).val := fun j hj => by
    rw [rs_val hm (by omega), rs_val hm (by omega), ht, hc j hj]
  have hrn : (rsF m (catU f n fun _ => 0) (n + 1) n).val = 0 := by rw [rs_val hm (by omega), hcn]; simp
  have hl : leftN m (catU f n fun _ => 0) (n + 1) = leftN m f n := by
    unfold leftN; simp only [sumF]; rw [hfn, sumF_congr fun j hj => hfl j hj, Nat.add_zero]
  by_cases hkn : k < n
  · have hr : rankL (rsF m (catU f n fun _ => 0) (n + 1)) (n + 1) k = rankL (rsF m f n) n k := by
      unfold rankL
      simp only [cntB]
      have : ltL (lkF (rsF m (catU f n fun _ => 0) (n + 1)) n) (lkF (rsF m (catU f n fun _ => 0) (n + 1)) k) = false := by
        rw [ltL_not]; show ¬ ((rsF m (catU f n fun _ => 0) (n + 1) k).val < (rsF m (catU f n fun _ => 0) (n + 1) n).val ∨ (rsF m (catU f n fun _ => 0) (n + 1) k).val = (rsF m (catU f n fun _ => 0) (n + 1) n).val ∧ n < k)
        rw [hrn]; omega
      simp only [this, Bool.false_eq_true, if_false, Nat.add_zero]
      exact cntB_congr fun i hi => by
        rw [Bool.eq_iff_iff, ltL_iff, ltL_iff]
        show ((rsF m (catU f n fun _ => 0) (n + 1) k).val < (rsF m (catU f n fun _ => 0) (n + 1) i).val ∨ (rsF m (catU f n fun _ => 0) (n + 1) k).val = (rsF m (catU f n fun _ => 0) (n + 1) i).val ∧ i < k) ↔ ((rsF m f n k).val < (rsF m f n i).val ∨ (rsF m f n k).val = (rsF m f n i).val ∧ i < k)
        rw [hrs i hi, hrs k hkn]
    rw [cnt_eq (.inr trivial) hk, hfl k hkn, hl]
    show _ = if k < n then cntF m f n k else 0
    rw [if_pos hkn, cnt_eq (.inr trivial) hkn]
    unfold goneB; rw [hr]
  · obtain rfl : k = n := by omega
    show _ = if k < k then cntF m f k k else 0
    rw [if_neg (by omega)]
    rcases hz with hz | hz
    · exact cnt_zero hm (by omega) (by rw [ht]; exact hz) hk (by rw [hcn]; rfl)
    · subst hz
      rw [cnt_eq (.inr trivial) hk, hfn]
      have : leftN 0 (catU f k fun _ => 0) (k + 1) = 0 := by unfold leftN; omega
      rw [this, gone_zero]; rfl
end
end Go.Eng
namespace Go.Eng
set_option linter.unusedVariables false
/-! ### what the laws ask -/
theorem part_fl {m n : Nat} {f : Nat → UInt64} (hm : m ≤ 200) (hn : n ≤ 40) {k : Nat} (hk : k < n) : (partP (UInt64.ofNat m) (f k) (totN f n)).toNat = flF m f n k := by
  rw [partP_val (f_le_tot hn hk), u_of hm, fl_val hm hn hk]
theorem all_cond {C p : Nat} {x : UInt64} (h1 : C = p ∨ C = p + 1) (h2 : x.toNat = 0 → C = 0) : selB (selB (!(decide (C = p))) (!(decide (C = p + 1))) false) true (selB (x == 0) (!(decide (C = 0))) false) = false := by
  have h3 : selB (!(decide (C = p))) (!(decide (C = p + 1))) false = false := by
    rcases h1 with h | h <;> simp [selB, h]
  rw [h3]
  by_cases h : x.toNat = 0
  · rw [h2 h]; cases (x == 0) <;> simp [selB]
  · have : (x == 0) = false := by
      cases hb : (x == 0) with
      | false => rfl
      | true => exact absurd (by have := eq_of_beq hb; rw [this]; rfl) h
    rw [this]; rfl
theorem mono_cond {x y : UInt64} {a b : Nat} (h1 : x.toNat < y.toNat → a ≤ b) (h2 : y.toNat < x.toNat → b ≤ a) : selB (selB (decide (x < y)) (decide (b < a)) false) true (selB (decide (y < x)) (decide (a < b)) false) = false := by
  rcases Nat.lt_trichotomy x.toNat y.toNat with h | h | h
  · have := h1 h
    simp [selB, UInt64.lt_iff_toNat_lt, h, Nat.not_lt.2 this, Nat.lt_asymm h]
  · simp [selB, UInt64.lt_iff_toNat_lt, h]
  · have := h2 h
    simp [selB, UInt64.lt_iff_toNat_lt, h, Nat.not_lt.2 this, Nat.lt_asymm h]
theorem cnt_le {m n : Nat} {f : Nat → UInt64} (hm : m ≤ 200) (hn : n ≤ 40) (k : Nat) : cntF m f n k ≤ 201 := sh_le (f := f) (k := leftN m f n) hm hn rfl k
theorem own_lt {f : Nat → Int} {n j : Nat} (h : j < sumF (tN f) n) : ownF f n j < n ∧ (cutQ f n (ownF f n j)).a ≤ j ∧ j < (cutQ f n (ownF f n j)).b := by
  have key : ∀ m, m ≤ n → j < sumF (tN f) m → ∃ i, i < m ∧ sumF (tN f) i ≤ j ∧ j < sumF (tN f) (i + 1) := fun m => by
    induction m with
    | zero => intro _ h; simp [sumF] at h
    | succ m ih =>
      intro h1 h2
      by_cases h3 : j < sumF (tN f) m
      · obtain ⟨i, a, b, c⟩ := ih (by omega) h3
        exact ⟨i, by omega, b, c⟩
      · exact ⟨m, by omega, by omega, h2⟩
  obtain ⟨i, h1, h2, h3⟩ := key n (Nat.le_refl _) h
  rw [own_at h1 h2 h3]
  obtain ⟨e1, e2, _⟩ := cutQ_in (f := f) (n := n) h1
  exact ⟨h1, by omega, by omega⟩
theorem rg_cond {n i t : Nat} {f : Nat → Int} (hi : i < n) (hok : okC n f) (ht : t = sumF (tN f) i) : (cutQ f n i).a = t ∧ (((cutQ f n i).b : Nat) : Int) = ((t : Nat) : Int) + f i := by
  obtain ⟨e1, e2, _⟩ := cutQ_in (f := f) (n := n) hi
  have h1 := (okC_at hok hi).1
  have h2 := tN_sum f i
  exact ⟨by omega, by omega⟩
theorem sc_twice {m n : Nat} {f : Nat → UInt64} (hm : m ≤ 200) (hn : n ≤ 40) (h : ∀ k, k < n → (f k).toNat < 2 ^ 63) : sameI (cntF m f n) (cntF m (fun k => 2 * f k) n) n = true := sameI_iff.2 fun k hk => (cnt_twice hm hn h hk).symm
theorem sc_more {m n : Nat} {f : Nat → UInt64} (hm : m ≤ 200) (hn : n ≤ 39) (hz : (totN f n).val ≠ 0 ∨ m = 0) : sameI (catU (cntF m f n) n fun _ => 0) (cntF m (catU f n fun _ => 0) (n + 1)) (n + 1) = true := sameI_iff.2 fun k hk => (cnt_more hm hn hz hk).symm
theorem u63 {x : UInt64} (h : decide ((9223372036854775808 : UInt64) ≤ x) = false) : x.toNat < 2 ^ 63 := by
  have := of_decide_eq_false h
  rw [UInt64.le_iff_toNat_le] at this
  have e : (9223372036854775808 : UInt64).toNat = 2 ^ 63 := rfl
  omega
end Go.Eng
namespace Go.Eng
theorem sc_first {f : Nat → UInt64} : ∀ k, k < 1 → (fun _ => 2 * f 0) k = 2 * f k := fun k hk => by rw [show k = 0 by omega]
theorem sc_one {f : Nat → UInt64} (h : decide ((9223372036854775808 : UInt64) ≤ f 0) = false) : ∀ k, k < 1 → (f k).toNat < 2 ^ 63 := fun k hk => by rw [show k = 0 by omega]; exact u63 h
theorem sc_next {f G : Nat → UInt64} {i : Nat} (h : ∀ k, k < i → G k = 2 * f k) : ∀ k, k < i + 1 → catU G i (fun _ => 2 * f i) k = 2 * f k := fun k hk => by
  unfold catU
  by_cases h2 : k < i
  · rw [if_pos h2]; exact h k h2
  · rw [if_neg h2, show k = i by omega]
theorem sc_nextf {f : Nat → UInt64} {i : Nat} (h : ∀ k, k < i → (f k).toNat < 2 ^ 63) (hg : decide ((9223372036854775808 : UInt64) ≤ f i) = false) : ∀ k, k < i + 1 → (f k).toNat < 2 ^ 63 := fun k hk => by
  by_cases h2 : k < i
  · exact h k h2
  · rw [show k = i by omega]; exact u63 hg
theorem sc_small {f : Nat → UInt64} {i n : Nat} (h : ∀ k, k < i → (f k).toNat < 2 ^ 63) (e : i = n) : ∀ k, k < n → (f k).toNat < 2 ^ 63 := e ▸ h
theorem sc_imp {T m : Nat} (hz : T ≠ 0 ∨ m = 0) : T = 0 → m = 0 := fun h => hz.resolve_left fun h2 => h2 h
theorem scz_zero : (totN (catU (fun _ => 0) 0 fun _ => 0) (0 + 1)).val = 0 := rfl
end Go.Eng

namespace Go.Eng
section
open Go.ChangeShapes Go.WideShapes Go.ChangeAt Go.RowKit Go.Deep
variable {H : Type} {enc : TypeId × Value → H} {P : Program}
/-- Slices of Go's ints, handed in. -/
theorem open_sliceI {r : Reach} {b0 : Nat} {W : World} {base : Nat} {sp : Nat → Bool} {held : Bool} {t e : TypeId} {v : Value} {d : DataW H} {ps : List MemPlace} (ht : P.underlying t = some (.slice e)) (he : P.underlying e = some (.int .i64))
    (hc : P.cellsOf e = 1) (hval : Value.okWide P W r b0 t v) (hd : DataW.Trod enc P W base sp held t v d ps) :
    (∃ ao c, v = .slice ao 0 c) ∨ ∃ (b o n c : Nat) (f : Nat → Int), v = .slice (some ⟨b, o, none⟩) n c ∧ 0 < n ∧ n ≤ 9223372036854775807 ∧ Holds ⟨b, false, o, tabF n fun k => int (f k)⟩ W ∧ ∀ k, n ≤ k → f k = 0 := by
  obtain ⟨a1, len, cap, rfl⟩ := okWide_slice ht hval
  obtain ⟨fuel, hf⟩ := hd
  by_cases h0 : len = 0
  · subst h0; exact .inl ⟨_, _, rfl⟩
  rcases open_slice1 ht hc hf with ⟨hcs, _⟩ | ⟨a, len', cap', m, n, V, D, Pl, hcs, _, hl, hm, hmm, _, hx⟩
  · simp [Value.cells] at hcs
    exact absurd hcs.2.1 h0
  · simp [Value.cells] at hcs
    obtain ⟨rfl, rfl, rfl⟩ := hcs
    have hlm : len ≤ m := by rw [hmm]; split <;> omega
    have hspot : a.spot = none := World.cell?_spot (by
      have := (hx 0 (by omega)).1
      rwa [show a.add 0 = a from by cases a; simp [Addr.add]] at this)
    obtain ⟨ab, ao, spot⟩ := a
    simp only at hspot
    subst hspot
    have hV : ∀ i, i < len → ∃ x : Int, V i = int x := fun i hi => by
      obtain ⟨_, h2⟩ := hx i (by omega)
      obtain ⟨x0, e0, _, w0⟩ := DataW.trod_int he h2
      simp at e0
      exact ⟨x0, e0⟩
    obtain ⟨f, hfV⟩ := choose_lt (α := Int) (p := fun i x => V i = int x) hV
    refine .inr ⟨ab, ao, len, cap, fun k => if k < len then f k else 0, rfl, by omega, by unfold maxLen at hm; omega, ⟨lt_of_cell (hx 0 (by omega)).1, fun o v ho => ?_, (fun h => by cases h), obj_not rfl⟩, fun k hk => if_neg (by omega)⟩
    by_cases hol : o < len
    · rw [tabF_in hol] at ho
      injection ho with ho
      have := (hx o (by omega)).1
      rw [add_none] at this
      simp only [if_pos hol] at ho
      rw [this, hfV o hol, ho]
    · rw [tabF_out hol] at ho; cases ho
end
end Go.Eng
namespace Go.Eng
theorem ok_all {n : Nat} {f : Nat → Int} (h : okC n f) (h0 : ∀ k, n ≤ k → f k = 0) (k : Nat) : 0 ≤ f k ∧ f k ≤ 200 := by
  by_cases hk : k < n
  · have := okC_at h hk; omega
  · rw [h0 k (by omega)]; omega
theorem rg_no {n i t a b : Nat} {x : Int} (h1 : a = t) (h2 : ((b : Nat) : Int) = ((t : Nat) : Int) + x) (h3 : i < n) : selB (selB (decide (n ≤ i)) true (!(decide (a = t)))) true (((b : Nat) : Int) != ((t : Nat) : Int) + x) = false := by
  have e : ¬ n ≤ i := by omega
  simp [selB, e, h1, h2]
theorem ow_no {n w j a b : Nat} (h1 : w < n) (h2 : a ≤ j) (h3 : j < b) : selB (selB (selB (decide (w < 0)) true (decide (n ≤ w))) true (decide (j < a))) true (decide (b ≤ j)) = false := by
  have e1 : ¬ n ≤ w := by omega
  have e2 : ¬ j < a := by omega
  have e3 : ¬ b ≤ j := by omega
  simp [selB, e1, e2, e3]
end Go.Eng
namespace Go.Eng
theorem samei_self (f : Nat → Nat) (n : Nat) : sameI f f n = true := sameI_iff.2 fun _ _ => rfl
end Go.Eng
namespace Go.Eng
theorem ok_sum {n : Nat} {f : Nat → Int} (h : okC n f) (h0 : ∀ k, n ≤ k → f k = 0) (i : Nat) : sumF (tN f) i ≤ 200 := by
  rcases Nat.le_total i n with h1 | h1
  · exact Nat.le_trans (sumF_mono h1) h.2.2
  · obtain ⟨d, rfl⟩ := Nat.exists_eq_add_of_le h1
    rw [sumF_more (fun k hk => by unfold tN; rw [h0 k (by omega)]; rfl)]; exact h.2.2
theorem rr_x {n i k t : Nat} {f : Nat → Int} (h : okC n f) (hi : i < n) (ht : t = sumF (tN f) k) (e : k = i) : P2R.mk t (t + (f i).toNat) = rgF f i := by
  subst e; subst ht; rfl
end Go.Eng

namespace Go.Eng
set_option linter.unusedVariables false
set_option linter.unusedSimpArgs false
set_option maxRecDepth 100000
theorem cat_next {α : Type} {g h : Nat → α} {i : Nat} {v : α} (hk : ∀ k, k < i → g k = h k) (hv : v = h i) : ∀ k, k < i + 1 → catU g i (fun _ => v) k = h k := fun k h2 => by
  unfold catU
  by_cases h3 : k < i
  · rw [if_pos h3]; exact hk k h3
  · rw [if_neg h3, show k = i by omega]; exact hv
theorem cat_first {α : Type} {h : Nat → α} {v : α} (hv : v = h 0) : ∀ k, k < 1 → (fun _ => v) k = h k := fun k hk => by rw [show k = 0 by omega]; exact hv
/-- b is 0, or one more than the first of those that are left. -/
def bestI (D : Nat → Bool) (r : Nat → N4) (j b : Nat) : Prop := (b = 0 ∧ ∀ x, x < j → D x = true) ∨ (0 < b ∧ D (b - 1) = false ∧ ∀ x, x < j → D x = false → ltL (lkF r x) (lkF r (b - 1)) = false)
theorem best_zero {D : Nat → Bool} {r : Nat → N4} : bestI D r 0 0 := .inl ⟨rfl, fun x h => absurd h (Nat.not_lt_zero x)⟩
theorem best_take {D : Nat → Bool} {r Q : Nat → N4} {j b n : Nat} (h : bestI D r j b) (hb : b ≤ j) (hj : j < n) (hQ : ∀ k, k < n → Q k = r k)
    (hg : selB (!(D j)) (selB (decide (((b : Nat) : Int) - ((1 : Nat) : Int) < 0)) true (decide ((cmp4 (Q j) (Q (b - 1)) : Int) > 0))) false = true) : bestI D r (j + 1) (j + 1) := by
  have hD : D j = false := by cases hd : D j <;> simp [selB, hd] at hg ⊢
  refine .inr ⟨by omega, hD, fun x hx hDx => ?_⟩
  show ltL (lkF r x) (lkF r j) = false
  by_cases e : x = j
  · subst e; exact lk_irr _
  · rcases h with ⟨h0, h1⟩ | ⟨h0, h1, h2⟩
    · have := h1 x (by omega); rw [hDx] at this; cases this
    · rw [hD] at hg
      have hc : (cmp4 (Q j) (Q (b - 1)) : Int) > 0 := by
        have : decide (((b : Nat) : Int) - ((1 : Nat) : Int) < 0) = false := decide_eq_false (by omega)
        simp only [this] at hg
        simpa [selB] using hg
      rw [hQ j hj, hQ (b - 1) (by omega), cmp4_eq] at hc
      unfold ord at hc
      have h3 : (r (b - 1)).val < (r j).val := by
        split at hc
        · omega
        · split at hc <;> omega
      have h4 := h2 x (by omega) hDx
      rw [ltL_not] at h4 ⊢
      have h4 : ¬ ((r (b - 1)).val < (r x).val ∨ (r (b - 1)).val = (r x).val ∧ x < b - 1) := h4
      show ¬ ((r j).val < (r x).val ∨ (r j).val = (r x).val ∧ x < j)
      omega
theorem best_keep {D : Nat → Bool} {r Q : Nat → N4} {j b n : Nat} (h : bestI D r j b) (hb : b ≤ j) (hj : j < n) (hQ : ∀ k, k < n → Q k = r k)
    (hg : selB (!(D j)) (selB (decide (((b : Nat) : Int) - ((1 : Nat) : Int) < 0)) true (decide ((cmp4 (Q j) (Q (b - 1)) : Int) > 0))) false = false) : bestI D r (j + 1) b := by
  cases hD : D j with
  | true =>
    rcases h with ⟨h0, h1⟩ | ⟨h0, h1, h2⟩
    · refine .inl ⟨h0, fun x hx => ?_⟩
      by_cases e : x = j
      · subst e; exact hD
      · exact h1 x (by omega)
    · refine .inr ⟨h0, h1, fun x hx hDx => ?_⟩
      by_cases e : x = j
      · subst e; rw [hD] at hDx; cases hDx
      · exact h2 x (by omega) hDx
  | false =>
    rw [hD] at hg
    rcases h with ⟨h0, h1⟩ | ⟨h0, h1, h2⟩
    · subst h0; simp [selB] at hg
    · refine .inr ⟨h0, h1, fun x hx hDx => ?_⟩
      by_cases e : x = j
      · subst e
        have hc : ¬ (cmp4 (Q x) (Q (b - 1)) : Int) > 0 := by
          have : decide (((b : Nat) : Int) - ((1 : Nat) : Int) < 0) = false := decide_eq_false (by omega)
          simp only [this] at hg
          intro h5
          simp [selB, h5] at hg
        rw [hQ x hj, hQ (b - 1) (by omega), cmp4_eq] at hc
        unfold ord at hc
        rw [ltL_not]
        show ¬ ((r (b - 1)).val < (r x).val ∨ (r (b - 1)).val = (r x).val ∧ x < b - 1)
        intro h6
        apply hc
        rcases h6 with h6 | h6
        · rw [if_neg (by omega), if_pos h6]; decide
        · omega
      · exact h2 x (by omega) hDx
theorem best_next {D : Nat → Bool} {r : Nat → N4} {fl G : Nat → Nat} {n k b l : Nat} (hkl : k < l) (hl : l < n) (hD : ∀ j, j < n → D j = goneB r n k j) (hG : G = shC fl r n k) (h : bestI D r n b) (hb : b ≤ n) (h0 : 0 < b) :
    (k + 1 ≤ l ∧ l < n ∧ (∀ j, j < n → upd D (b - 1) true j = goneB r n (k + 1) j) ∧ upd G (b - 1) (G (b - 1) + 1) = shC fl r n (k + 1)) ∧ l - (k + 1) < l - k := by
  have hc : cntB (goneB r n k) n = k := gone_cnt (by omega)
  rcases h with ⟨h1, _⟩ | ⟨_, h1, h2⟩
  · omega
  · have hw : b - 1 < n := by omega
    have h3 : k ≤ rankL r n (b - 1) := by
      rw [hD _ hw] at h1; unfold goneB at h1; have := of_decide_eq_false h1; omega
    have hr : rankL r n (b - 1) = k := rank_next hc hw h3 fun j hj hkj => h2 j hj (by rw [hD j hj]; unfold goneB; exact decide_eq_false (by omega))
    refine ⟨⟨by omega, hl, fun j hj => ?_, by rw [hG]; exact shC_next hc hw hr⟩, by omega⟩
    rw [(gone_next hc hw hr).1 j hj]
    unfold upd
    by_cases e : j = b - 1
    · subst e; simp
    · simp [e, hD j hj]
theorem best_some {D : Nat → Bool} {r : Nat → N4} {n k b : Nat} (hk : k < n) (hD : ∀ j, j < n → D j = goneB r n k j) (h : bestI D r n b) : 0 < b := by
  rcases h with ⟨h1, h2⟩ | ⟨h1, _⟩
  · exfalso
    have hc : cntB (goneB r n k) n = k := gone_cnt (by omega)
    obtain ⟨w, hw, e⟩ := cntB_ex (p := goneB r n k) (n := n) (by omega)
    rw [← hD w hw, h2 w hw] at e; cases e
  · exact h1
theorem best_n {D : Nat → Bool} {r : Nat → N4} {j b n : Nat} (h : bestI D r j b) (e : j = n) : bestI D r n b := e ▸ h
theorem gone_first {r : Nat → N4} {n : Nat} : ∀ j, j < n → (fun _ => false) j = goneB r n 0 j := fun j _ => (gone_zero j).symm
theorem rshare_end {m n : Nat} {f : Nat → UInt64} {G : Nat → Nat} {k l i : Nat} (c : G = shC (flF m f n) (rsF m f n) n k) (hk : k = l) (e : i = n) (b2 : l + sumF (flF m f n) i = m) : G = cntF m f n := share_end c hk e b2
theorem rshare_lt {m n l i : Nat} {f : Nat → UInt64} (hm : m ≤ 200) (hn : n ≤ 40) (h0 : 0 < n) (hz : (totN f n).val = 0 → m = 0) (e : i = n) (h2 : l + sumF (flF m f n) i = m) : l < n := by
  subst e; have := fl_room hm hn h0 hz; omega
end Go.Eng

namespace Go.Eng
set_option linter.unusedVariables false
set_option linter.unusedSimpArgs false
set_option maxRecDepth 100000
theorem is_neq2 {P : Program} {t e t' : TypeId} {x y : Operand} (ht : P.underlying t = some (.array 2 e)) (he : P.underlying e = some (.int .i64)) (hs : sizeB P e = some 1) (hg : P.eqGuardType P.depth t = false) (a b c d : Nat) :
    IsOp P (.binOp .neq t x y t') [.agg #[nat a, nat b], .agg #[nat c, nat d]] (.bool (!(decide (a = c ∧ b = d)))) := isOp_bin (guard_arr hg) (by
  have h := pureRun_equalIn_arr (P := P) 9998 [(a : Int), (b : Int)] [(c : Int), (d : Int)] ht he hs rfl rfl
  have e1 : ((List.range 2).all fun i => [(a : Int), (b : Int)].getD i 0 == [(c : Int), (d : Int)].getD i 0) = decide (a = c ∧ b = d) := by
    rw [Bool.eq_iff_iff]
    simp [List.range, List.range.loop]
    omega
  rw [e1] at h
  show pureRun P (do pure (Value.bool (!(← Op.equal t (.agg #[nat a, nat b]) (.agg #[nat c, nat d]))))) = _
  have h2 : pureRun P (Op.equal t (.agg #[nat a, nat b]) (.agg #[nat c, nat d])) = some (decide (a = c ∧ b = d)) := h
  rw [pureRun_bind', h2]; rfl)
theorem tab_less {sz n c : Nat} {α : Type} {K : α → List Value} {g G : Nat → α} (hn : n ≤ c) (hg : ∀ k, k < n → g k = G k) : ∀ o v, (Cont.tab n sz fun k => K (g k)).get o = some v → (Cont.tab c sz fun k => K (G k)).get o = some v := fun o v ho => by
  by_cases hl : o < n * sz
  · have h2 : n * sz ≤ c * sz := Nat.mul_le_mul_right _ hn
    simp only [Cont.get, if_pos hl, if_pos (show o < c * sz by omega)] at ho ⊢
    rw [← hg _ (div_lt_row hl)]; exact ho
  · rw [tabE_out hl] at ho; cases ho
theorem rr_first {f : Nat → Int} {x : P2R} (hx : x = rgF f 0) (g : Nat → P2R) : ∀ k, k < 1 → pshG g 0 x p2Z 0 0 k = rgF f k := fun k hk => by rw [show k = 0 by omega, pshG_eq]; exact hx
theorem rr_next {f : Nat → Int} {i nm nw : Nat} {x : P2R} {g : Nat → P2R} (h : ∀ k, k < i → g k = rgF f k) (hx : x = rgF f i) : ∀ k, k < i + 1 → pshG g i x p2Z nm nw k = rgF f k := fun k hk => by
  by_cases h2 : k < i
  · rw [pshG_lt h2]; exact h k h2
  · rw [show k = i by omega, pshG_eq]; exact hx
theorem rg_cut {f : Nat → Int} {n i : Nat} (e : i = n) {G : Nat → P2R} (h : ∀ k, k < i → G k = rgF f k) : ∀ k, k < n → cutQ f n k = G k := fun k hk => by
  subst e; unfold cutQ; rw [if_pos hk, h k hk]
theorem nat_toNat {x : Int} (h : 0 ≤ x) : ((x.toNat : Nat) : Int) = x := by omega
end Go.Eng
