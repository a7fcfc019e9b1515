/-
  What all have together stays, whatever is done.
-/
import Derived.Test.YtekbbehnlohikaaPurFair
namespace Go.Eng
open Go.RowKit Go.WideShapes Go.ChangeShapes Go.ChangeAt Go.Deep
set_option linter.unusedSimpArgs false
set_option linter.unusedVariables false
set_option maxRecDepth 100000

theorem sumU_upd {f : Nat → UInt64} {n a : Nat} {v : UInt64} (h : a < n) : sumU (upd f a v) n + (f a).toNat = sumU f n + v.toNat := by
  induction n with
  | zero => omega
  | succ n ih =>
    simp only [sumU]
    by_cases e : a = n
    · subst e
      have h0 : ∀ k, k ≤ a → sumU (upd f a v) k = sumU f k := by
        intro k; induction k with
        | zero => intro _; rfl
        | succ k ih2 => intro hk; simp only [sumU]; rw [ih2 (by omega)]; simp [upd, show k ≠ a by omega]
      rw [h0 a (Nat.le_refl _)]
      simp only [upd, if_true]; omega
    · have := ih (by omega)
      have e2 : upd f a v n = f n := by simp [upd, show n ≠ a by omega]
      rw [e2]; omega
theorem sum_move {n : Nat} {f : Nat → UInt64} {i j : Int} {x : UInt64} (hg : goodN n f) : sumU (moveF n f i j x) n = sumU f n := by
  by_cases h : moveE n f i j x = 0
  · have h0 := h
    rw [moveF_ok h]
    unfold moveE at h
    split at h
    · rename_i hij
      obtain ⟨hi, hj⟩ := hij
      split at h
      · cases h
      · rename_i hx
        have hi' := isI_iff.1 hi
        have hj' := isI_iff.1 hj
        have hs := (goodN_sum.1 hg).2
        generalize ha : i.toNat = a at *
        generalize hb : j.toNat = b at *
        have han : a < n := by omega
        have hbn : b < n := by omega
        have hxn : x.toNat ≤ (f a).toNat := by rw [UInt64.lt_iff_toNat_lt] at hx; omega
        have e1 : (f a - x).toNat = (f a).toNat - x.toNat := UInt64.toNat_sub_of_le _ _ (by rw [UInt64.le_iff_toNat_le]; exact hxn)
        have s1 := sumU_upd (f := f) (v := f a - x) han
        have s2 := sumU_upd (f := upd f a (f a - x)) (v := upd f a (f a - x) b + x) hbn
        have one := sumU_one (f := f) han
        by_cases hab : b = a
        · subst hab
          have e2 : upd f b (f b - x) b = f b - x := by simp [upd]
          rw [e2, UInt64.sub_add_cancel] at s2
          rw [e2, UInt64.sub_add_cancel]
          omega
        · have e2 : upd f a (f a - x) b = f b := by simp [upd, hab]
          have two := sumU_two (f := f) han hbn (fun e => hab e.symm)
          have e3 : (f b + x).toNat = (f b).toNat + x.toNat := by rw [UInt64.toNat_add, Nat.mod_eq_of_lt (by omega)]
          rw [e2] at s2 ⊢
          omega
    · cases h
  · rw [moveF_no h]
theorem good_of_sum {n : Nat} {f g : Nat → UInt64} (hg : goodN n f) (h : sumU g n = sumU f n) : goodN n g := by
  rw [goodN_sum] at hg ⊢; rw [h]; exact hg
theorem parts_le {n : Nat} {g : Nat → UInt64} {pot : UInt64} (hn : n ≤ 40) :
    sumF (fun j => (partP pot (g j) (totN g n)).toNat) n ≤ pot.toNat := by
  have hv : (totN g n).val = sumF (fun j => (g j).toNat) n := by rw [totN_val _ _ (by omega), sumU_sumF]
  rw [sumF_congr (q := fun j => pot.toNat * (g j).toNat / (totN g n).val) fun k hk => by rw [partP_val]; rw [hv]; exact sumF_one (q := fun j => (g j).toNat) hk]
  by_cases h0 : (totN g n).val = 0
  · have : ∀ m, sumF (fun j => pot.toNat * (g j).toNat / (totN g n).val) m = 0 := by
      intro m; induction m with
      | zero => rfl
      | succ m ih => simp only [sumF]; rw [ih, h0, Nat.div_zero]
    rw [this]; omega
  · have h1 := (sumF_div (pot := pot.toNat) (T := (totN g n).val) (q := fun j => (g j).toNat) (by omega) n).1
    rw [← hv] at h1
    exact Nat.le_of_mul_le_mul_right h1 (by omega)
theorem sumF_add (p q : Nat → Nat) : ∀ n, sumF (fun j => p j + q j) n = sumF p n + sumF q n
  | 0 => rfl
  | n + 1 => by simp only [sumF]; rw [sumF_add p q n]; omega
theorem sum_spread {n : Nat} {f : Nat → UInt64} {i j : Int} {m : Nat} {g : Nat → UInt64} (hg : goodN n f) : sumU (spreadF n f i j m g) n = sumU f n := by
  by_cases h : spreadE n i j m = 0
  · have h0 := h
    unfold spreadF
    rw [if_pos h]
    unfold spreadE at h
    split at h
    · rename_i hij
      obtain ⟨hi, hj, rfl⟩ := hij
      have hi' := isI_iff.1 hi
      have hj' := isI_iff.1 hj
      have hs := goodN_sum.1 hg
      generalize ha : i.toNat = a at *
      generalize hb : j.toNat = b at *
      have han : a < m := by omega
      have hbn : b < m := by omega
      have s0 := sumU_upd (f := f) (v := 0) han
      have z : (0 : UInt64).toNat = 0 := rfl
      rw [z] at s0
      have hp := parts_le (g := g) (pot := f a) hs.1
      have hl := sprS_left (f := upd f a 0) (pot := f a) (g := g) (T := totN g m) m hp
      have hrow : ∀ k, k < m → ((sprS (upd f a 0) (f a) g (totN g m) m).1 k).toNat = (upd f a 0 k).toNat + (partP (f a) (g k) (totN g m)).toNat := fun k hk => by
        rw [sprS_row, if_pos hk, UInt64.toNat_add, Nat.mod_eq_of_lt]
        have h1 := sumU_one (f := upd f a 0) hk
        have h2 := sumF_one (q := fun j => (partP (f a) (g j) (totN g m)).toNat) hk
        omega
      have hsum : sumU (sprS (upd f a 0) (f a) g (totN g m) m).1 m = sumU (upd f a 0) m + sumF (fun j => (partP (f a) (g j) (totN g m)).toNat) m := by
        rw [sumU_sumF, sumF_congr hrow, sumF_add, ← sumU_sumF]
      have s3 := sumU_upd (f := (sprS (upd f a 0) (f a) g (totN g m) m).1) (v := (sprS (upd f a 0) (f a) g (totN g m) m).1 b + (sprS (upd f a 0) (f a) g (totN g m) m).2) hbn
      have h1 := sumU_one (f := (sprS (upd f a 0) (f a) g (totN g m) m).1) hbn
      rw [UInt64.toNat_add, Nat.mod_eq_of_lt (by omega)] at s3
      omega
    · cases h
  · unfold spreadF; rw [if_neg h]
theorem totN_sum {n : Nat} {f g : Nat → UInt64} (hn : n ≤ 40) (h : sumU g n = sumU f n) : totN g n = totN f n := by
  apply N4.ext_val
  rw [totN_val _ _ (by omega), totN_val _ _ (by omega), h]
theorem totN_a {n : Nat} {f : Nat → UInt64} (hg : goodN n f) : totN f n = ⟨(totN f n).a, 0, 0, 0⟩ := by
  have hs := goodN_sum.1 hg
  have hv := totN_val f n (by omega)
  apply N4.ext_val
  have h1 := N4.a_of_lt (q := totN f n) (by omega)
  rw [show (N4.mk (totN f n).a 0 0 0).val = (totN f n).a.toNat from smallN_val _, h1]
def sumW (f : Nat → UInt64) : Nat → UInt64
  | 0 => 0
  | k + 1 => sumW f k + f k
theorem sumW_val (f : Nat → UInt64) : ∀ n, sumU f n < 2 ^ 64 → (sumW f n).toNat = sumU f n
  | 0, _ => rfl
  | n + 1, h => by
    simp only [sumU] at h
    have := sumW_val f n (by omega)
    simp only [sumW, sumU]
    rw [UInt64.toNat_add, this, Nat.mod_eq_of_lt h]
theorem tot_sumW {n : Nat} {f : Nat → UInt64} (hg : goodN n f) : (totN f n).a = sumW f n := by
  have hs := goodN_sum.1 hg
  have hv := totN_val f n (by omega)
  apply UInt64.toNat_inj.1
  rw [N4.a_of_lt (by omega), hv, sumW_val f n (by omega)]
end Go.Eng
