/-
  What all have together stays, whatever is done.
-/
import Derived.Test.YtflbdmbiceenjaaPurFair
namespace Go.Eng
open Go.RowKit Go.WideShapes Go.ChangeShapes Go.ChangeAt Go.Deep
set_option linter.unusedSimpArgs false
set_option linter.unusedVariables false
set_option maxRecDepth 100000

theorem sumU_upd {f : Nat → UInt64} {n a : Nat} {v : UInt64} (h : a < n) : sumU (upd f a v) n + (f a).toNat = sumU f n + v.toNat := by
  induction n with
  | zero => omega
  | succ n ih =>
    simp only [sumU]
    by_cases e : a = n
    · subst e
      have h0 : ∀ k, k ≤ a → sumU (upd f a v) k = sumU f k := by
        intro k; induction k with
        | zero => intro _; rfl
        | succ k ih2 => intro hk; simp only [sumU]; rw [ih2 (by omega)]; simp [upd, show k ≠ a by omega]
      rw [h0 a (Nat.le_refl _)]
      simp only [upd, if_true]; omega
    · have := ih (by omega)
      have e2 : upd f a v n = f n := by simp [upd, show n ≠ a by omega]
      rw [e2]; omega
theorem sum_move {n : Nat} {f : Nat → UInt64} {i j : Int} {x : UInt64} (hg : goodN n f) : sumU (moveF n f i j x) n = sumU f n := by
  by_cases h : moveE n f i j x = 0
  · have h0 := h
    rw [moveF_ok h]
    unfold moveE at h
    split at h
    · rename_i hij
      obtain ⟨hi, hj⟩ := hij
      split at h
      · cases h
      · rename_i hx
        have hi' := isI_iff.1 hi
        have hj' := isI_iff.1 hj
        have hs := (goodN_sum.1 hg).2
        generalize ha : i.toNat = a at *
        generalize hb : j.toNat = b at *
        have han : a < n := by omega
        have hbn : b < n := by omega
        have hxn : x.toNat ≤ (f a).toNat := by rw [UInt64.lt_iff_toNat_lt] at hx; omega
        have e1 : (f a - x).toNat = (f a).toNat - x.toNat := UInt64.toNat_sub_of_le _ _ (by rw [UInt64.le_iff_toNat_le]; exact hxn)
        have s1 := sumU_upd (f := f) (v := f a - x) han
        have s2 := sumU_upd (f := upd f a (f a - x)) (v := upd f a (f a - x) b + x) hbn
        have one := sumU_one (f := f) han
        by_cases hab : b = a
        · subst hab
          have e2 : upd f b (f b - x) b = f b - x := by simp [upd]
          rw [e2, UInt64.sub_add_cancel] at s2
          rw [e2, UInt64.sub_add_cancel]
          omega
        · have e2 : upd f a (f a - x) b = f b := by simp [upd, hab]
          have two := sumU_two (f := f) han hbn (fun e => hab e.symm)
          have e3 : (f b + x).toNat = (f b).toNat + x.toNat := by rw [UInt64.toNat_add, Nat.mod_eq_of_lt (by omega)]
          rw [e2] at s2 ⊢
          omega
    · cases h
  · rw [moveF_no h]
theorem good_of_sum {n : Nat} {f g : Nat → UInt64} (hg : goodN n f) (h : sumU g n = sumU f n) : goodN n g := by
  rw [goodN_sum] at hg ⊢; rw [h]; exact hg
theorem parts_le {n : Nat} {g : Nat → UInt64} {pot : UInt64} (hn : n ≤ 40) :
    sumF (fun j => (partP pot (g j) (totN g n)).toNat) n ≤ pot.toNat := by
  have hv : (totN g n).val = sumF (fun j => (g j).toNat) n := by rw [totN_val _ _ (by omega), sumU_sumF]
  rw [sumF_congr (q := fun j => pot.toNat * (g j).toNat / (totN g n).val) fun k hk => by rw [partP_val]; rw [hv]; exact sumF_one (q := fun j => (g j).toNat) hk]
  by_cases h0 : (totN g n).val = 0
  · have : ∀ m, sumF (fun j => pot.toNat * (g j).toNat / (totN g n).val) m = 0 := by
      intro m; induction m with
      | zero => rfl
      | succ m ih => simp only [sumF]; rw [ih, h0, Nat.div_zero]
    rw [this]; omega
  · have h1 := (sumF_div (pot := pot.toNat) (T := (totN g n).val) (q := fun j => (g j).toNat) (by omega) n).1
    rw [← hv] at h1
    exact Nat.le_of_mul_le_mul_right h1 (by omega)
theorem sumF_add (p q : Nat → Nat) : ∀ n, sumF (fun j => p j + q j) n = sumF p n + sumF q n
  | 0 => rfl
  | n + 1 => by simp only [sumF]; rw [sumF_add p q n]; omega
theorem sum_spread {n : Nat} {f : Nat → UInt64} {i j : Int} {m : Nat} {g : Nat → UInt64} (hg : goodN n f) : sumU (spreadF n f i j m g) n = sumU f n := by
  by_cases h : spreadE n i j m = 0
  · have h0 := h
    unfold spreadF
    rw [if_pos h]
    unfold spreadE at h
    split at h
    · rename_i hij
      obtain ⟨hi, hj, rfl⟩ := hij
      have hi' := isI_iff.1 hi
      have hj' := isI_iff.1 hj
      have hs := goodN_sum.1 hg
      generalize ha : i.toNat = a at *
      generalize hb : j.toNat = b at *
      have han : a < m := by omega
      have hbn : b < m := by omega
      have s0 := sumU_upd (f := f) (v := 0) han
      have z : (0 : UInt64).toNat = 0 := rfl
      rw [z] at s0
      have hp := parts_le (g := g) (pot := f a) hs.1
      have hl := sprS_left (f := upd f a 0) (pot := f a) (g := g) (T := totN g m) m hp
      have hrow : ∀ k, k < m → ((sprS (upd f a 0) (f a) g (totN g m) m).1 k).toNat = (upd f a 0 k).toNat + (partP (f a) (g k) (totN g m)).toNat := fun k hk => by
        rw [sprS_row, if_pos hk, UInt64.toNat_add, Nat.mod_eq_of_lt]
        have h1 := sumU_one (f := upd f a 0) hk
        have h2 := sumF_one (q := fun j => (partP (f a) (g j) (totN g m)).toNat) hk
        omega
      have hsum : sumU (sprS (upd f a 0) (f a) g (totN g m) m).1 m = sumU (upd f a 0) m + sumF (fun j => (partP (f a) (g j) (totN g m)).toNat) m := by
        rw [sumU_sumF, sumF_congr hrow, sumF_add, ← sumU_sumF]
      have s3 := sumU_upd (f := (sprS (upd f a 0) (f a) g (totN g m) m).1) (v := (sprS (upd f a 0) (f a) g (totN g m) m).1 b + (sprS (upd f a 0) (f a) g (totN g m) m).2) hbn
      have h1 := sumU_one (f := (sprS (upd f a 0) (f a) g (totN g m) m).1) hbn
      rw [UInt64.toNat_add, Nat.mod_eq_of_lt (by omega)] at s3
      omega
    · cases h
  · unfold spreadF; rw [if_neg h]
theorem totN_sum {n : Nat} {f g : Nat → UInt64} (hn : n ≤ 40) (h : sumU g n = sumU f n) : totN g n = totN f n := by
  apply N4.ext_val
  rw [totN_val _ _ (by omega), totN_val _ _ (by omega), h]
theorem totN_a {n : Nat} {f : Nat → UInt64} (hg : goodN n f) : totN f n = ⟨(totN f n).a, 0, 0, 0⟩ := by
  have hs := goodN_sum.1 hg
  have hv := totN_val f n (by omega)
  apply N4.ext_val
  have h1 := N4.a_of_lt (q := totN f n) (by omega)
  rw [show (N4.mk (totN f n).a 0 0 0).val = (totN f n).a.toNat from smallN_val _, h1]
def sumW (f : Nat → UInt64) : Nat → UInt64
  | 0 => 0
  | k + 1 => sumW f k + f k
theorem sumW_val (f : Nat → UInt64) : ∀ n, sumU f n < 2 ^ 64 → (sumW f n).toNat = sumU f n
  | 0, _ => rfl
  | n + 1, h => by
    simp only [sumU] at h
    have := sumW_val f n (by omega)
    simp only [sumW, sumU]
    rw [UInt64.toNat_add, this, Nat.mod_eq_of_lt h]
theorem tot_sumW {n : Nat} {f : Nat → UInt64} (hg : goodN n f) : (totN f n).a = sumW f n := by
  have hs := goodN_sum.1 hg
  have hv := totN_val f n (by omega)
  apply UInt64.toNat_inj.1
  rw [N4.a_of_lt (by omega), hv, sumW_val f n (by omega)]
/-- A block that was left is left out. -/
theorem Runs.newer {P : Program} {f : FuncId} {args : List Value} {bs : List Blk} {k : Nat} {v : List Nat → Value} {b0 : Option Blk} {B : List Nat → Blk} (hB : ∀ ns, (B ns).own = true) (h : Runs P f args bs k v (fun ns => [b0, some (B ns)])) :
    Runs P f args bs k v (fun ns => [some (B ns)]) := fun w hb ha => Calls.mono (h w hb ha) fun _ _ ⟨ns, h1, h2, h3⟩ => ⟨ns, h1, h2, by
  have e : ∀ p b, listMem [some (B ns)] p = some b → p = 0 ∧ b = B ns := fun p b hp => by
    rcases p with _ | p
    · cases hp; exact ⟨rfl, rfl⟩
    · simp [listMem] at hp
  have e1 : listMem [b0, some (B ns)] 1 = some (B ns) := rfl
  refine ⟨fun p b hp => ?_, fun p q b c hpq hb hc ho => ?_, ⟨h3.adv.os, h3.adv.output, h3.adv.tape, h3.adv.size, h3.adv.heap, fun j hj => ?_, fun p b hp ho => ?_⟩⟩
  · rw [(e p b hp).2]; exact h3.holds 1 _ e1
  · exact absurd ((e p b hb).1.trans (e q c hc).1.symm) hpq
  · obtain ⟨p, b, hp, ho, rfl⟩ := hj
    rw [(e p b hp).2] at ho ⊢
    exact h3.adv.names _ ⟨1, _, e1, ho, rfl⟩
  · rw [(e p b hp).2, hB ns] at ho; cases ho⟩
theorem minU_comm (a b : UInt64) : minU a b = minU b a := by
  unfold minU
  by_cases h1 : b < a
  · rw [if_pos h1, if_neg (fun h2 => absurd (UInt64.lt_trans h1 h2) (UInt64.lt_irrefl _))]
  · rw [if_neg h1]
    by_cases h2 : a < b
    · rw [if_pos h2]
    · rw [if_neg h2]; exact UInt64.le_antisymm (UInt64.not_lt.1 h1) (UInt64.not_lt.1 h2)
theorem Runs.newest {P : Program} {f : FuncId} {args : List Value} {bs : List Blk} {k : Nat} {v : List Nat → Value} {out : List Nat → List (Option Blk)} {B : List Nat → Blk} (i : Nat) (hB : ∀ ns, (B ns).own = true) (hi : ∀ ns, listMem (out ns) i = some (B ns)) (h : Runs P f args bs k v out) :
    Runs P f args bs k v (fun ns => [some (B ns), none]) := fun w hb ha => Calls.mono (h w hb ha) fun _ _ ⟨ns, h1, h2, h3⟩ => ⟨ns, h1, h2, by
  have e : ∀ p b, listMem [some (B ns), none] p = some b → p = 0 ∧ b = B ns := fun p b hp => by
    rcases p with _ | _ | p
    · cases hp; exact ⟨rfl, rfl⟩
    · cases hp
    · simp [listMem] at hp
  refine ⟨fun p b hp => ?_, fun p q b c hpq hb hc ho => ?_, ⟨h3.adv.os, h3.adv.output, h3.adv.tape, h3.adv.size, h3.adv.heap, fun j hj => ?_, fun p b hp ho => ?_⟩⟩
  · rw [(e p b hp).2]; exact h3.holds i _ (hi ns)
  · exact absurd ((e p b hb).1.trans (e q c hc).1.symm) hpq
  · obtain ⟨p, b, hp, ho, rfl⟩ := hj
    rw [(e p b hp).2] at ho ⊢
    exact h3.adv.names _ ⟨i, _, hi ns, ho, rfl⟩
  · rw [(e p b hp).2, hB ns] at ho; cases ho⟩
theorem part_zero {x y : UInt64} {m : N4} (h : ((errD m : Int) != 0) = true) : partP x y m = 0 := by
  have hm : m.val = 0 := by
    unfold errD at h
    cases h0 : eq4 m ⟨0, 0, 0, 0⟩ with
    | false => rw [h0] at h; simp at h
    | true => rw [eq4_val] at h0; exact of_decide_eq_true h0
  have hv : (wholeP x y m).val = 0 := by unfold wholeP quoD; rw [N4.val_ofNat, hm, Nat.div_zero]
  unfold partP
  have hl : ¬ 64 < len4 (wholeP x y m) := by
    rw [len4_val, hv]; decide
  rw [if_neg hl]
  apply UInt64.toNat_inj.1
  rw [N4.a_of_lt (by omega), hv]; rfl
theorem high_iff (q : N4) : (selB (selB (decide (0 < q.b)) true (decide (0 < q.c))) true (decide (0 < q.d))) = decide (64 < len4 q) := by
  have h1 : 64 < len4 q ↔ 2 ^ 64 ≤ q.val := by
    rw [len4_val]
    constructor
    · intro h
      apply Nat.le_of_not_lt
      intro h2
      have := bitLen_le_of_lt (k := 64) h2
      omega
    · intro h
      apply Nat.lt_of_not_le
      intro h2
      have h3 := bitLen_lt q.val
      have := Nat.lt_of_lt_of_le h3 (Nat.pow_le_pow_right (by decide) h2)
      omega
  have ha := q.a.toNat_lt
  have e : (2 ^ 64 ≤ q.val) ↔ (0 < q.b ∨ 0 < q.c ∨ 0 < q.d) := by
    simp only [UInt64.lt_iff_toNat_lt]
    rw [show (0 : UInt64).toNat = 0 from rfl]
    unfold N4.val
    omega
  have h2 := h1.trans e
  rw [selB_or, selB_or]
  by_cases hl : 64 < len4 q
  · rw [decide_eq_true hl]; rcases h2.1 hl with h | h | h <;> simp [h]
  · have h3 := fun h => hl (h2.2 h)
    rw [decide_eq_false hl, decide_eq_false (fun h => h3 (.inl h)), decide_eq_false (fun h => h3 (.inr (.inl h))), decide_eq_false (fun h => h3 (.inr (.inr h)))]; rfl
theorem tot_cond (q : N4) : (selB (selB (selB (decide (0 < q.b)) true (decide (0 < q.c))) true (decide (0 < q.d))) true (decide (9223372036854775808 ≤ q.a))) = decide (63 < len4 q) := by
  have h1 : 63 < len4 q ↔ 2 ^ 63 ≤ q.val := by
    rw [len4_val]
    constructor
    · intro h
      apply Nat.le_of_not_lt
      intro h2
      have := bitLen_le_of_lt (k := 63) h2
      omega
    · intro h
      apply Nat.lt_of_not_le
      intro h2
      have h3 := bitLen_lt q.val
      have := Nat.lt_of_lt_of_le h3 (Nat.pow_le_pow_right (by decide) h2)
      omega
  have ha := q.a.toNat_lt
  have e : (2 ^ 63 ≤ q.val) ↔ (0 < q.b ∨ 0 < q.c ∨ 0 < q.d ∨ 9223372036854775808 ≤ q.a) := by
    simp only [UInt64.lt_iff_toNat_lt, UInt64.le_iff_toNat_le]
    rw [show (0 : UInt64).toNat = 0 from rfl, show (9223372036854775808 : UInt64).toNat = 9223372036854775808 from rfl]
    unfold N4.val
    omega
  have h2 := h1.trans e
  rw [selB_or, selB_or, selB_or]
  by_cases hl : 63 < len4 q
  · rw [decide_eq_true hl]; rcases h2.1 hl with h | h | h | h <;> simp [h]
  · have h3 := fun h => hl (h2.2 h)
    rw [decide_eq_false hl, decide_eq_false (fun h => h3 (.inl h)), decide_eq_false (fun h => h3 (.inr (.inl h))), decide_eq_false (fun h => h3 (.inr (.inr (.inl h)))), decide_eq_false (fun h => h3 (.inr (.inr (.inr h))))]; rfl
end Go.Eng
