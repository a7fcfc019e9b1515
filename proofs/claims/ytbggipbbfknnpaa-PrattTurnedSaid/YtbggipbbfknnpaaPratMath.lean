/-
  Layer 4: what is proved is prime (Lucas), without the library's algebra; in which order factors stand does not matter.
-/
import Derived.Test.YtbggipbbfknnpaaPratDef
namespace Go.Eng
set_option linter.unusedSimpArgs false
set_option linter.unusedVariables false
set_option maxRecDepth 100000

def IsPr (p : Nat) : Prop := 2 ≤ p ∧ ∀ d, d ∣ p → d = 1 ∨ d = p
theorem least (P : Nat → Prop) : ∀ k, P k → ∃ j, P j ∧ ∀ i, i < j → ¬ P i := by
  intro k
  induction k using Nat.strongRecOn with
  | _ k ih =>
    intro h
    by_cases h2 : ∃ i, i < k ∧ P i
    · obtain ⟨i, hi, hp⟩ := h2
      exact ih i hi hp
    · exact ⟨k, h, fun i hi hp => h2 ⟨i, hi, hp⟩⟩
theorem pr_in {q : Nat} (h : 2 ≤ q) : ∃ s, IsPr s ∧ s ∣ q := by
  obtain ⟨s, ⟨h1, h2⟩, h3⟩ := least (fun s => 2 ≤ s ∧ s ∣ q) q ⟨h, Nat.dvd_refl q⟩
  refine ⟨s, ⟨h1, fun d hd => ?_⟩, h2⟩
  rcases Nat.lt_or_ge d 2 with hlt | hge
  · rcases (show d = 0 ∨ d = 1 by omega) with rfl | rfl
    · have := Nat.eq_zero_of_zero_dvd hd; omega
    · exact .inl rfl
  · right
    have hle := Nat.le_of_dvd (by omega) hd
    rcases Nat.lt_or_ge d s with hl | hg
    · exact absurd ⟨hge, Nat.dvd_trans hd h2⟩ (h3 d hl)
    · omega
theorem pr_mul {s a b : Nat} (hs : IsPr s) (h : s ∣ a * b) : s ∣ a ∨ s ∣ b := by
  rcases hs.2 (Nat.gcd s a) (Nat.gcd_dvd_left s a) with h1 | h1
  · exact .inr (Nat.Coprime.dvd_of_dvd_mul_left h1 h)
  · left; rw [← h1]; exact Nat.gcd_dvd_right s a
theorem pr_pow {s a : Nat} (hs : IsPr s) : ∀ {e : Nat}, s ∣ a ^ e → s ∣ a
  | 0, h => by
    have h1 := Nat.le_of_dvd (by decide) (show s ∣ 1 by simpa using h)
    have := hs.1; omega
  | e + 1, h => by
    rw [Nat.pow_succ] at h
    rcases pr_mul hs h with h1 | h1
    · exact pr_pow hs h1
    · exact h1
def prodN (f : Nat → FacR) : Nat → Nat
  | 0 => 1
  | i + 1 => prodN f i * (f i).p.val ^ (f i).e.toNat
theorem pr_prod {s : Nat} {f : Nat → FacR} (hs : IsPr s) : ∀ {n : Nat}, s ∣ prodN f n → ∃ i, i < n ∧ s ∣ (f i).p.val
  | 0, h => by
    have h1 := Nat.le_of_dvd (by decide) (show s ∣ 1 from h)
    have := hs.1; omega
  | n + 1, h => by
    rcases pr_mul hs h with h1 | h1
    · obtain ⟨i, hi, h2⟩ := pr_prod hs h1
      exact ⟨i, by omega, h2⟩
    · exact ⟨n, by omega, pr_pow hs h1⟩
/-- Of one more than there is room for two are alike. -/
theorem pigeon : ∀ (n : Nat) (f : Nat → Nat), (∀ i, i < n + 1 → f i < n) → ∃ i j, i < j ∧ j < n + 1 ∧ f i = f j
  | 0, f, h => absurd (h 0 (by omega)) (by omega)
  | n + 1, f, h => by
    by_cases hv : ∃ i, i < n + 1 ∧ f i = f (n + 1)
    · obtain ⟨i, hi, e⟩ := hv
      exact ⟨i, n + 1, hi, by omega, e⟩
    · have hne : ∀ i, i < n + 1 → f i ≠ f (n + 1) := fun i hi e => hv ⟨i, hi, e⟩
      obtain ⟨i, j, h1, h2, h3⟩ := pigeon n (fun i => if f (n + 1) < f i then f i - 1 else f i) (fun i hi => by
        have a1 := h i (by omega)
        have a2 := h (n + 1) (by omega)
        have a3 := hne i hi
        show (if f (n + 1) < f i then f i - 1 else f i) < n
        split <;> omega)
      refine ⟨i, j, h1, by omega, ?_⟩
      have a1 := hne i (by omega)
      have a2 := hne j (by omega)
      split at h3 <;> split at h3 <;> omega
theorem pow_mod_add {g n a b : Nat} (h : g ^ a % n = 1) : g ^ (a + b) % n = g ^ b % n := by
  rw [Nat.pow_add, Nat.mul_mod, h, Nat.one_mul, Nat.mod_mod]
theorem pow_mod_mul {g n a : Nat} (hn : 1 < n) (h : g ^ a % n = 1) : ∀ k, g ^ (a * k) % n = 1
  | 0 => by simp; exact Nat.mod_eq_of_lt hn
  | k + 1 => by rw [Nat.mul_succ, Nat.add_comm, pow_mod_add h]; exact pow_mod_mul hn h k
theorem lucas {n g : Nat} {f : Nat → FacR} {k : Nat} (hn : 2 < n) (hp : ∀ i, i < k → IsPr (f i).p.val) (hm : prodN f k = n - 1) (h1 : g ^ (n - 1) % n = 1) (h2 : ∀ i, i < k → g ^ ((n - 1) / (f i).p.val) % n ≠ 1) : IsPr n := by
  obtain ⟨t, ⟨ht0, ht1⟩, htm⟩ := least (fun t => 0 < t ∧ g ^ t % n = 1) (n - 1) ⟨by omega, h1⟩
  have hdiv : ∀ j, g ^ j % n = 1 → t ∣ j := fun j hj => by
    have e := Nat.div_add_mod j t
    have hlt := Nat.mod_lt j ht0
    rcases Nat.eq_zero_or_pos (j % t) with h0 | h0
    · exact Nat.dvd_of_mod_eq_zero h0
    · refine absurd ⟨h0, ?_⟩ (htm (j % t) hlt)
      rw [← e, pow_mod_add (pow_mod_mul (by omega) ht1 (j / t))] at hj
      exact hj
  have htn : t = n - 1 := by
    obtain ⟨q, hq⟩ := hdiv _ h1
    rcases Nat.lt_or_ge q 2 with hq2 | hq2
    · rcases (show q = 0 ∨ q = 1 by omega) with rfl | rfl
      · omega
      · omega
    · exfalso
      obtain ⟨s, hs, hsq⟩ := pr_in hq2
      have hsn : s ∣ prodN f k := by rw [hm, hq]; exact Nat.dvd_trans hsq (Nat.dvd_mul_left q t)
      obtain ⟨i, hi, hsi⟩ := pr_prod hs hsn
      have hsp : s = (f i).p.val := by
        rcases (hp i hi).2 s hsi with h3 | h3
        · have := hs.1; omega
        · exact h3
      obtain ⟨c, hc⟩ := hsq
      refine h2 i hi ?_
      rw [← hsp, hq, hc, show t * (s * c) / s = t * c by
        rw [← Nat.mul_assoc, Nat.mul_comm t s, Nat.mul_assoc, Nat.mul_div_cancel_left _ (by have := hs.1; omega)]]
      exact pow_mod_mul (by omega) ht1 c
  refine ⟨by omega, fun d hd => ?_⟩
  rcases Nat.eq_or_lt_of_le (Nat.le_of_dvd (by omega) hd) with h3 | h3
  · exact .inr h3
  · left
    have hd0 : 0 < d := Nat.pos_of_dvd_of_pos hd (by omega)
    -- powers are n - 1 numbers, from 1 on; d is one of them
    have hlt : ∀ j, g ^ j % n < n := fun j => Nat.mod_lt _ (by omega)
    have hpos : ∀ j, j ≤ n - 1 → 0 < g ^ j % n := fun j hj => by
      rcases Nat.eq_zero_or_pos (g ^ j % n) with h0 | h0
      · have : g ^ (n - 1) % n = 0 := by
          rw [show n - 1 = j + (n - 1 - j) by omega, Nat.pow_add, Nat.mul_mod, h0, Nat.zero_mul, Nat.zero_mod]
        omega
      · exact h0
    have hinj : ∀ i j, i < j → j < n - 1 → g ^ i % n ≠ g ^ j % n := fun i j hij hj e => by
      have h4 : g ^ (n - 1 - j + i) % n = g ^ (n - 1) % n := by
        rw [Nat.pow_add, Nat.mul_mod, e, ← Nat.mul_mod, ← Nat.pow_add, show n - 1 - j + j = n - 1 by omega]
      rw [h1] at h4
      have := Nat.le_of_dvd (by omega) (hdiv _ h4)
      omega
    have hex : ∃ j, j < n - 1 ∧ g ^ j % n = d := by
      by_cases hx : ∃ j, j < n - 1 ∧ g ^ j % n = d
      · exact hx
      · exfalso
        have hne : ∀ j, j < n - 1 → g ^ j % n ≠ d := fun j hj e => hx ⟨j, hj, e⟩
        obtain ⟨i, j, hij, hj, e⟩ := pigeon (n - 2) (fun j => if d < g ^ j % n then g ^ j % n - 2 else g ^ j % n - 1) (fun j hj => by
          have a1 := hlt j
          have a2 := hpos j (by omega)
          have a3 := hne j (by omega)
          show (if d < g ^ j % n then g ^ j % n - 2 else g ^ j % n - 1) < n - 2
          split <;> omega)
        have a1 := hinj i j hij (by omega)
        have a2 := hne i (by omega)
        have a3 := hne j (by omega)
        have a4 := hpos i (by omega)
        have a5 := hpos j (by omega)
        split at e <;> split at e <;> omega
    obtain ⟨j, hj, e⟩ := hex
    have hdj : d ∣ g ^ j := by
      rw [← Nat.div_add_mod (g ^ j) n, e]
      exact Nat.dvd_add (Nat.dvd_trans hd (Nat.dvd_mul_right n _)) (Nat.dvd_refl d)
    have hdn : d ∣ g ^ (n - 1) := by
      rw [show n - 1 = j + (n - 1 - j) by omega, Nat.pow_add]
      exact Nat.dvd_trans hdj (Nat.dvd_mul_right _ _)
    rw [← Nat.div_add_mod (g ^ (n - 1)) n, h1] at hdn
    have := (Nat.dvd_add_right (Nat.dvd_trans hd (Nat.dvd_mul_right n (g ^ (n - 1) / n)))).1 hdn
    exact Nat.dvd_one.1 this

/-! ### products as numbers -/
theorem mul8_lo {a p : N4} (h : eq4 (mul8 a p).hi (N4.mk 0 0 0 0) = true) : (mul8 a p).lo.val = a.val * p.val := by
  have h1 := mul8_val' a p
  unfold N8.val at h1
  rw [eq4_eq h] at h1
  have : (N4.mk 0 0 0 0).val = 0 := rfl
  rw [this] at h1
  omega
theorem mulP_val {a p b : N4} (h : mulP a p = some b) : b.val = a.val * p.val := by
  unfold mulP at h
  cases e : eq4 (mul8 a p).hi (N4.mk 0 0 0 0) with
  | true => rw [e] at h; rw [← Option.some.inj h]; exact mul8_lo e
  | false => rw [e] at h; cases h
theorem mulP_none {a p : N4} (h : mulP a p = none) : 2 ^ 256 ≤ a.val * p.val := by
  unfold mulP at h
  cases e : eq4 (mul8 a p).hi (N4.mk 0 0 0 0) with
  | true => rw [e] at h; cases h
  | false =>
    have h1 := mul8_val' a p
    unfold N8.val at h1
    have h2 : (mul8 a p).hi.val ≠ 0 := fun e2 => by
      have : eq4 (mul8 a p).hi (N4.mk 0 0 0 0) = true := (eq4_iff _ _).2 (N4.ext_val e2)
      rw [e] at this; cases this
    have h3 : 2 ^ 256 * 1 ≤ 2 ^ 256 * (mul8 a p).hi.val := Nat.mul_le_mul_left _ (by omega)
    omega
theorem powP_val {a p : N4} : ∀ {j : Nat} {b : N4}, powP a p j = some b → b.val = a.val * p.val ^ j
  | 0, b, h => by rw [← Option.some.inj h]; simp
  | j + 1, b, h => by
    rw [powP] at h
    cases e : powP a p j with
    | none => rw [e] at h; cases h
    | some c =>
      rw [e, Option.bind_some] at h
      rw [mulP_val h, powP_val e, Nat.pow_succ, Nat.mul_assoc]
theorem powP_big {a p : N4} (hp : 0 < p.val) : ∀ {j : Nat}, powP a p j = none → 2 ^ 256 ≤ a.val * p.val ^ j
  | 0, h => by cases h
  | j + 1, h => by
    rw [powP] at h
    cases e : powP a p j with
    | none =>
      have := powP_big hp e
      rw [show p.val ^ (j + 1) = p.val ^ j * p.val from Nat.pow_succ _ _, ← Nat.mul_assoc]
      exact Nat.le_trans this (Nat.le_mul_of_pos_right _ hp)
    | some c =>
      rw [e, Option.bind_some] at h
      have := mulP_none h
      rw [powP_val e, Nat.mul_assoc, ← show p.val ^ (j + 1) = p.val ^ j * p.val from Nat.pow_succ _ _] at this
      exact this
theorem prodP_val {f : Nat → FacR} : ∀ {n : Nat} {a : N4}, prodP f n = some a → a.val = prodN f n
  | 0, a, h => by rw [← Option.some.inj h]; rfl
  | n + 1, a, h => by
    rw [prodP] at h
    cases e : prodP f n with
    | none => rw [e] at h; cases h
    | some b =>
      rw [e, Option.bind_some] at h
      rw [powP_val h, prodP_val e]; rfl
theorem prodP_big {f : Nat → FacR} : ∀ {n : Nat}, (∀ i, i < n → 0 < (f i).p.val) → prodP f n = none → 2 ^ 256 ≤ prodN f n
  | 0, _, h => by cases h
  | n + 1, hp, h => by
    rw [prodP] at h
    cases e : prodP f n with
    | none =>
      have := prodP_big (fun i hi => hp i (by omega)) e
      exact Nat.le_trans this (Nat.le_mul_of_pos_right _ (Nat.pow_pos (hp n (by omega))))
    | some b =>
      rw [e, Option.bind_some] at h
      have := powP_big (hp n (by omega)) h
      rw [prodP_val e] at this
      exact this

/-! ### what is proved -/
theorem ordF_all {m a n : N4} {f : Nat → FacR} : ∀ {k : Nat}, ordF m a n f k = true → ∀ i, i < k → eq4 (powM m a (quoP n (f i).p)) (N4.mk 1 0 0 0) = false
  | 0, _, i, hi => by omega
  | k + 1, h, i, hi => by
    rw [ordF] at h
    have h1 : ordF m a n f k = true := by cases e : ordF m a n f k with | true => rfl | false => rw [e] at h; cases h
    rw [h1] at h
    rcases (show i < k ∨ i = k by omega) with h2 | rfl
    · exact ordF_all h1 i h2
    · cases e : eq4 (powM m a (quoP n (f i).p)) (N4.mk 1 0 0 0) with
      | false => rfl
      | true => rw [e] at h; cases e2 : eq4 (f i).p (N4.mk 1 0 0 0) <;> (rw [e2] at h; cases h)
theorem facIn_all {L : List N4} {f : Nat → FacR} : ∀ {k : Nat}, facIn L f k = true → ∀ i, i < k → hasK L (f i).p = true
  | 0, _, i, hi => by omega
  | k + 1, h, i, hi => by
    rw [facIn] at h
    have h1 : facIn L f k = true := by cases e : facIn L f k with | true => rfl | false => rw [e] at h; cases h
    rw [h1] at h
    rcases (show i < k ∨ i = k by omega) with h2 | rfl
    · exact facIn_all h1 i h2
    · exact h
theorem one_val : (N4.mk 1 0 0 0).val = 1 := rfl
theorem sub_one {n : N4} (h : OddM n) : (sub4 n (N4.mk 1 0 0 0)).val = n.val - 1 := by
  have h1 := sub_less n (N4.mk 1 0 0 0)
  rw [← h1, N4.val_ofNat, one_val]
  unfold lessN
  have h2 := n.val_lt
  have h3 := h.big
  have h4 : (256 : Nat) ^ 64 = 2 ^ 256 * 2 ^ 256 := by decide
  rw [h4]
  have h5 : n.val + 2 ^ 256 * 2 ^ 256 - 1 = (n.val - 1) + 2 ^ 256 * 2 ^ 256 := by omega
  rw [h5, Nat.add_mul_mod_self_left, Nat.mod_eq_of_lt (by omega)]
theorem quoP_val (a m : N4) : (quoP a m).val = a.val / m.val := by
  unfold quoP
  rw [N4.val_ofNat, Nat.mod_eq_of_lt (Nat.lt_of_le_of_lt (Nat.div_le_self _ _) a.val_lt)]
theorem stepE_ok {r : PrfR} (h : stepE r = 0) : prodE r.wf r.wn = 0 ∧ OddM r.n ∧ eq4 (prodV r.wf r.wn) (sub4 r.n (N4.mk 1 0 0 0)) = true ∧ ordB r.n r.g (sub4 r.n (N4.mk 1 0 0 0)) r.wf r.wn = true := by
  unfold stepE at h
  split at h
  · contradiction
  · rename_i h0
    split at h
    · cases h
    · rename_i h1
      split at h
      · cases h
      · rename_i h2
        split at h
        · cases h
        · rename_i h3
          exact ⟨Decidable.not_not.1 h0, Classical.not_not.1 h1, by simpa using h2, by simpa using h3⟩
theorem step_prime {r : PrfR} (h : stepE r = 0) (hp : ∀ i, i < r.wn → IsPr (r.wf i).p.val) : IsPr r.n.val := by
  obtain ⟨h0, h1, h2, h3⟩ := stepE_ok h
  have hs := sub_one h1
  have hb := h1.big
  have ho := h1.odd
  have hv : (prodV r.wf r.wn).val = r.n.val - 1 := by rw [eq4_eq h2, hs]
  have hprod : prodN r.wf r.wn = r.n.val - 1 := by
    unfold prodV at hv
    split at hv
    · have : (N4.mk 0 0 0 0).val = 0 := rfl
      omega
    · split at hv
      · have : (N4.mk 0 0 0 0).val = 0 := rfl
        omega
      · split at hv
        · have : (N4.mk 0 0 0 0).val = 0 := rfl
          omega
        · unfold multV at hv
          cases e : prodP r.wf r.wn with
          | none =>
            rw [e] at hv
            have : (N4.mk 0 0 0 0).val = 0 := rfl
            simp only [Option.getD_none] at hv
            omega
          | some a => rw [e] at hv; rw [← prodP_val e]; exact hv
  unfold ordB at h3
  have h4 : eq4 (powM r.n r.g (sub4 r.n (N4.mk 1 0 0 0))) (N4.mk 1 0 0 0) = true := by
    cases e : eq4 (powM r.n r.g (sub4 r.n (N4.mk 1 0 0 0))) (N4.mk 1 0 0 0) with
    | true => rfl
    | false => rw [e] at h3; cases h3
  rw [h4] at h3
  refine lucas (g := r.g.val) (by omega) hp hprod ?_ fun i hi => ?_
  · have := powM_val h1 r.g (sub4 r.n (N4.mk 1 0 0 0))
    rw [eq4_eq h4, hs, one_val] at this
    exact this.symm
  · have h5 := ordF_all h3 i hi
    have := powM_val h1 r.g (quoP (sub4 r.n (N4.mk 1 0 0 0)) (r.wf i).p)
    rw [quoP_val, hs] at this
    intro e
    rw [e] at this
    have h6 : eq4 (powM r.n r.g (quoP (sub4 r.n (N4.mk 1 0 0 0)) (r.wf i).p)) (N4.mk 1 0 0 0) = true := (eq4_iff _ _).2 (N4.ext_val this)
    rw [h5] at h6; cases h6
theorem two_pr : IsPr 2 := ⟨by omega, fun d hd => by
  have h1 := Nat.le_of_dvd (by omega) hd
  have h2 := Nat.pos_of_dvd_of_pos hd (by omega)
  omega⟩
theorem chkF_ok {f : Nat → PrfR} {i : Nat} (h : chkF f (i + 1) = 0) : chkF f i = 0 ∧ facIn (knF f i) (f i).wf (f i).wn = true ∧ stepE (f i) = 0 := by
  rw [chkF] at h
  split at h
  · contradiction
  · rename_i h0
    split at h
    · cases h
    · rename_i h1
      exact ⟨Decidable.not_not.1 h0, by simpa using h1, h⟩
theorem known_prime {f : Nat → PrfR} : ∀ {i : Nat}, chkF f i = 0 → ∀ x, hasK (knF f i) x = true → IsPr x.val
  | 0, _, x, hx => by
    have : x = N4.mk 2 0 0 0 := by simpa [hasK_iff, knF] using hx
    subst this; exact two_pr
  | i + 1, h, x, hx => by
    obtain ⟨h1, h2, h3⟩ := chkF_ok h
    rw [knF, has_ins, Bool.or_eq_true] at hx
    rcases hx with hx | hx
    · exact known_prime h1 x hx
    · rw [← eq4_eq hx]
      exact step_prime h3 fun k hk => known_prime h1 _ (facIn_all h2 k hk)
theorem known_odd {f : Nat → PrfR} : ∀ {i : Nat}, chkF f i = 0 → ∀ x, hasK (knF f i) x = true → x = N4.mk 2 0 0 0 ∨ OddM x
  | 0, _, x, hx => by
    have : x = N4.mk 2 0 0 0 := by simpa [hasK_iff, knF] using hx
    exact .inl this
  | i + 1, h, x, hx => by
    obtain ⟨h1, h2, h3⟩ := chkF_ok h
    rw [knF, has_ins, Bool.or_eq_true] at hx
    rcases hx with hx | hx
    · exact known_odd h1 x hx
    · rw [← eq4_eq hx]
      exact .inr (stepE_ok h3).2.1

/-! ### by trying all -/
theorem prime_two {x : UInt64} (hp : IsPr x.toNat) : decide (x < 2) = false := by
  rw [decide_eq_false_iff_not, UInt64.lt_iff_toNat_lt]
  have := hp.1
  have h2 : (2 : UInt64).toNat = 2 := rfl
  omega
theorem sq_small {x k : UInt64} (hx : x.toNat < 1048576) (h0 : 2 ≤ k.toNat ∧ k.toNat ≤ 1024) (h : k * k ≤ x) : k.toNat * k.toNat ≤ x.toNat ∧ k.toNat < 1024 := by
  rw [UInt64.le_iff_toNat_le, UInt64.toNat_mul] at h
  have h1 : k.toNat * k.toNat ≤ 1024 * 1024 := Nat.mul_le_mul h0.2 h0.2
  rw [Nat.mod_eq_of_lt (by omega)] at h
  refine ⟨h, ?_⟩
  rcases Nat.lt_or_ge k.toNat 1024 with h2 | h2
  · exact h2
  · have h3 : 1024 * 1024 ≤ k.toNat * k.toNat := Nat.mul_le_mul h2 h2
    omega
theorem prime_rem {x k : UInt64} (hp : IsPr x.toNat) (hx : x.toNat < 1048576) (h0 : 2 ≤ k.toNat ∧ k.toNat ≤ 1024) (h : k * k ≤ x) : (x % k == 0) = false := by
  obtain ⟨h1, h2⟩ := sq_small hx h0 h
  rw [beq_eq_false_iff_ne]
  intro e
  have e2 : (x % k).toNat = 0 := by rw [e]; rfl
  rw [UInt64.toNat_mod] at e2
  rcases hp.2 k.toNat (Nat.dvd_of_mod_eq_zero e2) with h3 | h3
  · omega
  · rw [← h3] at h1
    have h4 : 2 * k.toNat ≤ k.toNat * k.toNat := Nat.mul_le_mul_right _ h0.1
    omega
theorem prime_step {x k : UInt64} (hx : x.toNat < 1048576) (h0 : 2 ≤ k.toNat ∧ k.toNat ≤ 1024) (h : k * k ≤ x) : (2 ≤ (k + 1).toNat ∧ (k + 1).toNat ≤ 1024) ∧ 1025 - (k + 1).toNat < 1025 - k.toNat := by
  obtain ⟨_, h2⟩ := sq_small hx h0 h
  have e : (k + 1).toNat = k.toNat + 1 := by
    rw [UInt64.toNat_add]
    have : (1 : UInt64).toNat = 1 := rfl
    rw [this, Nat.mod_eq_of_lt (by omega)]
  rw [e]; omega
theorem prv_has {q : PrfL} {n : N4} (h : prvE q n = 0) : chkE q = 0 ∧ hasK (knF q.lf q.ln) n = true := by
  unfold prvE at h
  split at h
  · contradiction
  · rename_i h0
    split at h
    · rename_i h1; exact ⟨Decidable.not_not.1 h0, h1⟩
    · cases h
theorem chkE_F {q : PrfL} (h : chkE q = 0) : ¬ 40 < q.ln ∧ chkF q.lf q.ln = 0 := by
  unfold chkE at h
  split at h
  · cases h
  · rename_i h0; exact ⟨h0, h⟩
theorem prime_fin {q : PrfL} {n : N4} (h : prvE q n = 0) : IsPr n.val := by
  obtain ⟨h1, h2⟩ := prv_has h
  exact known_prime (chkE_F h1).2 n h2
theorem prime_pre {q : PrfL} {n : N4} (h : (selB (selB (selB (selB ((prvE q n) != 0) true (decide (0 < n.b))) true (decide (0 < n.c))) true (decide (0 < n.d))) true (decide (1048576 ≤ n.a))) = false) : n.a.toNat < 1048576 ∧ IsPr n.a.toNat := by
  simp only [selB_or, Bool.or_eq_false_iff, decide_eq_false_iff_not] at h
  obtain ⟨⟨⟨⟨h1, h2⟩, h3⟩, h4⟩, h5⟩ := h
  have z : ∀ x : UInt64, ¬ 0 < x → x.toNat = 0 := fun x hx => by
    rw [UInt64.lt_iff_toNat_lt] at hx
    have : (0 : UInt64).toNat = 0 := rfl
    omega
  have h6 : n.val = n.a.toNat := by
    unfold N4.val
    rw [z _ h2, z _ h3, z _ h4]; omega
  rw [UInt64.le_iff_toNat_le] at h5
  have h7 : (1048576 : UInt64).toNat = 1048576 := rfl
  have := prime_fin (beq0 h1)
  rw [h6] at this
  exact ⟨by omega, this⟩
theorem odd_fin {q : PrfL} {n : N4} (h : prvE q n = 0) : n = N4.mk 2 0 0 0 ∨ OddM n := by
  obtain ⟨h1, h2⟩ := prv_has h
  exact known_odd (chkE_F h1).2 n h2
theorem kn_in (f : Nat → PrfR) {i n : Nat} (h : i < n) : hasK (knF f n) (f i).n = true := kn_yes h ((eq4_iff _ _).2 rfl)
theorem odd_self {q : PrfL} {i : Nat} (h : i < q.ln) : prvE q (q.lf i).n = chkE q := by
  unfold prvE
  split
  · rfl
  · rename_i h0
    rw [if_pos (kn_in q.lf h)]
    exact (Decidable.not_not.1 h0).symm
theorem odd_cond {q : PrfL} {n : N4} : (selB (selB ((prvE q n) == 0) (!(eq4 n (N4.mk 2 0 0 0))) false) (selB (n.a % 2 == 0) true (eq4 n (N4.mk 1 0 0 0))) false) = false := by
  cases h : (prvE q n) == 0 with
  | false => rfl
  | true =>
    rcases odd_fin (beq_iff_eq.1 h) with h1 | h1
    · rw [h1]; rfl
    · rw [low0_odd h1]
      have : eq4 n (N4.mk 1 0 0 0) = false := by
        cases h2 : eq4 n (N4.mk 1 0 0 0) with
        | false => rfl
        | true => have := h1.big; rw [eq4_eq h2] at this; exact absurd this (by decide)
      rw [this]
      cases eq4 n (N4.mk 2 0 0 0) <;> rfl
theorem chkF_back {f : Nat → PrfR} {i : Nat} : ∀ {d : Nat}, chkF f (i + d) = 0 → chkF f i = 0
  | 0, h => h
  | d + 1, h => chkF_back (d := d) (chkF_ok h).1
theorem more_cut {q : PrfL} {k : Nat} (hk : k ≤ q.ln) (h : chkE q = 0) : chkE { q with ln := k } = 0 := by
  obtain ⟨h1, h2⟩ := chkE_F h
  refine (if_neg (show ¬ 40 < k by omega)).trans (chkF_back (d := q.ln - k) ?_)
  show chkF q.lf (k + (q.ln - k)) = 0
  rw [show k + (q.ln - k) = q.ln by omega]; exact h2
theorem more_prv {q : PrfL} {k : Nat} {n : N4} (hk : k ≤ q.ln) (h : chkE q = 0) (h2 : prvE { q with ln := k } n = 0) : prvE q n = 0 := by
  have h3 := (prv_has h2).2
  have h4 : hasK (knF q.lf q.ln) n = true := by
    have := kn_on (n := n) (f := q.lf) (i := k) h3 (q.ln - k)
    rwa [show k + (q.ln - k) = q.ln by omega] at this
  unfold prvE
  rw [if_neg (by rw [h]; simp), if_pos h4]
theorem more_fin {q : PrfL} {k : Nat} {n : N4} (hk : k ≤ q.ln) (h : chkE q = 0) : (selB (selB true ((chkE { q with ln := k }) == 0) false) (selB ((prvE { q with ln := k } n) != 0) true ((prvE q n) == 0)) false) = true := by
  rw [more_cut hk h]
  cases h2 : (prvE { q with ln := k } n) != 0 with
  | true => rfl
  | false =>
    rw [more_prv hk h (beq0 h2)]; rfl

/-! ### in which order factors stand -/
def revW (r : PrfR) : Nat → FacR := fun k => r.wf (r.wn - 1 - k)
theorem badF_iff {f : Nat → FacR} : ∀ {n : Nat}, badF f n = true ↔ ∃ i, i < n ∧ ((f i).e < 1 ∨ (f i).e > 255)
  | 0 => by simp [badF]
  | n + 1 => by
    rw [badF, selB_or, Bool.or_eq_true, badF_iff (n := n), selB_or, Bool.or_eq_true, decide_eq_true_eq, decide_eq_true_eq]
    constructor
    · rintro (⟨i, hi, h⟩ | h)
      · exact ⟨i, by omega, h⟩
      · exact ⟨n, by omega, h⟩
    · rintro ⟨i, hi, h⟩
      rcases (show i < n ∨ i = n by omega) with h1 | rfl
      · exact .inl ⟨i, h1, h⟩
      · exact .inr h
theorem zeroF_iff {f : Nat → FacR} : ∀ {n : Nat}, zeroF f n = true ↔ ∃ i, i < n ∧ eq4 (f i).p (N4.mk 0 0 0 0) = true
  | 0 => by simp [zeroF]
  | n + 1 => by
    rw [zeroF, selB_or, Bool.or_eq_true, zeroF_iff (n := n)]
    constructor
    · rintro (⟨i, hi, h⟩ | h)
      · exact ⟨i, by omega, h⟩
      · exact ⟨n, by omega, h⟩
    · rintro ⟨i, hi, h⟩
      rcases (show i < n ∨ i = n by omega) with h1 | rfl
      · exact .inl ⟨i, h1, h⟩
      · exact .inr h
theorem rev_ex {r : PrfR} {p : FacR → Prop} : (∃ i, i < r.wn ∧ p (revW r i)) ↔ ∃ i, i < r.wn ∧ p (r.wf i) := by
  constructor
  · rintro ⟨i, hi, h⟩; exact ⟨r.wn - 1 - i, by omega, h⟩
  · rintro ⟨i, hi, h⟩
    refine ⟨r.wn - 1 - i, by omega, ?_⟩
    show p (r.wf (r.wn - 1 - (r.wn - 1 - i)))
    rw [show r.wn - 1 - (r.wn - 1 - i) = i by omega]; exact h
theorem bool_iff {a b : Bool} (h : a = true ↔ b = true) : a = b := by cases a <;> cases b <;> simp_all
theorem rev_bad (r : PrfR) : badF (revW r) r.wn = badF r.wf r.wn := bool_iff (by rw [badF_iff, badF_iff]; exact rev_ex (p := fun x => x.e < 1 ∨ x.e > 255))
theorem rev_zero (r : PrfR) : zeroF (revW r) r.wn = zeroF r.wf r.wn := bool_iff (by rw [zeroF_iff, zeroF_iff]; exact rev_ex (p := fun x => eq4 x.p (N4.mk 0 0 0 0) = true))
theorem prodN_front (f : Nat → FacR) : ∀ n, prodN f (n + 1) = (f 0).p.val ^ (f 0).e.toNat * prodN (fun k => f (k + 1)) n
  | 0 => by simp [prodN]
  | n + 1 => by
    rw [prodN, prodN_front f n, prodN, Nat.mul_assoc]
theorem prodN_congr {f g : Nat → FacR} : ∀ {n : Nat}, (∀ k, k < n → f k = g k) → prodN f n = prodN g n
  | 0, _ => rfl
  | n + 1, h => by rw [prodN, prodN, prodN_congr fun k hk => h k (by omega), h n (by omega)]
theorem prodN_rev (f : Nat → FacR) : ∀ n, prodN (fun k => f (n - 1 - k)) n = prodN f n
  | 0 => rfl
  | n + 1 => by
    rw [prodN_front]
    show (f (n + 1 - 1 - 0)).p.val ^ (f (n + 1 - 1 - 0)).e.toNat * prodN (fun k => f (n + 1 - 1 - (k + 1))) n = _
    rw [prodN_congr (g := fun k => f (n - 1 - k)) fun k hk => by rw [show n + 1 - 1 - (k + 1) = n - 1 - k by omega], prodN_rev f n, prodN, show n + 1 - 1 - 0 = n by omega, Nat.mul_comm]
theorem prodP_iff {f : Nat → FacR} {n : Nat} (h : ∀ i, i < n → 0 < (f i).p.val) : prodP f n = if prodN f n < 2 ^ 256 then some (N4.ofNat (prodN f n)) else none := by
  cases e : prodP f n with
  | some a =>
    have h1 := prodP_val e
    rw [if_pos (by rw [← h1]; exact a.val_lt), ← h1, N4.ofNat_val]
  | none => rw [if_neg (by have := prodP_big h e; omega)]
theorem rev_prodP {r : PrfR} (h : zeroF r.wf r.wn = false) : prodP (revW r) r.wn = prodP r.wf r.wn := by
  have h1 : ∀ i, i < r.wn → 0 < (r.wf i).p.val := fun i hi => by
    rcases Nat.eq_zero_or_pos (r.wf i).p.val with h0 | h0
    · have : zeroF r.wf r.wn = true := zeroF_iff.2 ⟨i, hi, (eq4_iff _ _).2 (N4.ext_val h0)⟩
      rw [h] at this; cases this
    · exact h0
  rw [prodP_iff h1, prodP_iff (f := revW r) (fun i hi => h1 _ (by omega)), show prodN (revW r) r.wn = prodN r.wf r.wn from prodN_rev r.wf r.wn]
theorem rev_prod (r : PrfR) : prodV (revW r) r.wn = prodV r.wf r.wn ∧ prodE (revW r) r.wn = prodE r.wf r.wn := by
  unfold prodV prodE
  rw [rev_bad, rev_zero]
  cases h : zeroF r.wf r.wn with
  | true => simp
  | false => unfold multV multE; rw [rev_prodP h]; exact ⟨rfl, rfl⟩
theorem ordF_iff {m a n : N4} {f : Nat → FacR} : ∀ {k : Nat}, ordF m a n f k = true ↔ ¬ ∃ i, i < k ∧ (selB (eq4 (f i).p (N4.mk 1 0 0 0)) true (eq4 (powM m a (quoP n (f i).p)) (N4.mk 1 0 0 0))) = true
  | 0 => by simp [ordF]
  | k + 1 => by
    rw [ordF, selB_and, Bool.and_eq_true, ordF_iff (k := k)]
    constructor
    · rintro ⟨h1, h2⟩ ⟨i, hi, h⟩
      rcases (show i < k ∨ i = k by omega) with h3 | rfl
      · exact h1 ⟨i, h3, h⟩
      · rw [h] at h2; cases h2
    · intro h
      refine ⟨fun ⟨i, hi, h1⟩ => h ⟨i, by omega, h1⟩, ?_⟩
      cases h2 : (selB (eq4 (f k).p (N4.mk 1 0 0 0)) true (eq4 (powM m a (quoP n (f k).p)) (N4.mk 1 0 0 0))) with
      | false => rfl
      | true => exact absurd ⟨k, by omega, h2⟩ h
theorem rev_ord {r : PrfR} (m a n : N4) : ordB m a n (revW r) r.wn = ordB m a n r.wf r.wn := by
  unfold ordB
  have : ordF m a n (revW r) r.wn = ordF m a n r.wf r.wn := bool_iff (by
    rw [ordF_iff, ordF_iff]
    exact not_congr (rev_ex (p := fun x => (selB (eq4 x.p (N4.mk 1 0 0 0)) true (eq4 (powM m a (quoP n x.p)) (N4.mk 1 0 0 0))) = true)))
  rw [this]
theorem stepE_of {r s : PrfR} (hn : s.n = r.n) (hg : s.g = r.g) (hw : s.wn = r.wn) (h1 : prodV s.wf s.wn = prodV r.wf r.wn) (h2 : prodE s.wf s.wn = prodE r.wf r.wn) (h3 : ∀ m a n, ordB m a n s.wf s.wn = ordB m a n r.wf r.wn) : stepE s = stepE r := by
  unfold stepE
  rw [h1, h2, h3, hn, hg]
end Go.Eng
