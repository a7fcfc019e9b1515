/-
  Who comes first: how many are ahead of one, and what is left when so many have gone.
-/
import Derived.Test.YtflbdmbiceenjaaLack
namespace Go.Eng
set_option linter.unusedVariables false
set_option maxRecDepth 100000
def cntB (p : Nat → Bool) : Nat → Nat
  | 0 => 0
  | k + 1 => cntB p k + if p k = true then 1 else 0
theorem cntB_le (p : Nat → Bool) : ∀ n, cntB p n ≤ n
  | 0 => Nat.le_refl 0
  | k + 1 => by have := cntB_le p k; simp only [cntB]; split <;> omega
theorem cntB_congr {p q : Nat → Bool} : ∀ {n : Nat}, (∀ k, k < n → p k = q k) → cntB p n = cntB q n
  | 0, _ => rfl
  | n + 1, h => by simp only [cntB]; rw [cntB_congr (n := n) fun k hk => h k (by omega), h n (by omega)]
theorem cntB_mono {p q : Nat → Bool} : ∀ {n : Nat}, (∀ k, k < n → p k = true → q k = true) → cntB p n ≤ cntB q n
  | 0, _ => Nat.le_refl 0
  | n + 1, h => by
    have ih := cntB_mono (n := n) fun k hk => h k (by omega)
    have h1 := h n (by omega)
    simp only [cntB]
    cases hp : p n <;> cases hq : q n <;> simp_all <;> omega
theorem cntB_lt {p q : Nat → Bool} {w : Nat} : ∀ {n : Nat}, (∀ k, k < n → p k = true → q k = true) → w < n → p w = false → q w = true → cntB p n < cntB q n
  | 0, _, h, _, _ => absurd h (Nat.not_lt_zero _)
  | n + 1, h, hw, h1, h2 => by
    have ih := cntB_mono (n := n) fun k hk => h k (by omega)
    have h3 := h n (by omega)
    simp only [cntB]
    by_cases e : w = n
    · subst e; rw [h1, h2]; simp; omega
    · have := cntB_lt (n := n) (fun k hk => h k (by omega)) (by omega) h1 h2
      cases hp : p n <;> cases hq : q n <;> simp_all <;> omega
theorem cntB_one {p : Nat → Bool} {w : Nat} : ∀ {n : Nat}, w < n → p w = false → cntB (fun k => p k || decide (k = w)) n = cntB p n + 1
  | 0, h, _ => absurd h (Nat.not_lt_zero _)
  | n + 1, h, h1 => by
    simp only [cntB]
    by_cases e : w = n
    · subst e
      rw [cntB_congr (q := p) (n := w) fun k hk => by simp [show k ≠ w by omega]]
      simp [h1]
    · rw [cntB_one (n := n) (by omega) h1]
      simp only [show ¬ n = w by omega, decide_false, Bool.or_false]
      omega
theorem cntB_none {p : Nat → Bool} : ∀ {n : Nat}, (∀ k, k < n → p k = false) → cntB p n = 0
  | 0, _ => rfl
  | n + 1, h => by simp only [cntB]; rw [cntB_none (n := n) fun k hk => h k (by omega), h n (by omega)]; rfl
section
variable {r : Nat → N4} {n : Nat}
def lkF (r : Nat → N4) (k : Nat) : LkR := ⟨r k, k⟩
theorem lk_irr (i : Nat) : ltL (lkF r i) (lkF r i) = false := ltL_swo.irr _
theorem lk_tot {i j : Nat} (h : i ≠ j) : ltL (lkF r i) (lkF r j) = true ∨ ltL (lkF r j) (lkF r i) = true := by
  rw [ltL_iff, ltL_iff]; show ((r j).val < (r i).val ∨ (r j).val = (r i).val ∧ i < j) ∨ ((r i).val < (r j).val ∨ (r i).val = (r j).val ∧ j < i); omega
def rankL (r : Nat → N4) (n j : Nat) : Nat := cntB (fun i => ltL (lkF r i) (lkF r j)) n
theorem rank_lt {i j : Nat} (hi : i < n) (h : ltL (lkF r i) (lkF r j) = true) : rankL r n i < rankL r n j :=
  cntB_lt (w := i) (fun k _ hk => ltL_swo.tr _ _ _ hk h) hi (lk_irr i) h
theorem rank_ne {i j : Nat} (hi : i < n) (hj : j < n) (h : i ≠ j) : rankL r n i ≠ rankL r n j := by
  rcases lk_tot (r := r) h with h1 | h1
  · exact Nat.ne_of_lt (rank_lt hi h1)
  · exact Nat.ne_of_gt (rank_lt hj h1)
def goneB (r : Nat → N4) (n k : Nat) : Nat → Bool := fun j => decide (rankL r n j < k)
/-- Who comes next has so many ahead of it. -/
theorem rank_next {k w : Nat} (hc : cntB (goneB r n k) n = k) (hw : w < n) (h1 : k ≤ rankL r n w) (h2 : ∀ j, j < n → k ≤ rankL r n j → ltL (lkF r j) (lkF r w) = false) : rankL r n w = k := by
  refine Eq.trans (cntB_congr fun i hi => ?_) hc
  unfold goneB
  by_cases h3 : rankL r n i < k
  · rw [decide_eq_true h3]
    have hne : i ≠ w := fun e => by subst e; omega
    rcases lk_tot (r := r) hne with h4 | h4
    · exact h4
    · have := rank_lt hw h4; omega
  · rw [decide_eq_false h3]; exact h2 i hi (by omega)
theorem gone_next {k w : Nat} (hc : cntB (goneB r n k) n = k) (hw : w < n) (h : rankL r n w = k) : (∀ j, j < n → goneB r n (k + 1) j = (goneB r n k j || decide (j = w))) ∧ cntB (goneB r n (k + 1)) n = k + 1 := by
  have h1 : ∀ j, j < n → goneB r n (k + 1) j = (goneB r n k j || decide (j = w)) := fun j hj => by
    unfold goneB
    by_cases e : j = w
    · subst e; rw [h]; simp
    · have := rank_ne (r := r) hj hw e
      rw [h] at this
      simp only [e, decide_false, Bool.or_false]
      congr 1
      rw [eq_iff_iff]; omega
  refine ⟨h1, ?_⟩
  rw [cntB_congr h1, cntB_one hw (by unfold goneB; rw [h]; simp), hc]
theorem gone_zero (j : Nat) : goneB r n 0 j = false := by unfold goneB; simp
theorem gone_cnt0 : cntB (goneB r n 0) n = 0 := cntB_none fun k _ => gone_zero k
/-! ### counts -/
def shC (fl : Nat → Nat) (r : Nat → N4) (n k : Nat) : Nat → Nat := fun j => fl j + if (decide (j < n) && goneB r n k j) = true then 1 else 0
def cutF (fl : Nat → Nat) (i : Nat) : Nat → Nat := fun k => if k < i then fl k else 0
theorem cutF_zero (fl : Nat → Nat) : (fun _ => 0) = cutF fl 0 := by funext k; simp [cutF]
theorem cutF_next {fl : Nat → Nat} {i v : Nat} (hv : v = fl i) : upd (cutF fl i) i v = cutF fl (i + 1) := by
  subst hv; funext k; unfold upd cutF
  by_cases h : k = i
  · subst h; rw [if_pos rfl, if_pos (by omega)]
  · by_cases h2 : k < i
    · rw [if_neg h, if_pos h2, if_pos (by omega)]
    · rw [if_neg h, if_neg h2, if_neg (by omega)]
theorem shC_zero (fl : Nat → Nat) : shC fl r n 0 = fl := by funext j; unfold shC; rw [gone_zero]; simp
theorem shC_next {fl : Nat → Nat} {k w : Nat} (hc : cntB (goneB r n k) n = k) (hw : w < n) (h : rankL r n w = k) : upd (shC fl r n k) w (shC fl r n k w + 1) = shC fl r n (k + 1) := by
  have h1 := (gone_next hc hw h).1
  funext j
  unfold shC upd
  by_cases e : j = w
  · subst e
    rw [if_pos rfl, h1 j hw]
    have : goneB r n k j = false := by unfold goneB; rw [h]; simp
    rw [this]; simp [hw]
  · rw [if_neg e]
    by_cases hj : j < n
    · rw [h1 j hj]; simp [e]
    · simp [hj]
/-! ### what waits -/
def wtS (r : Nat → N4) (i : Nat) (y : LkR) : Prop := ∃ k, k < i ∧ y = lkF r k
def lfS (r : Nat → N4) (n k : Nat) (y : LkR) : Prop := ∃ j, j < n ∧ k ≤ rankL r n j ∧ y = lkF r j
theorem hp_zero {f : Nat → LkR} : HpB ltL 0 f 0 := fun k _ h => absurd h (Nat.not_lt_zero k)
theorem en_zero {f : Nat → LkR} : En f 0 (wtS r 0) := En.none.iff fun y => ⟨fun ⟨k, h, _⟩ => absurd h (Nat.not_lt_zero k), fun h => h.elim⟩
theorem wt_push {F g : Nat → LkR} {i : Nat} {x : LkR} (hp : HpB ltL 0 F i) (he : En F i (wtS r i)) (hg : ∀ k, k < i → g k = F k) (hx : g i = x) (hx2 : x = lkF r i) : HpB ltL 0 (upF ltL g i) (i + 1) ∧ En (upF ltL g i) (i + 1) (wtS r (i + 1)) := by
  obtain ⟨h1, h2, _⟩ := push_ok ltL_swo hp hg hx
  refine ⟨h1, (h2 _ he ?_).iff fun y => ?_⟩
  · rintro ⟨k, hk, e⟩
    have : (lkF r i).w = (lkF r k).w := by rw [← hx2, e]
    have h3 : i = k := this
    omega
  · subst hx2
    constructor
    · rintro ⟨k, hk, rfl⟩
      by_cases e : k = i
      · subst e; exact .inr rfl
      · exact .inl ⟨k, by omega, rfl⟩
    · rintro (⟨k, hk, rfl⟩ | rfl)
      · exact ⟨k, by omega, rfl⟩
      · exact ⟨i, by omega, rfl⟩
theorem lf_zero {F : Nat → LkR} (h : En F n (wtS r n)) : En F n (lfS r n 0) := h.iff fun y => ⟨fun ⟨j, h1, _, h3⟩ => ⟨j, h1, h3⟩, fun ⟨j, h1, h3⟩ => ⟨j, h1, Nat.zero_le _, h3⟩⟩
/-- What a pop hands back, and what is left. -/
theorem lf_pop {F : Nat → LkR} {L k : Nat} (hL : 0 < L) (hp : HpB ltL 0 F L) (he : En F L (lfS r n k)) (hc : cntB (goneB r n k) n = k) :
    ∃ w, w < n ∧ popF ltL F (L - 1) (L - 1) = lkF r w ∧ rankL r n w = k ∧ HpB ltL 0 (popF ltL F (L - 1)) (L - 1) ∧ En (popF ltL F (L - 1)) (L - 1) (lfS r n (k + 1)) := by
  obtain ⟨L, rfl⟩ : ∃ q, L = q + 1 := ⟨L - 1, by omega⟩
  simp only [Nat.add_sub_cancel]
  obtain ⟨h1, h2, h3, h4⟩ := popF_ok ltL_swo hp
  obtain ⟨w, hw, hk, e⟩ := he.mem 0 (by omega)
  have hr : rankL r n w = k := rank_next hc hw hk fun j hj hkj => by
    obtain ⟨q, hq, e2⟩ := he.sur (lkF r j) ⟨j, hj, hkj, rfl⟩
    rw [← e2, ← e]; exact h4 q hq
  refine ⟨w, hw, h2.trans e, hr, h1, (h3 _ he).iff fun y => ?_⟩
  rw [e]
  constructor
  · rintro ⟨j, hj, hkj, rfl⟩
    refine ⟨⟨j, hj, by omega, rfl⟩, fun h => ?_⟩
    have : (lkF r j).w = (lkF r w).w := by rw [h]
    have h5 : j = w := this
    subst h5; omega
  · rintro ⟨⟨j, hj, hkj, rfl⟩, hne⟩
    refine ⟨j, hj, ?_, rfl⟩
    by_cases e3 : j = w
    · subst e3; exact absurd rfl hne
    · have := rank_ne (r := r) hj hw e3; omega
end
theorem cntB_ex {p : Nat → Bool} : ∀ {n : Nat}, cntB p n < n → ∃ w, w < n ∧ p w = false
  | 0, h => absurd h (Nat.not_lt_zero _)
  | n + 1, h => by
    simp only [cntB] at h
    cases hp : p n with
    | false => exact ⟨n, by omega, hp⟩
    | true =>
      rw [hp] at h
      obtain ⟨w, hw, e⟩ := cntB_ex (p := p) (n := n) (by simp at h; omega)
      exact ⟨w, by omega, e⟩
theorem least_of {q : Nat → Nat} {p : Nat → Prop} : ∀ (b w n : Nat), q w ≤ b → w < n → p w → ∃ v, v < n ∧ p v ∧ ∀ j, j < n → p j → q v ≤ q j
  | 0, w, n, hb, hw, hp => ⟨w, hw, hp, fun j _ _ => by omega⟩
  | b + 1, w, n, hb, hw, hp => by
    by_cases h : ∃ j, j < n ∧ p j ∧ q j ≤ b
    · obtain ⟨j, h1, h2, h3⟩ := h
      exact least_of b j n h3 h1 h2
    · by_cases h2 : q w ≤ b
      · exact absurd ⟨w, hw, hp, h2⟩ h
      · refine ⟨w, hw, hp, fun j h3 h4 => ?_⟩
        by_cases h5 : q j ≤ b
        · exact absurd ⟨j, h3, h4, h5⟩ h
        · omega
theorem gone_cnt {r : Nat → N4} {n : Nat} : ∀ {k : Nat}, k ≤ n → cntB (goneB r n k) n = k
  | 0, _ => gone_cnt0
  | k + 1, h => by
    have ih := gone_cnt (r := r) (n := n) (k := k) (by omega)
    obtain ⟨w, hw, e⟩ := cntB_ex (p := goneB r n k) (n := n) (by omega)
    obtain ⟨v, hv, hp, hmin⟩ := least_of (q := rankL r n) (p := fun j => k ≤ rankL r n j) (rankL r n w) w n (Nat.le_refl _) hw (by unfold goneB at e; simpa using e)
    have hr : rankL r n v = k := rank_next ih hv hp fun j hj hkj => by
      cases hb : ltL (lkF r j) (lkF r v) with
      | false => rfl
      | true => have h1 := rank_lt hj hb; have h2 := hmin j hj hkj; omega
    exact (gone_next ih hv hr).2
end Go.Eng
