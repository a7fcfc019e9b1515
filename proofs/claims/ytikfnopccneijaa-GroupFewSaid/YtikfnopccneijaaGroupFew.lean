/-
  Layer 5: members are just the powers of the maker: of small groups, by reckoning.
-/
import Derived.Test.YtikfnopccneijaaMaps
namespace Go.Eng
set_option linter.unusedSimpArgs false
set_option linter.unusedVariables false
set_option maxRecDepth 100000

/-- Bits c(lo) .. c(lo + 2^d - 1), as one number. -/
def maskR (c : Nat → Nat) : Nat → Nat → Nat
  | 0, lo => c lo
  | d + 1, lo => maskR c d lo ||| maskR c d (lo + 2 ^ d)
theorem maskR_bit (c : Nat → Nat) (a : Nat) : ∀ (d lo : Nat), (maskR c d lo).testBit a = true ↔ ∃ j, lo ≤ j ∧ j < lo + 2 ^ d ∧ (c j).testBit a = true
  | 0, lo => by
    simp only [maskR, Nat.pow_zero]
    constructor
    · intro h; exact ⟨lo, by omega, by omega, h⟩
    · rintro ⟨j, h1, h2, h3⟩
      rw [show lo = j by omega]; exact h3
  | d + 1, lo => by
    rw [maskR, Nat.testBit_or, Bool.or_eq_true, maskR_bit c a d lo, maskR_bit c a d (lo + 2 ^ d)]
    have e : 2 ^ (d + 1) = 2 ^ d + 2 ^ d := by rw [Nat.pow_succ]; omega
    constructor
    · rintro (⟨j, h1, h2, h3⟩ | ⟨j, h1, h2, h3⟩)
      · exact ⟨j, h1, by omega, h3⟩
      · exact ⟨j, by omega, by omega, h3⟩
    · rintro ⟨j, h1, h2, h3⟩
      rcases Nat.lt_or_ge j (lo + 2 ^ d) with h | h
      · exact .inl ⟨j, h1, h, h3⟩
      · exact .inr ⟨j, h, by omega, h3⟩
def powBit (P Q G j : Nat) : Nat := bif Nat.blt j Q then 2 ^ (G ^ j % P) else 0
def memBit (P Q a : Nat) : Nat := bif Nat.blt a P && Nat.beq (a ^ Q % P) 1 then 2 ^ a else 0
def fewS (P Q G d : Nat) : Bool := Nat.blt P (2 ^ d) && Nat.beq (maskR (powBit P Q G) d 0) (maskR (memBit P Q) d 0)
theorem fewS_ok {P Q G d : Nat} (h : fewS P Q G d = true) {a : Nat} (ha : a < P) (hq : a ^ Q % P = 1) : ∃ j, j < Q ∧ G ^ j % P = a := by
  simp only [fewS, Bool.and_eq_true, Nat.blt_eq] at h
  obtain ⟨h1, h2⟩ := h
  have h3 := Nat.eq_of_beq_eq_true h2
  have h4 : (maskR (memBit P Q) d 0).testBit a = true := (maskR_bit _ a d 0).2 ⟨a, by omega, by omega, by
    unfold memBit
    rw [show (Nat.blt a P && Nat.beq (a ^ Q % P) 1) = true by rw [hq]; simp [Nat.blt_eq, ha]]
    exact Nat.testBit_two_pow_self⟩
  rw [← h3, maskR_bit] at h4
  obtain ⟨j, _, _, h5⟩ := h4
  unfold powBit at h5
  cases h6 : Nat.blt j Q with
  | false => rw [h6] at h5; simp at h5
  | true =>
    rw [h6] at h5
    simp only [cond_true] at h5
    rw [Nat.testBit_two_pow] at h5
    rw [Nat.blt_eq] at h6
    exact ⟨j, h6, by simpa using h5⟩
/-- An element that is not 1, of prime order: its powers below the order are unlike. -/
theorem ord_unlike {P Q g : Nat} (hP : 1 < P) (hQ : IsPr Q) (h1 : g ^ Q % P = 1) (hg : g % P ≠ 1) {i j : Nat} (hij : i < j) (hj : j < Q) : g ^ i % P ≠ g ^ j % P := by
  obtain ⟨t, ⟨ht0, ht1⟩, htm⟩ := least (fun t => 0 < t ∧ g ^ t % P = 1) Q ⟨by have := hQ.1; omega, h1⟩
  have hdiv : ∀ j, g ^ j % P = 1 → t ∣ j := fun j hj => by
    have e := Nat.div_add_mod j t
    have hlt := Nat.mod_lt j ht0
    rcases Nat.eq_zero_or_pos (j % t) with h0 | h0
    · exact Nat.dvd_of_mod_eq_zero h0
    · refine absurd ⟨h0, ?_⟩ (htm (j % t) hlt)
      rw [← e, pow_mod_add (pow_mod_mul hP ht1 (j / t))] at hj
      exact hj
  have htQ : t = Q := by
    rcases hQ.2 t (hdiv Q h1) with h | h
    · rw [h, Nat.pow_one] at ht1; exact absurd ht1 hg
    · exact h
  intro e
  have h4 : g ^ (Q - j + i) % P = 1 := by
    rw [Nat.pow_add, Nat.mul_mod, e, ← Nat.mul_mod, ← Nat.pow_add, show Q - j + j = Q by omega]; exact h1
  have := Nat.le_of_dvd (by omega) (hdiv _ h4)
  omega
def pwr (P G : N4) (j : Nat) : N4 := N4.ofNat (G.val ^ j % P.val)
theorem pwr_val {P G : N4} (h : OddM P) (j : Nat) : (pwr P G j).val = G.val ^ j % P.val := ofNat_mod h.pos _
def fndB (P G a : N4) : Nat → Bool
  | 0 => false
  | j + 1 => selB (fndB P G a j) true (eq4 (pwr P G j) a)
theorem fndB_iff {P G a : N4} (hP : OddM P) : ∀ {n : Nat}, fndB P G a n = true ↔ ∃ j, j < n ∧ G.val ^ j % P.val = a.val
  | 0 => by simp [fndB]
  | n + 1 => by
    rw [fndB, selB_or, Bool.or_eq_true, fndB_iff hP (n := n), eq4_iff]
    constructor
    · rintro (⟨j, hj, h⟩ | h)
      · exact ⟨j, by omega, h⟩
      · exact ⟨n, by omega, by rw [← pwr_val hP, h]⟩
    · rintro ⟨j, hj, h⟩
      rcases (show j < n ∨ j = n by omega) with h1 | rfl
      · exact .inl ⟨j, h1, h⟩
      · exact .inr (N4.ext_val (by rw [pwr_val hP]; exact h))
theorem pwr_step {P G : N4} (hP : OddM P) (j : Nat) : timesM P (pwr P G j) G = pwr P G (j + 1) := N4.ext_val (by
  rw [timesM_val hP, pwr_val hP, pwr_val hP, Nat.pow_succ, Nat.mod_mul_mod])
theorem few_mem {P Q G a : N4} {d : Nat} (h : GoodG P Q G) (hs : fewS P.val Q.val G.val d = true) : (memB P Q a == fndB P G a Q.val) = true := by
  rw [beq_iff_eq]
  refine bool_iff ?_
  rw [fndB_iff h.op, memB_iff h.op]
  constructor
  · rintro ⟨⟨_, h1⟩, h2⟩; exact fewS_ok hs h1 h2
  · rintro ⟨j, hj, e⟩
    have h1 := pow_pos_mod h.op.big h.oq.pos h.pow j
    have h2 : G.val ^ j % P.val < P.val := Nat.mod_lt _ h.op.pos
    rw [e] at h1 h2
    refine ⟨⟨h1, h2⟩, ?_⟩
    rw [← e, ← Nat.pow_mod, ← Nat.pow_mul, Nat.mul_comm, Nat.pow_mul, Nat.pow_mod, h.pow, Nat.one_pow, Nat.mod_eq_of_lt h.op.big]
theorem few_unlike {P Q G : N4} {q : UInt64} (h : GoodG P Q G) (hq : Q = N4.mk q 0 0 0) (hp : IsPr Q.val) (hg : G.val % P.val ≠ 1) (n k : UInt64) :
    ((eq4 (powM P G (N4.mk (n % q) 0 0 0)) (powM P G (N4.mk (k % q) 0 0 0))) == ((n % q) == (k % q))) = true := by
  have hqv : Q.val = q.toNat := by rw [hq, small_v]
  have hq0 : 0 < q.toNat := by rw [← hqv]; exact h.oq.pos
  rw [beq_iff_eq]
  refine bool_iff ?_
  rw [eq4_iff, beq_iff_eq]
  constructor
  · intro e
    have e2 : G.val ^ (n % q).toNat % P.val = G.val ^ (k % q).toNat % P.val := by
      rw [← small_v, ← small_v, ← powM_val h.op, ← powM_val h.op, e]
    have l1 : (n % q).toNat < Q.val := by rw [UInt64.toNat_mod, hqv]; exact Nat.mod_lt _ hq0
    have l2 : (k % q).toNat < Q.val := by rw [UInt64.toNat_mod, hqv]; exact Nat.mod_lt _ hq0
    rcases Nat.lt_trichotomy (n % q).toNat (k % q).toNat with h1 | h1 | h1
    · exact absurd e2 (ord_unlike h.op.big hp h.pow hg h1 l2)
    · exact UInt64.toNat_inj.1 h1
    · exact absurd e2.symm (ord_unlike h.op.big hp h.pow hg h1 l1)
  · intro e; rw [e]
theorem few_rest {Q : N4} {q n : UInt64} (hq : Q = N4.mk q 0 0 0) (h0 : 0 < q.toNat) : restP (N4.mk n 0 0 0) Q = N4.mk (n % q) 0 0 0 := by
  have hqv : Q.val = q.toNat := by rw [hq, small_v]
  unfold restP
  have : ¬ eq4 Q (N4.mk 0 0 0 0) = true := fun e => by
    have h1 := eq4_eq e
    rw [h1] at hqv
    have : (N4.mk 0 0 0 0).val = 0 := rfl
    omega
  rw [if_neg this]
  refine N4.ext_val ?_
  rw [N4.val_ofNat, small_v, small_v, hqv, UInt64.toNat_mod]
  exact Nat.mod_eq_of_lt (Nat.lt_trans (Nat.mod_lt _ h0) (Nat.lt_trans q.toNat_lt (by decide)))
theorem u_succ {i c : UInt64} (h : decide (i < c) = true) : (i + 1).toNat = i.toNat + 1 ∧ i.toNat < c.toNat := by
  rw [decide_eq_true_eq, UInt64.lt_iff_toNat_lt] at h
  refine ⟨?_, h⟩
  rw [UInt64.toNat_add]
  have h1 : (1 : UInt64).toNat = 1 := rfl
  have := c.toNat_lt
  rw [h1, Nat.mod_eq_of_lt (by omega)]
theorem u_end {i c : UInt64} (h : decide (i < c) = false) (h2 : i.toNat ≤ c.toNat) : i.toNat = c.toNat := by
  rw [decide_eq_false_iff_not, UInt64.lt_iff_toNat_lt] at h
  omega
theorem few_fin {P Q G a : N4} {q : UInt64} {d : Nat} (h : GoodG P Q G) (hs : fewS P.val Q.val G.val d = true) (hq : Q = N4.mk q 0 0 0) (hp : IsPr Q.val) (hg : G.val % P.val ≠ 1) (n k : UInt64) {z : Bool} (hz : z = fndB P G a Q.val) :
    (selB (selB (selB true (memB P Q a == z) false) ((eq4 (powM P G (N4.mk (n % q) 0 0 0)) (powM P G (N4.mk (k % q) 0 0 0))) == ((n % q) == (k % q))) false) (eq4 (powM P G (N4.mk (n % q) 0 0 0)) (powM P G (restP (N4.mk n 0 0 0) Q))) false) = true := by
  rw [hz, few_mem h hs, few_unlike h hq hp hg, few_rest hq (by have := h.oq.pos; rw [hq, small_v] at this; exact this), eq4_self']
  rfl
end Go.Eng
