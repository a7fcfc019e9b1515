/-
  Limb: bits, lengths, what is left: as numbers.
-/
import Derived.Test.YthapokgokbfibaaLimbMath
import Derived.Test.YthapokgokbfibaaEngO
namespace Go.Eng

def N8.val (x : N8) : Nat := x.lo.val + 2 ^ 256 * x.hi.val
theorem N8.val_lt (x : N8) : x.val < 2 ^ 512 := by
  have h1 := x.lo.val_lt
  have h2 := x.hi.val_lt
  unfold N8.val
  omega

def N4.ofNat (n : Nat) : N4 := ⟨.ofNat n, .ofNat (n / 2 ^ 64), .ofNat (n / 2 ^ 128), .ofNat (n / 2 ^ 192)⟩
theorem N4.val_ofNat (n : Nat) : (N4.ofNat n).val = n % 2 ^ 256 := by
  simp only [N4.ofNat, N4.val, UInt64.toNat_ofNat']
  omega
theorem N4.ofNat_val (x : N4) : N4.ofNat x.val = x := N4.ext_val (by rw [N4.val_ofNat, Nat.mod_eq_of_lt x.val_lt])
theorem N4.eq_ofNat {x : N4} {n : Nat} (h : x.val = n) : x = N4.ofNat n := by rw [← h, N4.ofNat_val]

/-- One of a number's bits. -/
theorem and_one (x : UInt64) : (x &&& 1).toNat = x.toNat % 2 := by
  rw [UInt64.toNat_and]; exact Nat.and_one_is_mod _

def bit4 (a : N4) (i : Nat) : UInt64 := shr64 (a.get (i / 64)) (i % 64) &&& 1
def bit8 (a : N8) (i : Nat) : UInt64 := shr64 (a.get (i / 64)) (i % 64) &&& 1

theorem div_pow_split (n k r : Nat) : n / 2 ^ (64 * k + r) = n / 2 ^ (64 * k) / 2 ^ r := by
  rw [Nat.pow_add, Nat.div_div_eq_div_mul]

theorem bit_low {w q r : Nat} (hr : r < 64) : (w + 2 ^ 64 * q) / 2 ^ r % 2 = w / 2 ^ r % 2 := by
  have e : 2 ^ 64 * q = 2 ^ r * (2 * (2 ^ (63 - r) * q)) := by
    rw [← Nat.mul_assoc 2, ← Nat.mul_assoc, ← Nat.pow_succ', ← Nat.pow_add]
    congr 2; omega
  rw [e, Nat.add_mul_div_left _ _ (Nat.two_pow_pos r)]
  omega

theorem bit4_val (a : N4) (i : Nat) (hi : i < 256) : (bit4 a i).toNat = a.val / 2 ^ i % 2 := by
  unfold bit4
  rw [and_one, shr64_toNat]
  have hr : i % 64 < 64 := Nat.mod_lt _ (by omega)
  have ei : i = 64 * (i / 64) + i % 64 := (Nat.div_add_mod i 64).symm
  have hq : i / 64 < 4 := by omega
  generalize i / 64 = q at ei hq
  generalize i % 64 = r at ei hr
  subst ei
  rw [div_pow_split]
  have h1 := a.a.toNat_lt
  have h2 := a.b.toNat_lt
  have h3 := a.c.toNat_lt
  have h4 := a.d.toNat_lt
  have key : ∃ q', a.val / 2 ^ (64 * q) = (a.get q).toNat + 2 ^ 64 * q' := by
    unfold N4.val
    rcases q with _ | _ | _ | _ | q
    · exact ⟨a.b.toNat + 2 ^ 64 * a.c.toNat + 2 ^ 128 * a.d.toNat, by show _ = a.a.toNat + _; omega⟩
    · exact ⟨a.c.toNat + 2 ^ 64 * a.d.toNat, by show _ = a.b.toNat + _; omega⟩
    · exact ⟨a.d.toNat, by show _ = a.c.toNat + _; omega⟩
    · exact ⟨0, by show _ = a.d.toNat + _; omega⟩
    · omega
  obtain ⟨q', hq'⟩ := key
  rw [hq', bit_low hr]

theorem bit8_val (a : N8) (i : Nat) (hi : i < 512) : (bit8 a i).toNat = a.val / 2 ^ i % 2 := by
  by_cases h : i < 256
  · have e : bit8 a i = bit4 a.lo i := by
      unfold bit8 bit4
      have : i / 64 < 4 := by omega
      congr 2
      generalize i / 64 = q at this
      rcases q with _ | _ | _ | _ | q <;> first | rfl | omega
    rw [e, bit4_val _ _ h]
    unfold N8.val
    have e2 : 2 ^ 256 * a.hi.val = 2 ^ i * (2 * (2 ^ (255 - i) * a.hi.val)) := by
      rw [← Nat.mul_assoc 2, ← Nat.mul_assoc, ← Nat.pow_succ', ← Nat.pow_add]
      congr 2; omega
    rw [e2, Nat.add_mul_div_left _ _ (Nat.two_pow_pos i)]
    omega
  · obtain ⟨j, rfl⟩ : ∃ j, i = 256 + j := ⟨i - 256, by omega⟩
    have e : bit8 a (256 + j) = bit4 a.hi j := by
      unfold bit8 bit4
      have h1 : (256 + j) / 64 = j / 64 + 4 := by omega
      have h2 : (256 + j) % 64 = j % 64 := by omega
      rw [h1, h2]
      have : j / 64 < 4 := by omega
      congr 2
      generalize j / 64 = q at this
      rcases q with _ | _ | _ | _ | q <;> first | rfl | omega
    rw [e, bit4_val _ _ (by omega)]
    unfold N8.val
    rw [Nat.pow_add, ← Nat.div_div_eq_div_mul]
    congr 2
    have := a.lo.val_lt
    omega

/-! ### one bit more behind a rest -/
def bringT (r : N4) (bit : UInt64) : N4 := { add4 r r with a := (add4 r r).a ||| bit }
def bringF (r : N4) (bit : UInt64) (m : N4) : Bool := (b2u (add4c r r) == 0) && (b2u (sub4c (bringT r bit) m) == 1)
def bringR (r : N4) (bit : UInt64) (m : N4) : N4 := match bringF r bit m with
  | true => bringT r bit
  | false => sub4 (bringT r bit) m
def bringQ (r : N4) (bit : UInt64) (m : N4) : UInt64 := match bringF r bit m with
  | true => 0
  | false => 1

theorem bring_t (r : N4) (bit : UInt64) (m : N4) (h0 : selB ((b2u (add4c r r)) == 0) ((b2u (sub4c (N4.mk ((add4 r r).a ||| bit) (add4 r r).b (add4 r r).c (add4 r r).d) m)) == 1) false = true) :
    bringR r bit m = N4.mk ((add4 r r).a ||| bit) (add4 r r).b (add4 r r).c (add4 r r).d ∧ bringQ r bit m = 0 := by
  have h' : bringF r bit m = true := by rw [selB_and] at h0; exact h0
  unfold bringR bringQ
  rw [h']; exact ⟨rfl, rfl⟩
theorem bring_f (r : N4) (bit : UInt64) (m : N4) (h0 : selB ((b2u (add4c r r)) == 0) ((b2u (sub4c (N4.mk ((add4 r r).a ||| bit) (add4 r r).b (add4 r r).c (add4 r r).d) m)) == 1) false = false) :
    bringR r bit m = sub4 (N4.mk ((add4 r r).a ||| bit) (add4 r r).b (add4 r r).c (add4 r r).d) m ∧ bringQ r bit m = 1 := by
  have h' : bringF r bit m = false := by rw [selB_and] at h0; exact h0
  unfold bringR bringQ
  rw [h']; exact ⟨rfl, rfl⟩

theorem or_low {x : Nat} {b : Nat} (hx : x % 2 = 0) (hb : b ≤ 1) : x ||| b = x + b := by
  rcases (show b = 0 ∨ b = 1 by omega) with rfl | rfl
  · simp
  · obtain ⟨y, rfl⟩ : ∃ y, x = 2 * y := ⟨x / 2, by omega⟩
    have := Nat.two_pow_add_eq_or_of_lt (i := 1) (b := 1) (by omega) y
    simpa using this.symm

theorem bringT_val (r : N4) (bit : UInt64) (hb : bit.toNat ≤ 1) : (bringT r bit).val + 2 ^ 256 * (add4c r r).toNat = 2 * r.val + bit.toNat := by
  have h := add4_val r r
  have he : ((add4 r r).a).toNat % 2 = 0 := by
    show (addS r.a r.a false).toNat % 2 = 0
    rw [addS_toNat]; simp only [Bool.toNat_false]; omega
  have ho : ((add4 r r).a ||| bit).toNat = ((add4 r r).a).toNat + bit.toNat := by
    rw [UInt64.toNat_or, or_low he hb]
  have : (bringT r bit).val = (add4 r r).val + bit.toNat := by
    unfold bringT N4.val
    simp only
    rw [ho]; omega
  omega

theorem b2u_zero (b : Bool) : (b2u b == 0) = !b := by cases b <;> rfl

theorem bring_val (r : N4) (bit : UInt64) (m : N4) (hb : bit.toNat ≤ 1) (hr : r.val < m.val) :
    (bringR r bit m).val = (2 * r.val + bit.toNat) % m.val ∧ (bringQ r bit m).toNat = (2 * r.val + bit.toNat) / m.val := by
  have h := bringT_val r bit hb
  have h1 := (bringT r bit).val_lt
  have h2 := m.val_lt
  have hs := sub4_val (bringT r bit) m
  have h3 := (sub4 (bringT r bit) m).val_lt
  rw [sub4c_eq] at hs
  unfold bringR bringQ bringF
  rw [b2u_zero, b2u_one, sub4c_eq]
  cases hc : add4c r r with
  | false =>
    rw [hc] at h
    simp only [Bool.toNat_false, Nat.mul_zero, Nat.add_zero] at h
    by_cases hlt : (bringT r bit).val < m.val
    · simp only [hlt, decide_true, Bool.not_false, Bool.and_true]
      rw [← h, Nat.mod_eq_of_lt hlt, Nat.div_eq_of_lt hlt]
      exact ⟨rfl, rfl⟩
    · simp only [hlt, decide_false, Bool.not_false, Bool.and_false]
      simp only [hlt, decide_false, Bool.toNat_false, Nat.mul_zero, Nat.add_zero] at hs
      have hm : (2 * r.val + bit.toNat) / m.val = 1 := by
        rw [Nat.div_eq_iff (by omega)]; omega
      have hdm := Nat.div_add_mod (2 * r.val + bit.toNat) m.val
      rw [hm] at hdm ⊢
      exact ⟨by omega, rfl⟩
  | true =>
    rw [hc] at h
    simp only [Bool.not_true, Bool.false_and]
    simp only [Bool.toNat_true] at h
    have hlt : (bringT r bit).val < m.val := by omega
    simp only [hlt, decide_true, Bool.toNat_true] at hs
    have hm : (2 * r.val + bit.toNat) / m.val = 1 := by
      rw [Nat.div_eq_iff (by omega)]; omega
    have hdm := Nat.div_add_mod (2 * r.val + bit.toNat) m.val
    rw [hm] at hdm ⊢
    exact ⟨by omega, rfl⟩

/-- The rest so far, one bit further on. -/
theorem rest_step (w m k : Nat) : w / 2 ^ k % m = (2 * (w / 2 ^ (k + 1) % m) + w / 2 ^ k % 2) % m := by
  have e : w / 2 ^ k = 2 * (w / 2 ^ (k + 1)) + w / 2 ^ k % 2 := by
    rw [Nat.pow_succ, ← Nat.div_div_eq_div_mul]; omega
  conv => lhs; rw [e]
  rw [Nat.add_mod, Nat.mul_mod, Nat.add_mod (2 * _), Nat.mul_mod 2 (_ % m), Nat.mod_mod]

/-! ### how many bits -/
def bitLen (n : Nat) : Nat := match decide (n = 0) with
  | true => 0
  | false => n.log2 + 1
theorem bitLen_zero : bitLen 0 = 0 := rfl
theorem bitLen_pos {n : Nat} (h : n ≠ 0) : bitLen n = n.log2 + 1 := by unfold bitLen; rw [decide_eq_false h]
theorem bitLen_lt (n : Nat) : n < 2 ^ bitLen n := by
  by_cases h : n = 0
  · subst h; exact Nat.one_pos
  · rw [bitLen_pos h]; exact Nat.lt_log2_self
theorem bitLen_le {n : Nat} (h : n ≠ 0) : 2 ^ (bitLen n - 1) ≤ n := by
  rw [bitLen_pos h]; exact Nat.log2_self_le h
theorem bitLen_le_of_lt {n k : Nat} (h : n < 2 ^ k) : bitLen n ≤ k := by
  by_cases h0 : n = 0
  · subst h0; exact Nat.zero_le _
  · rw [bitLen_pos h0]
    have := (Nat.log2_lt h0).2 h
    omega
theorem bitLen_unique {n k : Nat} (h1 : n < 2 ^ (k + 1)) (h2 : 2 ^ k ≤ n) : bitLen n = k + 1 := by
  have hn : n ≠ 0 := by have := Nat.two_pow_pos k; omega
  have a := bitLen_le_of_lt h1
  have b : ¬ bitLen n ≤ k := fun hb => by
    have c := bitLen_lt n
    have d := Nat.pow_le_pow_right (n := 2) (by omega) hb
    omega
  omega
theorem bitLen_shift {n k : Nat} (h : 2 ^ k ≤ n) : bitLen n = k + bitLen (n / 2 ^ k) := by
  have hp := Nat.two_pow_pos k
  have hq : n / 2 ^ k ≠ 0 := by
    have := Nat.div_pos h hp
    omega
  have h1 := bitLen_lt (n / 2 ^ k)
  have h2 := bitLen_le hq
  have h0 : bitLen (n / 2 ^ k) ≠ 0 := by rw [bitLen_pos hq]; omega
  obtain ⟨j, hj⟩ : ∃ j, bitLen (n / 2 ^ k) = j + 1 := ⟨bitLen (n / 2 ^ k) - 1, by omega⟩
  rw [hj] at h1 h2 ⊢
  rw [show k + (j + 1) = (k + j) + 1 by omega]
  refine bitLen_unique ?_ ?_
  · rw [show k + j + 1 = k + (j + 1) by omega, Nat.pow_add, Nat.mul_comm]
    exact (Nat.div_lt_iff_lt_mul hp).1 h1
  · rw [Nat.pow_add, Nat.mul_comm]
    exact (Nat.le_div_iff_mul_le hp).1 h2

def len1 (x : UInt64) : Nat := bitLen x.toNat
theorem len1_le (x : UInt64) : len1 x ≤ 64 := bitLen_le_of_lt x.toNat_lt
def len8 (x : UInt8) : UInt8 := .ofNat (bitLen x.toNat)
theorem len8_toNat (x : UInt8) : (len8 x).toNat = bitLen x.toNat := by
  have : bitLen x.toNat ≤ 8 := bitLen_le_of_lt x.toNat_lt
  unfold len8
  rw [UInt8.toNat_ofNat']
  omega
theorem len8_le (x : UInt8) : (len8 x).toNat ≤ 8 := by rw [len8_toNat]; exact bitLen_le_of_lt x.toNat_lt

def tabLen8 : ByteArray := ⟨#[0, 1, 2, 2, 3, 3, 3, 3, 4, 4, 4, 4, 4, 4, 4, 4, 5, 5, 5, 5, 5, 5, 5, 5, 5, 5, 5, 5, 5, 5, 5, 5, 6, 6, 6, 6, 6, 6, 6, 6, 6, 6, 6, 6, 6, 6, 6, 6, 6, 6, 6, 6, 6, 6, 6, 6, 6, 6, 6, 6, 6, 6, 6, 6, 7, 7, 7, 7, 7, 7, 7, 7, 7, 7, 7, 7, 7, 7, 7, 7, 7, 7, 7, 7, 7, 7, 7, 7, 7, 7, 7, 7, 7, 7, 7, 7, 7, 7, 7, 7, 7, 7, 7, 7, 7, 7, 7, 7, 7, 7, 7, 7, 7, 7, 7, 7, 7, 7, 7, 7, 7, 7, 7, 7, 7, 7, 7, 7, 8, 8, 8, 8, 8, 8, 8, 8, 8, 8, 8, 8, 8, 8, 8, 8, 8, 8, 8, 8, 8, 8, 8, 8, 8, 8, 8, 8, 8, 8, 8, 8, 8, 8, 8, 8, 8, 8, 8, 8, 8, 8, 8, 8, 8, 8, 8, 8, 8, 8, 8, 8, 8, 8, 8, 8, 8, 8, 8, 8, 8, 8, 8, 8, 8, 8, 8, 8, 8, 8, 8, 8, 8, 8, 8, 8, 8, 8, 8, 8, 8, 8, 8, 8, 8, 8, 8, 8, 8, 8, 8, 8, 8, 8, 8, 8, 8, 8, 8, 8, 8, 8, 8, 8, 8, 8, 8, 8, 8, 8, 8, 8, 8, 8, 8, 8, 8, 8, 8, 8, 8, 8, 8, 8, 8, 8, 8, 8]⟩
theorem tabLen8_get (i : UInt8) : tabLen8[i.toNat]? = some (len8 i) := by
  have h : ∀ k : Fin 256, tabLen8[k.val]? = some (len8 (.ofNat k.val)) := by decide +kernel
  have := h ⟨i.toNat, i.toNat_lt⟩
  simpa using this

theorem shr_len {x : UInt64} {k : Nat} (h : 2 ^ k ≤ x.toNat) : len1 x = k + len1 (shr64 x k) := by
  unfold len1
  rw [shr64_toNat]
  exact bitLen_shift h
theorem len1_small {x : UInt64} (h : x.toNat < 256) : (len8 x.toUInt8).toNat = len1 x := by
  rw [len8_toNat, len1, UInt64.toNat_toUInt8, Nat.mod_eq_of_lt h]

theorem le_of_dec {c x : UInt64} (h : decide (c ≤ x) = true) : c.toNat ≤ x.toNat := UInt64.le_iff_toNat_le.1 (of_decide_eq_true h)
theorem lt_of_dec {c x : UInt64} (h : decide (c ≤ x) = false) : x.toNat < c.toNat := by
  have := of_decide_eq_false h
  rw [UInt64.le_iff_toNat_le] at this; omega
theorem shr_bd {x : UInt64} (k n : Nat) (h : x.toNat < 2 ^ (n + k)) : (shr64 x k).toNat < 2 ^ n := by
  rw [shr64_toNat, Nat.div_lt_iff_lt_mul (Nat.two_pow_pos k), ← Nat.pow_add]; exact h

def len4 (a : N4) : Nat := match !(a.d == 0) with
  | true => 192 + len1 a.d
  | false => match !(a.c == 0) with
    | true => 128 + len1 a.c
    | false => match !(a.b == 0) with
      | true => 64 + len1 a.b
      | false => match !(a.a == 0) with
        | true => 0 + len1 a.a
        | false => 0

theorem beq_zero64 {x : UInt64} (h : (!(x == 0)) = false) : x.toNat = 0 := by
  have : (x == 0) = true := bnot_f h
  rw [beq_iff_eq] at this; subst this; rfl
theorem bne_zero64 {x : UInt64} (h : (!(x == 0)) = true) : 0 < x.toNat := by
  have : (x == 0) = false := bnot_t h
  have h2 : x ≠ 0 := by simpa using this
  rcases Nat.eq_zero_or_pos x.toNat with h0 | h0
  · exact absurd (UInt64.toNat_inj.1 (by rw [h0]; rfl)) h2
  · exact h0

theorem bitLen_two {lo hi k : Nat} (hlo : lo < 2 ^ k) (hhi : 0 < hi) : bitLen (lo + 2 ^ k * hi) = k + bitLen hi := by
  have hp := Nat.two_pow_pos k
  have h : 2 ^ k ≤ lo + 2 ^ k * hi := Nat.le_trans (Nat.le_mul_of_pos_right _ hhi) (Nat.le_add_left _ _)
  rw [bitLen_shift h, Nat.add_mul_div_left _ _ hp, Nat.div_eq_of_lt hlo, Nat.zero_add]

theorem len4_val (a : N4) : len4 a = bitLen a.val := by
  have h1 := a.a.toNat_lt
  have h2 := a.b.toNat_lt
  have h3 := a.c.toNat_lt
  unfold len4 N4.val
  cases hd : (!(a.d == 0)) with
  | true =>
    have := bitLen_two (lo := a.a.toNat + 2 ^ 64 * a.b.toNat + 2 ^ 128 * a.c.toNat) (hi := a.d.toNat) (k := 192) (by omega) (bne_zero64 hd)
    simp only; rw [this]; rfl
  | false =>
    have d0 := beq_zero64 hd
    simp only
    cases hc : (!(a.c == 0)) with
    | true =>
      have := bitLen_two (lo := a.a.toNat + 2 ^ 64 * a.b.toNat) (hi := a.c.toNat) (k := 128) (by omega) (bne_zero64 hc)
      simp only; rw [d0, Nat.mul_zero, Nat.add_zero, this]; rfl
    | false =>
      have c0 := beq_zero64 hc
      simp only
      cases hb : (!(a.b == 0)) with
      | true =>
        have := bitLen_two (lo := a.a.toNat) (hi := a.b.toNat) (k := 64) (by omega) (bne_zero64 hb)
        simp only; rw [d0, c0, Nat.mul_zero, Nat.add_zero, this]; rfl
      | false =>
        have b0 := beq_zero64 hb
        simp only
        cases ha : (!(a.a == 0)) with
        | true => simp only; rw [d0, c0, b0]; simp [len1]
        | false => simp only; rw [d0, c0, b0, beq_zero64 ha]; rfl

theorem len4_le (a : N4) : len4 a ≤ 256 := by rw [len4_val]; exact bitLen_le_of_lt a.val_lt

/-! ### a quotient, bit by bit -/
theorem or_disjoint {x y k : Nat} (hx : x % 2 ^ (k + 1) = 0) (hy : y ≤ 1) : x ||| (y * 2 ^ k) = x + y * 2 ^ k := by
  obtain ⟨z, rfl⟩ : ∃ z, x = 2 ^ (k + 1) * z := ⟨x / 2 ^ (k + 1), by have := Nat.div_add_mod x (2 ^ (k + 1)); omega⟩
  have hlt : y * 2 ^ k < 2 ^ (k + 1) := by
    rw [Nat.pow_succ]
    have : y * 2 ^ k ≤ 1 * 2 ^ k := Nat.mul_le_mul_right _ hy
    have := Nat.two_pow_pos k
    omega
  exact (Nat.two_pow_add_eq_or_of_lt hlt z).symm

theorem N4.set_val (q : N4) (j : Nat) (v : UInt64) (hj : j < 4) : (q.set j v).val + 2 ^ (64 * j) * (q.get j).toNat = q.val + 2 ^ (64 * j) * v.toNat := by
  unfold N4.val
  rcases j with _ | _ | _ | _ | j <;> first | (simp only [N4.set, N4.get]; omega) | omega

theorem get_mod (q : N4) {j r : Nat} (hj : j < 4) (hr : r < 64) (h : q.val % 2 ^ (64 * j + (r + 1)) = 0) : (q.get j).toNat % 2 ^ (r + 1) = 0 := by
  have h1 := q.a.toNat_lt
  have h2 := q.b.toNat_lt
  have h3 := q.c.toNat_lt
  have h4 := q.d.toNat_lt
  have key : ∃ q', q.val / 2 ^ (64 * j) = (q.get j).toNat + 2 ^ 64 * q' := by
    unfold N4.val
    rcases j with _ | _ | _ | _ | j
    · exact ⟨q.b.toNat + 2 ^ 64 * q.c.toNat + 2 ^ 128 * q.d.toNat, by show _ = q.a.toNat + _; omega⟩
    · exact ⟨q.c.toNat + 2 ^ 64 * q.d.toNat, by show _ = q.b.toNat + _; omega⟩
    · exact ⟨q.d.toNat, by show _ = q.c.toNat + _; omega⟩
    · exact ⟨0, by show _ = q.d.toNat + _; omega⟩
    · omega
  obtain ⟨q', hq'⟩ := key
  obtain ⟨z, hz⟩ : ∃ z, q.val = 2 ^ (64 * j + (r + 1)) * z := ⟨q.val / 2 ^ (64 * j + (r + 1)), by have := Nat.div_add_mod q.val (2 ^ (64 * j + (r + 1))); omega⟩
  rw [hz, Nat.pow_add, Nat.mul_assoc, Nat.mul_div_cancel_left _ (Nat.two_pow_pos _)] at hq'
  have e : 2 ^ 64 * q' = 2 ^ (r + 1) * (2 ^ (63 - r) * q') := by
    rw [← Nat.mul_assoc, ← Nat.pow_add]; congr 2; omega
  rw [e] at hq'
  have := congrArg (· % 2 ^ (r + 1)) hq'
  simp only [Nat.mul_mod_right, Nat.add_mul_mod_self_left] at this
  exact this.symm

theorem setbit_val (q : N4) (at_ : Nat) (f : UInt64) (ha : at_ < 256) (hf : f.toNat ≤ 1) (hq : q.val % 2 ^ (at_ + 1) = 0) :
    (q.set (at_ / 64) (q.get (at_ / 64) ||| shl64 f (at_ % 64))).val = q.val + f.toNat * 2 ^ at_ := by
  have hr : at_ % 64 < 64 := Nat.mod_lt _ (by omega)
  have hj : at_ / 64 < 4 := by omega
  have ei : at_ = 64 * (at_ / 64) + at_ % 64 := (Nat.div_add_mod at_ 64).symm
  generalize at_ / 64 = j at ei hj
  generalize at_ % 64 = r at ei hr
  subst ei
  have hs := q.set_val j (q.get j ||| shl64 f r) hj
  have hm := get_mod q hj hr (by rw [← Nat.add_assoc]; exact hq)
  have hsh : (shl64 f r).toNat = f.toNat * 2 ^ r := by
    rw [shl64_toNat, Nat.mod_eq_of_lt]
    have h1 : f.toNat * 2 ^ r ≤ 1 * 2 ^ r := Nat.mul_le_mul_right _ hf
    have h2 : 2 ^ r ≤ 2 ^ 63 := Nat.pow_le_pow_right (by omega) (by omega)
    omega
  rw [UInt64.toNat_or, hsh, or_disjoint hm hf, Nat.mul_add] at hs
  have e : 2 ^ (64 * j) * (f.toNat * 2 ^ r) = f.toNat * 2 ^ (64 * j + r) := by
    rw [Nat.pow_add, Nat.mul_left_comm]
  rw [e] at hs
  omega

theorem quo_step (w m k : Nat) (hm : 0 < m) : w / 2 ^ k / m = 2 * (w / 2 ^ (k + 1) / m) + (2 * (w / 2 ^ (k + 1) % m) + w / 2 ^ k % 2) / m := by
  have e : w / 2 ^ k = 2 * (w / 2 ^ (k + 1)) + w / 2 ^ k % 2 := by
    rw [Nat.pow_succ, ← Nat.div_div_eq_div_mul]; omega
  have hd := Nat.div_add_mod (w / 2 ^ (k + 1)) m
  conv => lhs; rw [e]
  generalize w / 2 ^ k % 2 = b at *
  generalize w / 2 ^ (k + 1) = u at *
  have : 2 * u + b = m * (2 * (u / m)) + (2 * (u % m) + b) := by
    rw [Nat.mul_left_comm]; omega
  rw [this, Nat.mul_add_div hm]

end Go.Eng
