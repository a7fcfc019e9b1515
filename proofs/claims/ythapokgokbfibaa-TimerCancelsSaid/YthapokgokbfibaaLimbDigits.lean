/-
  Limb: a number's bytes, the lowest one first.
-/
import Derived.Test.YthapokgokbfibaaLimbLaws
namespace Go.Eng

def dig (n k : Nat) : Nat := n / 256 ^ k % 256

theorem dig_lt (n k : Nat) : dig n k < 256 := Nat.mod_lt _ (by omega)

theorem vecV_ext {n : Nat} {f g : Nat → Value} (h : ∀ k, k < n → f k = g k) : vecV n f = vecV n g := by
  unfold vecV
  congr 2
  exact List.map_congr_left fun k hk => h k (List.mem_range.1 hk)

/-- The number of the first of some digits. -/
def numOf (f : Nat → Nat) : Nat → Nat
  | 0 => 0
  | k + 1 => numOf f k + f k * 256 ^ k

theorem numOf_lt {f : Nat → Nat} : ∀ {k : Nat}, (∀ i, i < k → f i < 256) → numOf f k < 256 ^ k
  | 0, _ => Nat.one_pos
  | k + 1, h => by
    have ih := numOf_lt (f := f) (k := k) fun i hi => h i (by omega)
    have hk := h k (by omega)
    have : f k * 256 ^ k ≤ 255 * 256 ^ k := Nat.mul_le_mul_right _ (by omega)
    simp only [numOf]
    rw [Nat.pow_succ]
    omega

theorem numOf_congr {f g : Nat → Nat} : ∀ {k : Nat}, (∀ i, i < k → f i = g i) → numOf f k = numOf g k
  | 0, _ => rfl
  | k + 1, h => by
    simp only [numOf]
    rw [numOf_congr (k := k) fun i hi => h i (by omega), h k (by omega)]

theorem numOf_dig (n : Nat) : ∀ k, numOf (dig n) k = n % 256 ^ k
  | 0 => by simp [numOf, Nat.mod_one]
  | k + 1 => by
    simp only [numOf]
    rw [numOf_dig n k, dig, Nat.pow_succ, Nat.mod_mul, Nat.mul_comm]

theorem dig_of_num {f : Nat → Nat} {n k : Nat} (hf : ∀ i, i < k → f i < 256) (hn : numOf f k = n) : ∀ i, i < k → f i = dig n i := by
  intro i hi
  induction k generalizing n with
  | zero => omega
  | succ k ih =>
    simp only [numOf] at hn
    have hlt := numOf_lt (f := f) (k := k) fun i hi => hf i (by omega)
    have hfk := hf k (by omega)
    have hp : 0 < 256 ^ k := Nat.pow_pos (by omega)
    by_cases hik : i = k
    · subst hik
      unfold dig
      rw [← hn, Nat.add_mul_div_right _ _ hp, Nat.div_eq_of_lt hlt, Nat.zero_add, Nat.mod_eq_of_lt hfk]
    · have h1 := ih (n := numOf f k) (fun i hi => hf i (by omega)) rfl (by omega)
      rw [h1]
      unfold dig
      have hsplit : 256 ^ k = 256 ^ i * (256 * 256 ^ (k - i - 1)) := by
        rw [← Nat.pow_succ', ← Nat.pow_add]; congr 1; omega
      rw [← hn, hsplit, Nat.mul_left_comm (f k), Nat.add_mul_div_left _ _ (Nat.pow_pos (by omega)), Nat.mul_left_comm (f k), Nat.add_mul_mod_self_left]

theorem and255 (x : UInt64) : (x &&& 255).toNat = x.toNat % 256 := by
  rw [UInt64.toNat_and]; exact Nat.and_two_pow_sub_one_eq_mod _ 8
theorem and255_le (x : UInt64) : (x &&& 255).toNat ≤ 9223372036854775807 := by rw [and255]; omega

theorem pow256 (i : Nat) : 256 ^ i = 2 ^ (8 * i) := by rw [Nat.pow_mul]

theorem byte_low {w q r : Nat} (hr : r < 8) : (w + 2 ^ 64 * q) / 2 ^ (8 * r) % 256 = w / 2 ^ (8 * r) % 256 := by
  have e : 2 ^ 64 * q = 2 ^ (8 * r) * (256 * (2 ^ (8 * (7 - r)) * q)) := by
    rw [← Nat.mul_assoc 256, ← Nat.mul_assoc, show 256 = 2 ^ 8 from rfl, ← Nat.pow_add, ← Nat.pow_add]
    congr 2; omega
  rw [e, Nat.add_mul_div_left _ _ (Nat.two_pow_pos _)]
  omega

theorem word_of (a : N4) (j : Nat) (hj : j < 4) : ∃ q, a.val / 2 ^ (64 * j) = (a.get j).toNat + 2 ^ 64 * q := by
  have h1 := a.a.toNat_lt
  have h2 := a.b.toNat_lt
  have h3 := a.c.toNat_lt
  have h4 := a.d.toNat_lt
  unfold N4.val
  rcases j with _ | _ | _ | _ | j
  · exact ⟨a.b.toNat + 2 ^ 64 * a.c.toNat + 2 ^ 128 * a.d.toNat, by show _ = a.a.toNat + _; omega⟩
  · exact ⟨a.c.toNat + 2 ^ 64 * a.d.toNat, by show _ = a.b.toNat + _; omega⟩
  · exact ⟨a.d.toNat, by show _ = a.c.toNat + _; omega⟩
  · exact ⟨0, by show _ = a.d.toNat + _; omega⟩
  · omega

theorem word_of8 (a : N8) (j : Nat) (hj : j < 8) : ∃ q, a.val / 2 ^ (64 * j) = (a.get j).toNat + 2 ^ 64 * q := by
  have l0 := a.lo.val_lt
  by_cases h : j < 4
  · obtain ⟨q, hq⟩ := word_of a.lo j h
    refine ⟨q + 2 ^ (192 - 64 * j) * a.hi.val, ?_⟩
    have e : 2 ^ 256 * a.hi.val = 2 ^ (64 * j) * (2 ^ 64 * (2 ^ (192 - 64 * j) * a.hi.val)) := by
      rw [← Nat.mul_assoc (2 ^ 64), ← Nat.mul_assoc, ← Nat.pow_add, ← Nat.pow_add]
      congr 2; omega
    have eg : a.get j = a.lo.get j := by
      rcases j with _ | _ | _ | _ | j <;> first | rfl | omega
    unfold N8.val
    rw [e, Nat.add_mul_div_left _ _ (Nat.two_pow_pos _), hq, eg]
    omega
  · obtain ⟨k, rfl⟩ : ∃ k, j = k + 4 := ⟨j - 4, by omega⟩
    obtain ⟨q, hq⟩ := word_of a.hi k (by omega)
    refine ⟨q, ?_⟩
    have eg : a.get (k + 4) = a.hi.get k := by
      rcases k with _ | _ | _ | _ | k <;> first | rfl | omega
    unfold N8.val
    rw [show 64 * (k + 4) = 256 + 64 * k by omega, Nat.pow_add, ← Nat.div_div_eq_div_mul, eg, ← hq]
    congr 1
    omega

theorem byte_val (a : N4) (i : Nat) (hi : i < 32) : (shr64 (a.get (i / 8)) (8 * (i % 8)) &&& 255).toNat = dig a.val i := by
  rw [and255, shr64_toNat, dig, pow256]
  have hr : i % 8 < 8 := Nat.mod_lt _ (by omega)
  have ei : 8 * i = 64 * (i / 8) + 8 * (i % 8) := by omega
  obtain ⟨q, hq⟩ := word_of a (i / 8) (by omega)
  rw [ei, Nat.pow_add, ← Nat.div_div_eq_div_mul, hq, byte_low hr]

theorem byte8_val (a : N8) (i : Nat) (hi : i < 64) : (shr64 (a.get (i / 8)) (8 * (i % 8)) &&& 255).toNat = dig a.val i := by
  rw [and255, shr64_toNat, dig, pow256]
  have hr : i % 8 < 8 := Nat.mod_lt _ (by omega)
  have ei : 8 * i = 64 * (i / 8) + 8 * (i % 8) := by omega
  obtain ⟨q, hq⟩ := word_of8 a (i / 8) (by omega)
  rw [ei, Nat.pow_add, ← Nat.div_div_eq_div_mul, hq, byte_low hr]

/-- Digits so far. -/
def digV (n : Nat) : Value := vecV 64 fun k => nat (dig n k)

theorem digs_zero (n : Nat) : ∀ k, (fun _ => 0 : Nat → Nat) k = if k < 0 then dig n k else 0 := fun k => by simp
theorem digs_step {f : Nat → Nat} {n i v : Nat} (h : ∀ k, f k = if k < i then dig n k else 0) (hv : v = dig n i) : ∀ k, upd f i v k = if k < i + 1 then dig n k else 0 := fun k => by
  unfold upd
  by_cases hk : k = i
  · subst hk; simp [hv]
  · rw [if_neg hk, h k]
    by_cases h1 : k < i
    · rw [if_pos h1, if_pos (by omega)]
    · rw [if_neg h1, if_neg (by omega)]
theorem dig_zero {n k : Nat} (h : n < 256 ^ k) : dig n k = 0 := by unfold dig; rw [Nat.div_eq_of_lt h]
theorem digs_end {f : Nat → Nat} {n m : Nat} (h : ∀ k, f k = if k < m then dig n k else 0) (hn : n < 256 ^ m) : vecV 64 (fun k => nat (f k)) = digV n := vecV_ext fun k _ => by
  rw [h k]
  by_cases hk : k < m
  · rw [if_pos hk]
  · rw [if_neg hk, dig_zero (Nat.lt_of_lt_of_le hn (Nat.pow_le_pow_right (by omega) (by omega)))]

/-! ### the number of digits, one by one -/
theorem add_byte {g : UInt64} {d s : Nat} (hs : s ≤ 56) (hd : d < 256) (hg : g.toNat < 2 ^ s) : (g + shl64 (UInt64.ofNat d) s).toNat = g.toNat + d * 2 ^ s := by
  have hp : 2 ^ s ≤ 2 ^ 56 := Nat.pow_le_pow_right (by omega) hs
  have h1 : d * 2 ^ s ≤ 255 * 2 ^ s := Nat.mul_le_mul_right _ (by omega)
  rw [UInt64.toNat_add, shl64_toNat, UInt64.toNat_ofNat']
  rw [Nat.mod_eq_of_lt (show d < 2 ^ 64 by omega), Nat.mod_eq_of_lt (show d * 2 ^ s < 18446744073709551616 by omega), Nat.mod_eq_of_lt (by omega)]

theorem low_step (a : N4) (n i : Nat) (hi : i < 32) (ha : a.val = n % 256 ^ i) :
    (a.set (i / 8) (a.get (i / 8) + shl64 (UInt64.ofNat (dig n i)) (8 * (i % 8)))).val = n % 256 ^ (i + 1) := by
  have hj : i / 8 < 4 := by omega
  obtain ⟨q, hq⟩ := word_of a (i / 8) hj
  have ei : 8 * i = 64 * (i / 8) + 8 * (i % 8) := by omega
  have hlt : a.val < 2 ^ (64 * (i / 8)) * 2 ^ (8 * (i % 8)) := by
    rw [ha, ← Nat.pow_add, ← ei, ← pow256]; exact Nat.mod_lt _ (Nat.pow_pos (by omega))
  have hdiv : a.val / 2 ^ (64 * (i / 8)) < 2 ^ (8 * (i % 8)) := Nat.div_lt_of_lt_mul hlt
  have hg : (a.get (i / 8)).toNat < 2 ^ (8 * (i % 8)) := by omega
  have hs := a.set_val (i / 8) (a.get (i / 8) + shl64 (UInt64.ofNat (dig n i)) (8 * (i % 8))) hj
  rw [add_byte (by omega) (dig_lt n i) hg, Nat.mul_add] at hs
  have e : 2 ^ (64 * (i / 8)) * (dig n i * 2 ^ (8 * (i % 8))) = dig n i * 256 ^ i := by
    rw [pow256, ei, Nat.pow_add, Nat.mul_left_comm]
  rw [e] at hs
  have hm : n % 256 ^ (i + 1) = n % 256 ^ i + dig n i * 256 ^ i := by
    rw [Nat.pow_succ, Nat.mod_mul, dig, Nat.mul_comm]
  omega

def N8.set (x : N8) (i : Nat) (v : UInt64) : N8 := match decide (i < 4) with
  | true => { x with lo := x.lo.set i v }
  | false => { x with hi := x.hi.set (i - 4) v }
theorem N8.get_lo (x : N8) {i : Nat} (h : i < 4) : x.get i = x.lo.get i := by rcases i with _ | _ | _ | _ | i <;> first | rfl | omega
theorem N8.get_hi (x : N8) {i : Nat} (h : i < 4) : x.get (i + 4) = x.hi.get i := by rcases i with _ | _ | _ | _ | i <;> first | rfl | omega
theorem store_tab8 (x : N8) (i : Nat) (v : UInt64) (hi : i < 8) : (tab8 x).store (.tab i 0) [u64 v] = some (tab8 (x.set i v)) := by
  show some (Cont.tab 8 1 fun k => if k = i then [u64 v] else [u64 (x.get k)]) = _
  congr 1
  unfold tab8
  congr 1
  funext k
  by_cases h : k = i
  · subst h
    rw [if_pos rfl]
    rcases k with _ | _ | _ | _ | _ | _ | _ | _ | k <;> first | rfl | omega
  · rw [if_neg h]
    rcases i with _ | _ | _ | _ | _ | _ | _ | _ | i <;> first | omega | (rcases k with _ | _ | _ | _ | _ | _ | _ | _ | k <;> first | rfl | omega)

theorem N8.set_val (q : N8) (j : Nat) (v : UInt64) (hj : j < 8) : (q.set j v).val + 2 ^ (64 * j) * (q.get j).toNat = q.val + 2 ^ (64 * j) * v.toNat := by
  unfold N8.set N8.val
  by_cases h : j < 4
  · rw [decide_eq_true h, q.get_lo h]
    have := q.lo.set_val j v h
    simp only
    omega
  · obtain ⟨k, rfl⟩ : ∃ k, j = k + 4 := ⟨j - 4, by omega⟩
    rw [decide_eq_false h, q.get_hi (show k < 4 by omega), Nat.add_sub_cancel]
    have := q.hi.set_val k v (by omega)
    simp only
    rw [show 64 * (k + 4) = 256 + 64 * k by omega, Nat.pow_add, Nat.mul_assoc, Nat.mul_assoc]
    omega

theorem all_step (a : N8) (n i : Nat) (hi : i < 64) (ha : a.val = n % 256 ^ i) :
    (a.set (i / 8) (a.get (i / 8) + shl64 (UInt64.ofNat (dig n i)) (8 * (i % 8)))).val = n % 256 ^ (i + 1) := by
  have hj : i / 8 < 8 := by omega
  obtain ⟨q, hq⟩ := word_of8 a (i / 8) hj
  have ei : 8 * i = 64 * (i / 8) + 8 * (i % 8) := by omega
  have hlt : a.val < 2 ^ (64 * (i / 8)) * 2 ^ (8 * (i % 8)) := by
    rw [ha, ← Nat.pow_add, ← ei, ← pow256]; exact Nat.mod_lt _ (Nat.pow_pos (by omega))
  have hdiv : a.val / 2 ^ (64 * (i / 8)) < 2 ^ (8 * (i % 8)) := Nat.div_lt_of_lt_mul hlt
  have hg : (a.get (i / 8)).toNat < 2 ^ (8 * (i % 8)) := by omega
  have hs := a.set_val (i / 8) (a.get (i / 8) + shl64 (UInt64.ofNat (dig n i)) (8 * (i % 8))) hj
  rw [add_byte (by omega) (dig_lt n i) hg, Nat.mul_add] at hs
  have e : 2 ^ (64 * (i / 8)) * (dig n i * 2 ^ (8 * (i % 8))) = dig n i * 256 ^ i := by
    rw [pow256, ei, Nat.pow_add, Nat.mul_left_comm]
  rw [e] at hs
  have hm : n % 256 ^ (i + 1) = n % 256 ^ i + dig n i * 256 ^ i := by
    rw [Nat.pow_succ, Nat.mod_mul, dig, Nat.mul_comm]
  omega

def N8.ofNat (n : Nat) : N8 := ⟨N4.ofNat n, N4.ofNat (n / 2 ^ 256)⟩
theorem N8.val_ofNat (n : Nat) : (N8.ofNat n).val = n % 2 ^ 512 := by
  simp only [N8.ofNat, N8.val, N4.val_ofNat]
  omega
theorem to_lit8 (x : N8) : ∀ o v, (lit8 x).get o = some v → (tab8 x).get o = some v := fun o v h => by rw [get_tab8]; exact h
theorem N4.eq_of_val {x y : N4} (h : x.val = y.val) : x = y := N4.ext_val h
theorem N8.eq_of_val {x y : N8} (h : x.val = y.val) : x = y := N8.ext_val h
theorem N8.eq_ofNat {x : N8} {n : Nat} (h : x.val = n) : x = N8.ofNat n := N8.eq_of_val (by rw [N8.val_ofNat, Nat.mod_eq_of_lt (by rw [← h]; exact x.val_lt), h])

end Go.Eng
