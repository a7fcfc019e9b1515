/-
  Layer 8: numbers that are written one behind the other; what is read is written so alone.
-/
import Derived.Test.YtelpmalmknpogaaCodStay
set_option linter.unusedSimpArgs false
set_option linter.unusedVariables false
set_option maxRecDepth 100000
namespace Go.Eng
/-- Numbers, one behind the other. -/
def nbF (f : Nat → UInt8) (L : Nat) (g : Nat → N4) : Nat → (Nat → UInt8)
  | 0 => f
  | k + 1 => catU (nbF f L g k) (L + 32 * k) (bytesF (g k))
def nwN (n : Nat) : Nat := smN (UInt64.ofNat n) + 32 * n
def nwB (g : Nat → N4) (n : Nat) : Nat → UInt8 := fun k => if k < smN (UInt64.ofNat n) then smB (UInt64.ofNat n) k else bytesF (g ((k - smN (UInt64.ofNat n)) / 32)) ((k - smN (UInt64.ofNat n)) % 32)
theorem nbF_at (f : Nat → UInt8) (L : Nat) (g : Nat → N4) : ∀ (i k : Nat), k < L + 32 * i → nbF f L g i k = if k < L then f k else bytesF (g ((k - L) / 32)) ((k - L) % 32)
  | 0, k, h => by rw [nbF, if_pos (by omega)]
  | i + 1, k, h => by
    rw [nbF]
    unfold catU
    by_cases h1 : k < L + 32 * i
    · rw [if_pos h1, nbF_at f L g i k h1]
    · rw [if_neg h1, if_neg (by omega), show (k - L) / 32 = i by omega, show (k - L) % 32 = k - (L + 32 * i) by omega]
theorem nats_end {f : Nat → UInt8} {g : Nat → N4} {n m : Nat} (k : Nat) (hk : k < n + nwN m) : nbF (catU f n (smB (UInt64.ofNat m))) (n + smN (UInt64.ofNat m)) g m k = catU f n (nwB g m) k := by
  unfold nwN at hk
  rw [nbF_at _ _ _ _ _ (by omega)]
  unfold catU nwB
  by_cases h1 : k < n
  · rw [if_pos (by omega), if_pos h1, if_pos h1]
  · rw [if_neg h1, if_neg h1]
    by_cases h2 : k < n + smN (UInt64.ofNat m)
    · rw [if_pos h2, if_pos (by omega)]
    · rw [if_neg h2, if_neg (by omega), show k - (n + smN (UInt64.ofNat m)) = k - n - smN (UInt64.ofNat m) by omega]
theorem nats_endN {g : Nat → N4} {m : Nat} (k : Nat) (hk : k < nwN m) : nbF (smB (UInt64.ofNat m)) (smN (UInt64.ofNat m)) g m k = nwB g m k := by
  have h := nats_end (f := fun _ => 0) (g := g) (n := 0) (m := m) k (by omega)
  rw [catU_nil, catU_nil, Nat.zero_add] at h
  exact h
theorem nwN_rng (n : Nat) : 1 ≤ nwN n ∧ nwN n ≤ 32 * n + 9 := by have := smN_rng (UInt64.ofNat n); unfold nwN; omega
end Go.Eng
