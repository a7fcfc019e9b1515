/-
  The document's digest: what its loops keep.
-/
import Derived.Test.YtkbiahdnfhokgaaDoorShaMore
namespace Go.Eng
set_option linter.unusedSimpArgs false
set_option linter.unusedVariables false
set_option maxRecDepth 100000
theorem rp_init {g f : Nat → UInt8} {n : Nat} : ∀ k, k < 0 + n + 1 → catU (catU g 0 f) (0 + n) (fun _ => 128) k = rpad f n k := fun k hk => by
  unfold catU rpad
  by_cases h : k < n
  · rw [if_pos (by omega), if_neg (by omega), if_pos h, Nat.sub_zero]
  · rw [if_neg (by omega), if_neg h, if_pos (by omega)]
theorem rp_init0 {g f : Nat → UInt8} : ∀ k, k < 0 + 1 → catU g 0 (fun _ => 128) k = rpad f 0 k := fun k hk => by
  obtain rfl : k = 0 := by omega
  rfl
theorem rp_step {f g : Nat → UInt8} {n L : Nat} (h0 : n + 1 ≤ L) (h : ∀ k, k < L → g k = rpad f n k) : ∀ k, k < L + 1 → catU g L (fun _ => 0) k = rpad f n k := fun k hk => by
  unfold catU
  by_cases h1 : k < L
  · rw [if_pos h1, h k h1]
  · rw [if_neg h1]
    unfold rpad
    rw [if_neg (by omega), if_neg (by omega)]
theorem rp_all {f g : Nat → UInt8} {n L : Nat} (hL : L = rpadL n) (h : ∀ k, k < L → g k = rpad f n k) : ∀ k, k < L + 8 →
    catU (catU (catU (catU (catU (catU (catU (catU g L (fun _ => (shr64 (UInt64.ofNat n * 8) 56).toUInt8)) (L + 1) (fun _ => (shr64 (UInt64.ofNat n * 8) 48).toUInt8)) (L + 1 + 1) (fun _ => (shr64 (UInt64.ofNat n * 8) 40).toUInt8)) (L + 1 + 1 + 1) (fun _ => (shr64 (UInt64.ofNat n * 8) 32).toUInt8)) (L + 1 + 1 + 1 + 1) (fun _ => (shr64 (UInt64.ofNat n * 8) 24).toUInt8)) (L + 1 + 1 + 1 + 1 + 1) (fun _ => (shr64 (UInt64.ofNat n * 8) 16).toUInt8)) (L + 1 + 1 + 1 + 1 + 1 + 1) (fun _ => (shr64 (UInt64.ofNat n * 8) 8).toUInt8)) (L + 1 + 1 + 1 + 1 + 1 + 1 + 1) (fun _ => (shr64 (UInt64.ofNat n * 8) 0).toUInt8) k = padF f n k := fun k hk => by
  rw [cat8 _ _ _ _ _ _ _ _ _ _ _ hk]
  by_cases h1 : k < L
  · rw [if_pos h1, h k h1, rpad_tail (by omega)]
  · rw [if_neg h1]
    obtain ⟨j, rfl⟩ : ∃ j, k = L + j := ⟨k - L, by omega⟩
    rw [Nat.add_sub_cancel_left, hL, rpad_len (by omega)]
    unfold lenB
    rw [UInt64.mul_comm 8]
    rcases j with _ | _ | _ | _ | _ | _ | _ | _ | j <;> first | rfl | omega
theorem blk_step {f g : Nat → UInt8} {n M at_ nm c : Nat} {s : Nat → UInt32} (h0 : at_ % 64 = 0) (h1 : at_ + 64 ≤ M) (h2 : s = foldS (padF f n) (at_ / 64)) (h : ∀ k, k < M → g k = padF f n k) :
    mixS s (bytP nm at_ 64 c g).wf = foldS (padF f n) ((at_ + 64) / 64) := by
  rw [h2, show (at_ + 64) / 64 = at_ / 64 + 1 by omega, foldS]
  exact mixS_congr fun k hk => by
    show g (at_ + k) = _
    rw [h _ (by omega), show 64 * (at_ / 64) = at_ by omega]
theorem digR_stepR {s : Nat → UInt32} {d : Nat → UInt8} {i : Nat} (h : d = digR s i) : upd d i ((shr32 (s (i / 4)) (24 - 8 * (i % 4))).toUInt8) = digR s (i + 1) := by
  rw [Nat.mul_comm 8]; exact digR_step h
theorem rof_fin {f : Nat → UInt8} {n at_ i : Nat} {s : Nat → UInt32} {d : Nat → UInt8} (h : d = digR s i) (hi : i = 32) (hs : s = foldS (padF f n) (at_ / 64)) (ha : at_ = rpadL n + 8) : vecV 32 (fun k => u8 (d k)) = vecV 32 fun k => u8 (digOf f n k) := by
  subst h hi hs ha
  rw [vec_digR]
  unfold digOf rpadL
  rw [show n + (tailZ (UInt64.ofNat n) + 8) = n + tailZ (UInt64.ofNat n) + 8 by omega]
end Go.Eng
