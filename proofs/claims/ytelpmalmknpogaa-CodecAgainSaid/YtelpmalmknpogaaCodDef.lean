/-
  Layer 8: small numbers, and bytes: what is written, and what is read.
-/
import Derived.Test.YtelpmalmknpogaaBytIn
import Derived.Test.YtelpmalmknpogaaGrow
import Derived.Test.YtelpmalmknpogaaLimbByt
set_option linter.unusedSimpArgs false
set_option linter.unusedVariables false
set_option maxRecDepth 100000
namespace Go.Eng
theorem fromA_own {nm c i : Nat} (h : i < c) : fromA (some ⟨nm, 0, none⟩) c i 1 = some ⟨nm, 0 + i, none⟩ := by
  unfold fromA; rw [if_neg (by omega)]; simp [add_none]
def smA (x : UInt64) : N4 := ⟨x, 0, 0, 0⟩
theorem smA_val (x : UInt64) : (smA x).val = x.toNat := by
  show x.toNat + _ = _
  simp [smA]
/-- How many bytes a small number needs. -/
def szU (x : UInt64) : Nat := (len4 (smA x) + 7) / 8
end Go.Eng
namespace Go.Eng
theorem szU_le (x : UInt64) : szU x ≤ 8 := by
  unfold szU
  rw [len4_val, smA_val]
  have := bitLen_le_of_lt (n := x.toNat) (k := 64) x.toNat_lt
  omega
theorem szU_lt (x : UInt64) : x.toNat < 256 ^ szU x := by
  rw [pow256]
  refine Nat.lt_of_lt_of_le (bitLen_lt _) (Nat.pow_le_pow_right (by omega) ?_)
  unfold szU
  rw [len4_val, smA_val]; omega
theorem szU_ge {x : UInt64} (h : szU x ≠ 0) : 256 ^ (szU x - 1) ≤ x.toNat := by
  have h0 : x.toNat ≠ 0 := fun e => h (by unfold szU; rw [len4_val, smA_val, e]; rfl)
  rw [pow256]
  refine Nat.le_trans (Nat.pow_le_pow_right (by omega) ?_) (bitLen_le h0)
  unfold szU
  rw [len4_val, smA_val]; omega
theorem szU_mono {x y : UInt64} (h : x.toNat ≤ y.toNat) : szU x ≤ szU y := by
  rcases Nat.lt_or_ge (szU y) (szU x) with h1 | h1
  · exfalso
    have h2 := szU_ge (x := x) (by omega)
    have h3 := szU_lt y
    have h4 : 256 ^ szU y ≤ 256 ^ (szU x - 1) := Nat.pow_le_pow_right (by omega) (by omega)
    omega
  · exact h1
/-- A small number's bytes. -/
def smN (x : UInt64) : Nat := szU x + 1
def smB (x : UInt64) : Nat → UInt8 := fun k => if k = 0 then UInt8.ofNat (szU x) else bytesF (smA x) (32 - szU x + (k - 1))
theorem smB_dig (x : UInt64) {k : Nat} (h : 0 < k) (h2 : k ≤ szU x) : smB x k = UInt8.ofNat (dig x.toNat (szU x - k)) := by
  have := szU_le x
  unfold smB bytesF
  rw [if_neg (by omega), if_pos (by omega), smA_val]
  congr 2; omega
theorem u8_ofNat_inj {a b : Nat} (ha : a < 256) (hb : b < 256) (h : UInt8.ofNat a = UInt8.ofNat b) : a = b := by
  have := congrArg UInt8.toNat h
  rw [UInt8.toNat_ofNat', UInt8.toNat_ofNat'] at this
  omega
theorem num_of_digs {a b n : Nat} (ha : a < 256 ^ n) (hb : b < 256 ^ n) (h : ∀ k, k < n → dig a k = dig b k) : a = b := by
  have h1 := numOf_dig a n
  have h2 := numOf_dig b n
  rw [Nat.mod_eq_of_lt ha] at h1
  rw [Nat.mod_eq_of_lt hb] at h2
  rw [← h1, ← h2]
  exact numOf_congr h
theorem sm_unlike {a b : UInt64} (h : ∀ k, k < min (smN a) (smN b) → smB a k = smB b k) : a = b := by
  have la := szU_le a
  have lb := szU_le b
  have h0 := h 0 (by unfold smN; omega)
  have e : szU a = szU b := u8_ofNat_inj (by omega) (by omega) h0
  apply UInt64.toNat_inj.1
  refine num_of_digs (n := szU a) (szU_lt a) (by rw [e]; exact szU_lt b) fun k hk => ?_
  have h1 := h (szU a - k) (by unfold smN; omega)
  rw [smB_dig a (by omega) (by omega), smB_dig b (by omega) (by omega), ← e, show szU a - (szU a - k) = k by omega] at h1
  exact u8_ofNat_inj (dig_lt _ _) (dig_lt _ _) h1
theorem unlike_end (a b : UInt64) : (sameS (smB a) (min (smN a) (smN b)) (smB b) (min (smN a) (smN b)) == (a == b)) = true := by
  rw [beq_iff_eq, Bool.eq_iff_iff, beq_iff_eq]
  unfold sameS
  rw [decide_eq_true_eq]
  constructor
  · rintro ⟨_, h⟩; exact sm_unlike h
  · rintro rfl; exact ⟨rfl, fun _ _ => rfl⟩
/-- What was there, and what is put behind. -/
theorem small_end {f : Nat → UInt8} {n : Nat} {x : UInt64} (k : Nat) (hk : k < n + smN x) :
    catU (catU f n (fun _ => UInt8.ofNat ((len4 (N4.mk x 0 0 0) + 7) / 8))) (n + 1) (fun j => bytesF (N4.mk x 0 0 0) (32 - (len4 (N4.mk x 0 0 0) + 7) / 8 + j)) k = catU f n (smB x) k := by
  have hz : (len4 (N4.mk x 0 0 0) + 7) / 8 = szU x := rfl
  rw [hz]
  unfold smN at hk
  unfold catU smB
  by_cases h1 : k < n
  · rw [if_pos (by omega), if_pos h1, if_pos h1]
  · by_cases h2 : k < n + 1
    · rw [if_pos h2, if_neg h1, if_neg h1, if_pos (by omega)]
    · rw [if_neg h2, if_neg h1, if_neg (by omega)]
      exact congrArg (bytesF (smA x)) (show 32 - szU x + (k - (n + 1)) = 32 - szU x + (k - n - 1) by omega)
theorem small_end0 {f : Nat → UInt8} {n : Nat} {x : UInt64} (h0 : ¬ 0 < 32 - (32 - (len4 (N4.mk x 0 0 0) + 7) / 8)) (k : Nat) (hk : k < n + smN x) :
    catU f n (fun _ => UInt8.ofNat ((len4 (N4.mk x 0 0 0) + 7) / 8)) k = catU f n (smB x) k := by
  have hz : (len4 (N4.mk x 0 0 0) + 7) / 8 = szU x := rfl
  have := szU_le x
  rw [hz] at h0 ⊢
  unfold smN at hk
  unfold catU smB
  by_cases h1 : k < n
  · rw [if_pos h1, if_pos h1]
  · rw [if_neg h1, if_neg h1, if_pos (by omega)]
theorem catU_nil {α : Type} (f g : Nat → α) : catU f 0 g = g := by
  funext k; unfold catU; rw [if_neg (by omega), Nat.sub_zero]
theorem catU_assoc {α : Type} (f g h : Nat → α) (a b : Nat) : catU (catU f a g) (a + b) h = catU f a (catU g b h) := by
  funext k; unfold catU
  by_cases h1 : k < a
  · rw [if_pos (by omega), if_pos h1, if_pos h1]
  · by_cases h2 : k < a + b
    · rw [if_pos h2, if_neg h1, if_neg h1, if_pos (by omega)]
    · rw [if_neg h2, if_neg h1, if_neg (by omega), Nat.sub_sub]
theorem spr_as {c n : Nat} {f g : Nat → Value} {z : Value} (h : ∀ k, k < n → f k = g k) : spr c n f z = spr c n g z := by
  unfold spr
  congr 1
  funext k
  by_cases hk : k < n
  · rw [if_pos hk, if_pos hk, h k hk]
  · rw [if_neg hk, if_neg hk]
end Go.Eng
namespace Go.Eng
/-! ### what is read -/
def smV (f : Nat → UInt8) : UInt64 := (ofN (fun k => f (k + 1)) ((1 + f 0).toNat - 1)).a
/-- What is wrong with the small number that bytes begin with. -/
def wrE (f : Nat → UInt8) (n : Nat) (limit : UInt64) : Int :=
  if n = 0 then 3 else if (f 0).toNat ≤ 8 ∧ n - 1 < (f 0).toNat then 3 else if 8 < (f 0).toNat ∨ (0 < (f 0).toNat ∧ (f 1 == 0) = true) then 31 else if limit < smV f then 2 else 0
def failE (e e2 : Int) : Int := if e = 0 then e2 else e
theorem add1_8 {x : UInt8} (h : x.toNat ≤ 254) : (1 + x).toNat = 1 + x.toNat := by
  rw [UInt8.toNat_add]
  have : (1 : UInt8).toNat = 1 := rfl
  omega
theorem wrE_zero {f : Nat → UInt8} {n : Nat} {l : UInt64} (h : wrE f n l = 0) : 0 < n ∧ (f 0).toNat ≤ 8 ∧ (f 0).toNat + 1 ≤ n ∧ (1 + f 0).toNat = 1 + (f 0).toNat ∧ ¬ l < smV f ∧ ¬ (0 < (f 0).toNat ∧ (f 1 == 0) = true) := by
  unfold wrE at h
  by_cases h1 : n = 0
  · rw [if_pos h1] at h; cases h
  rw [if_neg h1] at h
  by_cases h2 : (f 0).toNat ≤ 8 ∧ n - 1 < (f 0).toNat
  · rw [if_pos h2] at h; cases h
  rw [if_neg h2] at h
  by_cases h3 : 8 < (f 0).toNat ∨ (0 < (f 0).toNat ∧ (f 1 == 0) = true)
  · rw [if_pos h3] at h; cases h
  rw [if_neg h3] at h
  by_cases h4 : l < smV f
  · rw [if_pos h4] at h; cases h
  have h5 : (f 0).toNat ≤ 8 := by omega
  exact ⟨by omega, h5, by omega, add1_8 (by omega), h4, fun h => h3 (.inr h)⟩
def rsE (q : BytL) (e : Int) (l : UInt64) : Int := failE e (wrE q.wf q.wn l)
def rsQ (q : BytL) (e : Int) (l : UInt64) : BytL := if rsE q e l = 0 then bytF q (1 + q.wf 0).toNat else q
def rsV (q : BytL) (e : Int) (l : UInt64) : UInt64 := if rsE q e l = 0 then smV q.wf else 0
theorem failE_zero {e e2 : Int} (h : failE e e2 = 0) : e = 0 ∧ e2 = 0 := by
  unfold failE at h
  by_cases h1 : e = 0
  · rw [if_pos h1] at h; exact ⟨h1, h⟩
  · rw [if_neg h1] at h; exact absurd h h1
theorem rs_zero {q : BytL} {e : Int} {l : UInt64} (h : rsE q e l = 0) : 0 < q.wn ∧ (q.wf 0).toNat ≤ 8 ∧ (q.wf 0).toNat + 1 ≤ q.wn ∧ (1 + q.wf 0).toNat = 1 + (q.wf 0).toNat := by
  obtain ⟨a, b, c, d, _⟩ := wrE_zero (failE_zero h).2
  exact ⟨a, b, c, d⟩
/-- What an end says. -/
def endE (n : Nat) (e : Int) : Int := if e = 0 ∧ 0 < n then 30 else e
end Go.Eng
namespace Go.Eng
theorem small_endN {x : UInt64} (k : Nat) (hk : k < smN x) : catU (fun _ => UInt8.ofNat ((len4 (N4.mk x 0 0 0) + 7) / 8)) 1 (fun j => bytesF (N4.mk x 0 0 0) (32 - (len4 (N4.mk x 0 0 0) + 7) / 8 + j)) k = smB x k := by
  have h := small_end (f := fun _ => 0) (n := 0) (x := x) k (by omega)
  rw [catU_nil, catU_nil] at h
  exact h
theorem small_endN0 {x : UInt64} (h0 : ¬ 0 < 32 - (32 - (len4 (N4.mk x 0 0 0) + 7) / 8)) (k : Nat) (hk : k < smN x) : UInt8.ofNat ((len4 (N4.mk x 0 0 0) + 7) / 8) = smB x k := by
  have h := small_end0 (f := fun _ => 0) (n := 0) (x := x) h0 k (by omega)
  rw [catU_nil, catU_nil] at h
  exact h
theorem smN_le (x : UInt64) : smN x ≤ 9 := by have := szU_le x; unfold smN; omega
/-- Bytes, with how many there are. -/
def byN (n : Nat) : Nat := smN (UInt64.ofNat n) + n
def byB (f : Nat → UInt8) (n : Nat) : Nat → UInt8 := catU (smB (UInt64.ofNat n)) (smN (UInt64.ofNat n)) f
theorem smN_rng (x : UInt64) : 1 ≤ smN x ∧ smN x ≤ 9 := ⟨by unfold smN; omega, smN_le x⟩
theorem byN_rng (n : Nat) : 1 ≤ byN n ∧ byN n ≤ n + 9 := by have := smN_rng (UInt64.ofNat n); unfold byN; omega
theorem bytes_endN {q : BytL} (h0 : q.wn = 0) (k : Nat) (hk : k < byN q.wn) : smB (UInt64.ofNat q.wn) k = byB q.wf q.wn k := by
  unfold byN at hk
  unfold byB catU
  rw [if_pos (by omega)]
theorem bytes_end0 {f : Nat → UInt8} {n : Nat} {q : BytL} (h0 : q.wn = 0) (k : Nat) (hk : k < n + byN q.wn) : catU f n (smB (UInt64.ofNat q.wn)) k = catU f n (byB q.wf q.wn) k := by
  unfold catU
  by_cases h : k < n
  · rw [if_pos h, if_pos h]
  · rw [if_neg h, if_neg h]; exact bytes_endN h0 _ (by omega)
end Go.Eng
namespace Go.Eng
theorem wr_3 {f : Nat → UInt8} {n : Nat} {l : UInt64} (h : n = 0 ∨ ((f 0).toNat ≤ 8 ∧ n - 1 < (f 0).toNat)) : (3 : Int) = wrE f n l := by
  unfold wrE
  by_cases h1 : n = 0
  · rw [if_pos h1]
  · rw [if_neg h1, if_pos (by omega)]
theorem wr_31 {f : Nat → UInt8} {n : Nat} {l : UInt64} (h1 : n ≠ 0) (h2 : ¬ ((f 0).toNat ≤ 8 ∧ n - 1 < (f 0).toNat)) (h3 : 8 < (f 0).toNat ∨ (0 < (f 0).toNat ∧ (f 1 == 0) = true)) : (31 : Int) = wrE f n l := by
  unfold wrE; rw [if_neg h1, if_neg h2, if_pos h3]
theorem wr_2 {f : Nat → UInt8} {n : Nat} {l : UInt64} (h1 : n ≠ 0) (h2 : ¬ ((f 0).toNat ≤ 8 ∧ n - 1 < (f 0).toNat)) (h3 : ¬ (8 < (f 0).toNat ∨ (0 < (f 0).toNat ∧ (f 1 == 0) = true))) (h4 : l < smV f) : (2 : Int) = wrE f n l := by
  unfold wrE; rw [if_neg h1, if_neg h2, if_neg h3, if_pos h4]
theorem wr_0 {f : Nat → UInt8} {n : Nat} {l : UInt64} (h1 : n ≠ 0) (h2 : ¬ ((f 0).toNat ≤ 8 ∧ n - 1 < (f 0).toNat)) (h3 : ¬ (8 < (f 0).toNat ∨ (0 < (f 0).toNat ∧ (f 1 == 0) = true))) (h4 : ¬ l < smV f) : (0 : Int) = wrE f n l := by
  unfold wrE; rw [if_neg h1, if_neg h2, if_neg h3, if_neg h4]
theorem ofN_nil (f : Nat → UInt8) : ofN f 0 = ⟨0, 0, 0, 0⟩ ∧ ofE 0 = 0 := ⟨(show ofN f 0 = N4.ofNat 0 from rfl).trans (N4.ext_val (by rw [N4.val_ofNat]; rfl)), rfl⟩
end Go.Eng
namespace Go.Eng
theorem wr_31s {f : Nat → UInt8} {n : Nat} {l : UInt64} (h1 : n ≠ 0) (h2 : ¬ ((f 0).toNat ≤ 8 ∧ n - 1 < (f 0).toNat)) (h3 : selB (decide (8 < (f 0).toNat)) true (selB (decide (0 < (f 0).toNat)) (f 1 == 0) false) = true) : (31 : Int) = wrE f n l := by
  refine wr_31 h1 h2 ?_
  simpa [selB_or, selB_and] using h3
theorem wr_not {f : Nat → UInt8} (h3 : selB (decide (8 < (f 0).toNat)) true (selB (decide (0 < (f 0).toNat)) (f 1 == 0) false) = false) : ¬ (8 < (f 0).toNat ∨ (0 < (f 0).toNat ∧ (f 1 == 0) = true)) := by
  intro h
  rw [← Bool.not_eq_true] at h3
  exact h3 (by simpa [selB_or, selB_and] using h)
theorem rs_out {q : BytL} {e : Int} {l : UInt64} (h : rsE q e l ≠ 0) : rsQ q e l = q ∧ rsV q e l = 0 := ⟨if_neg h, if_neg h⟩
theorem rs_in {q : BytL} {e : Int} {l : UInt64} (h : rsE q e l = 0) : rsQ q e l = bytF q (1 + q.wf 0).toNat ∧ rsV q e l = smV q.wf := ⟨if_pos h, if_pos h⟩
theorem okb_rs {q : BytL} (hq : OkB q) (e : Int) (l : UInt64) : OkB (rsQ q e l) := by
  unfold rsQ
  split
  · rename_i h
    obtain ⟨a, b, c, d⟩ := rs_zero h
    exact okb_from hq (by omega)
  · exact hq
theorem holdb_rs {q : BytL} {e : Int} {l : UInt64} {w : World} (h : FamH (famB q) w) : FamH (famB (rsQ q e l)) w := by
  unfold rsQ
  split
  · rename_i h0
    obtain ⟨a, b, c, d⟩ := rs_zero h0
    exact holdb_from (by omega) h
  · exact h
end Go.Eng
namespace Go.Eng
theorem unlike_cond (a b : UInt64) : selB (selB (decide (a < b)) (decide (smN b < smN a)) false) true (selB (decide (b < a)) (decide (smN a < smN b)) false) = false := by
  rw [← Bool.not_eq_true]
  simp only [selB_or, selB_and, Bool.or_eq_true, Bool.and_eq_true, decide_eq_true_eq, UInt64.lt_iff_toNat_lt]
  unfold smN
  rintro (⟨h1, h2⟩ | ⟨h1, h2⟩)
  · have := szU_mono (x := a) (y := b) (by omega); omega
  · have := szU_mono (x := b) (y := a) (by omega); omega
theorem rs_wb {q : BytL} {e : Int} {l : UInt64} : (rsQ q e l).wb = q.wb := by unfold rsQ; split <;> rfl
end Go.Eng
