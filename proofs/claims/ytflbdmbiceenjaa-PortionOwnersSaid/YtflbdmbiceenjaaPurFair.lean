/-
  Shares by weight: who has a greater weight gets no less, and what is left is less than there are accounts.
-/
import Derived.Test.YtflbdmbiceenjaaPurse
namespace Go.Eng
open Go.RowKit Go.WideShapes Go.ChangeShapes Go.ChangeAt Go.Deep
set_option linter.unusedSimpArgs false
set_option linter.unusedVariables false
set_option maxRecDepth 100000

def urow2 (x y : UInt64) : Nat → UInt64 := fun k => if k = 0 then x else y
theorem lit2u_get (x y : UInt64) : ∀ j, j < 2 → (Cont.lit [u64 x, u64 y]).get (0 + j) = some (u64 (urow2 x y j)) := fun j hj => by
  rcases j with _ | _ | j
  · rfl
  · rfl
  · omega
section
variable {P : Program} {t ty e : TypeId}
theorem mk_make_spr {B : Nat} {z : Value} (ht : P.underlying t = some (.slice e)) (h1 : OneC P e z B) (n : Nat) (hb : (B : Int) * (n : Int) ≤ 281474976710656 ∧ n ≤ 9223372036854775807) {α : Type} (K : α → Value) (a : α) (hz : K a = z) :
    SRuns P (makeSem t (nat n) (nat n)) [] 1 (fun ns => .slice (some ⟨ns.getD 0 0, 0, none⟩) n (n + 0)) (fun ns => [some ⟨ns.getD 0 0, true, 0, spr (n + 0) n (fun _ => K a) z⟩]) := by
  subst hz
  exact (mk_make ht h1 n hb).recont (C' := fun _ => spr (n + 0) n (fun _ => K a) (K a)) (fun _ => rfl) fun ns o v ho => by
    by_cases h : o < n
    · rw [spr, tabF_in (by omega), if_pos h] at ho; rw [tabF_in h]; exact ho
    · rw [spr, tabF_out (by omega)] at ho; cases ho
theorem mk_append_z {B : Nat} {z : Value} (ht : P.underlying t = some (.slice e)) (h1 : OneC P e z B) (b k bo os n cc : Nat) {α : Type} (K : α → Value) (g h : Nat → α) (S : Cont) (hS : ∀ j, j < n → S.get (os + j) = some (K (h j)))
    (hK : ∀ a, (K a).oneCell' = true) (hb : (0 + n) * B ≤ 140737488355328 ∧ 0 + n ≤ 9223372036854775807) :
    SRuns P (appendSem t ty (.slice (some ⟨b, 0, none⟩) 0 (0 + 0)) (.slice (some ⟨k, bo + os, none⟩) n cc)) [⟨b, true, 0, spr (0 + 0) 0 (fun k => K (g k)) z⟩, ⟨k, false, bo, S⟩] 2
      (fun ns => .slice (some ⟨ns.getD 0 0, 0, none⟩) n (n + ns.getD 1 0))
      (fun ns => [some ⟨ns.getD 0 0, true, 0, spr (n + ns.getD 1 0) n (fun k => K (h k)) z⟩, some ⟨k, false, bo, S⟩]) := by
  have h0 := mk_append (ty := ty) ht h1 b 0 0 k bo os n cc K g h S hS hK hb
  have e : catU g 0 h = h := by funext j; simp [catU]
  rw [e] at h0
  simp only [Nat.zero_add] at h0 ⊢
  exact h0
end

/-! ### one's part -/
theorem mulSmall (x y : UInt64) : (mul8 (smallN x) (smallN y)).lo.val = x.toNat * y.toNat := by
  have h := mul8_val (smallN x) (smallN y)
  rw [smallN_val, smallN_val] at h
  have hx := x.toNat_lt
  have hy := y.toNat_lt
  have h2 : x.toNat * y.toNat < 2 ^ 256 := by
    have := Nat.mul_le_mul (show x.toNat ≤ 2 ^ 64 by omega) (show y.toNat ≤ 2 ^ 64 by omega)
    omega
  have h3 := (mul8 (smallN x) (smallN y)).lo.val_lt
  by_cases e : (mul8 (smallN x) (smallN y)).hi.val = 0
  · rw [e] at h; omega
  · omega
theorem N4.a_of_lt {q : N4} (h : q.val < 2 ^ 64) : q.a.toNat = q.val := by
  have hb := q.b.toNat_lt
  unfold N4.val at h ⊢
  omega
theorem partP_val {pot w : UInt64} {T : N4} (hw : w.toNat ≤ T.val) : (partP pot w T).toNat = pot.toNat * w.toNat / T.val := by
  have hp := pot.toNat_lt
  have hle : pot.toNat * w.toNat / T.val ≤ pot.toNat := by
    by_cases h0 : T.val = 0
    · rw [h0, Nat.div_zero]; omega
    · exact Nat.div_le_of_le_mul (by rw [Nat.mul_comm T.val]; exact Nat.mul_le_mul_left _ hw)
  have hv : (wholeP pot w T).val = pot.toNat * w.toNat / T.val := by
    unfold wholeP quoD
    rw [N4.val_ofNat, mulSmall, Nat.mod_eq_of_lt (by omega)]
  unfold partP
  rw [if_neg]
  · rw [N4.a_of_lt (by omega), hv]
  · rw [len4_val]
    have := bitLen_le_of_lt (k := 64) (show (wholeP pot w T).val < 2 ^ 64 by omega)
    omega
theorem sprS_row (f : Nat → UInt64) (pot : UInt64) (g : Nat → UInt64) (T : N4) : ∀ k j, (sprS f pot g T k).1 j = if j < k then f j + partP pot (g j) T else f j
  | 0, j => by simp [sprS]
  | k + 1, j => by
    have ih := sprS_row f pot g T k
    simp only [sprS, upd]
    by_cases e : j = k
    · subst e; rw [if_pos rfl, ih, if_neg (by omega), if_pos (by omega)]
    · rw [if_neg e, ih]
      by_cases h : j < k
      · rw [if_pos h, if_pos (by omega)]
      · rw [if_neg h, if_neg (by omega)]
def sumF (q : Nat → Nat) : Nat → Nat
  | 0 => 0
  | k + 1 => sumF q k + q k
theorem sprS_left {f : Nat → UInt64} {pot : UInt64} {g : Nat → UInt64} {T : N4} : ∀ k, sumF (fun j => (partP pot (g j) T).toNat) k ≤ pot.toNat → (sprS f pot g T k).2.toNat = pot.toNat - sumF (fun j => (partP pot (g j) T).toNat) k
  | 0, _ => by simp [sprS, sumF]
  | k + 1, h => by
    simp only [sumF] at h ⊢
    have ih := sprS_left (f := f) (pot := pot) (g := g) (T := T) k (by omega)
    simp only [sprS]
    rw [UInt64.toNat_sub_of_le _ _ (by rw [UInt64.le_iff_toNat_le]; omega)]
    omega
theorem sumF_div {pot T : Nat} {q : Nat → Nat} (hT : 0 < T) : ∀ k, sumF (fun j => pot * q j / T) k * T ≤ pot * sumF q k ∧ pot * sumF q k + k ≤ (sumF (fun j => pot * q j / T) k + k) * T
  | 0 => ⟨by simp [sumF], by simp [sumF]⟩
  | k + 1 => by
    obtain ⟨h1, h2⟩ := sumF_div (pot := pot) (T := T) (q := q) hT k
    simp only [sumF]
    have e := Nat.div_add_mod (pot * q k) T
    have hm := Nat.mod_lt (pot * q k) hT
    generalize pot * q k / T = d at *
    generalize pot * q k % T = r at *
    rw [Nat.mul_add]
    generalize sumF (fun j => pot * q j / T) k = S at *
    generalize pot * sumF q k = A at *
    constructor
    · rw [Nat.add_mul, Nat.mul_comm d T]; omega
    · have e2 : (S + d + (k + 1)) * T = (S + k) * T + T * d + T := by
        rw [show S + d + (k + 1) = (S + k) + (d + 1) by omega, Nat.add_mul, Nat.add_mul d 1 T, Nat.mul_comm d T]; omega
      rw [e2]; omega

theorem sumU_sumF (g : Nat → UInt64) : ∀ n, sumU g n = sumF (fun j => (g j).toNat) n
  | 0 => rfl
  | k + 1 => by simp only [sumU, sumF]; rw [sumU_sumF g k]
theorem sumF_congr {p q : Nat → Nat} : ∀ {n : Nat}, (∀ k, k < n → p k = q k) → sumF p n = sumF q n
  | 0, _ => rfl
  | n + 1, h => by simp only [sumF]; rw [sumF_congr (n := n) fun k hk => h k (by omega), h n (by omega)]
theorem catU_at2 {f : Nat → UInt64} {n : Nat} {x y : UInt64} : catU f n (urow2 x y) (n + 1) = y := by
  unfold catU; rw [if_neg (by omega), show n + 1 - n = 1 by omega]; rfl
def fairA (n : Nat) (w : Nat → UInt64) (pot : UInt64) : Nat → UInt64 := spreadF (n + 2) (catU (fun _ => 0) n (urow2 pot 0)) ((n : Nat) : Int) ((n + 1 : Nat) : Int) (n + 2) (catU w n (urow2 0 0))
theorem fair_good {n : Nat} {pot : UInt64} (hn : n ≤ 30) (hp : pot < 4611686018427387904) : goodN (n + 2) (catU (fun _ => 0) n (urow2 pot 0)) := by
  rw [goodN_sum]
  have h0 : ∀ k, k ≤ n → sumU (catU (fun _ => 0) n (urow2 pot 0)) k = 0 := by
    intro k
    induction k with
    | zero => intro _; rfl
    | succ k ih =>
      intro hk
      simp only [sumU]
      rw [ih (by omega)]
      simp [catU, show k < n by omega]
  refine ⟨by omega, ?_⟩
  rw [UInt64.lt_iff_toNat_lt] at hp
  have hp' : pot.toNat < 4611686018427387904 := hp
  simp only [sumU]
  rw [h0 n (Nat.le_refl _)]
  have e1 : catU (fun _ => (0 : UInt64)) n (urow2 pot 0) n = pot := by simp [catU, urow2]
  have e2 : catU (fun _ => (0 : UInt64)) n (urow2 pot 0) (n + 1) = 0 := catU_at2
  rw [e1, e2]
  simp; omega
theorem spread_fair (n : Nat) : spreadE (n + 2) ((n : Nat) : Int) ((n + 1 : Nat) : Int) (n + 2) = 0 := by
  unfold spreadE
  rw [if_pos ⟨isI_nat (by omega), isI_nat (by omega), rfl⟩]

section
variable {n : Nat} {w : Nat → UInt64} {pot : UInt64}
def fairT (n : Nat) (w : Nat → UInt64) : N4 := totN (catU w n (urow2 0 0)) (n + 2)
theorem fairT_val (hn : n ≤ 30) : (fairT n w).val = sumF (fun j => (w j).toNat) n := by
  unfold fairT
  rw [totN_val _ _ (by omega), sumU_sumF]
  simp only [sumF]
  have e1 : catU w n (urow2 0 0) n = 0 := by simp [catU, urow2]
  have e2 : catU w n (urow2 0 0) (n + 1) = 0 := catU_at2
  rw [e1, e2, sumF_congr (q := fun j => (w j).toNat) fun k hk => by simp [catU, hk]]
  simp
theorem sumF_one {q : Nat → Nat} {n a : Nat} (h : a < n) : q a ≤ sumF q n := by
  induction n with
  | zero => omega
  | succ n ih =>
    simp only [sumF]
    by_cases e : a = n
    · subst e; omega
    · have := ih (by omega); omega
theorem fairA_at (k : Nat) (hk : k < n + 2) : fairA n w pot k =
    if k < n then partP pot (w k) (fairT n w) else if k = n then partP pot 0 (fairT n w) else
      partP pot 0 (fairT n w) + (sprS (upd (catU (fun _ => 0) n (urow2 pot 0)) n 0) pot (catU w n (urow2 0 0)) (fairT n w) (n + 2)).2 := by
  have e0 : catU (fun _ => (0 : UInt64)) n (urow2 pot 0) n = pot := by simp [catU, urow2]
  unfold fairA spreadF
  rw [if_pos (spread_fair n)]
  rw [show ((n : Nat) : Int).toNat = n from rfl, show ((n + 1 : Nat) : Int).toNat = n + 1 from rfl, e0]
  show upd _ (n + 1) _ k = _
  unfold upd
  by_cases h1 : k < n
  · rw [if_neg (by omega), if_pos h1, sprS_row, if_pos (by omega)]
    simp [catU, h1, show k ≠ n by omega, fairT]
  · by_cases h2 : k = n
    · subst h2
      rw [if_neg (by omega), if_neg h1, if_pos rfl, sprS_row, if_pos (by omega)]
      simp [catU, urow2, fairT]
    · have h3 : k = n + 1 := by omega
      subst h3
      rw [if_pos rfl, if_neg h1, if_neg h2, sprS_row, if_pos (by omega), catU_at2]
      rw [if_neg h2, catU_at2, UInt64.zero_add]; rfl
theorem partP_zero {T : N4} : partP pot 0 T = 0 := by
  apply UInt64.toNat_inj.1
  rw [partP_val (by simp)]
  simp
theorem fair_part (hn : n ≤ 30) {k : Nat} (hk : k < n) : (fairA n w pot k).toNat = pot.toNat * (w k).toNat / (fairT n w).val := by
  rw [fairA_at k (by omega), if_pos hk, partP_val]
  rw [fairT_val hn]; exact sumF_one (q := fun j => (w j).toNat) hk
theorem fair_none (hn : n ≤ 30) : fairA n w pot n = 0 := by
  rw [fairA_at n (by omega), if_neg (by omega), if_pos rfl, partP_zero]
theorem fair_zero (hn : n ≤ 30) {k : Nat} (hk : k < n) (h : w k = 0) : fairA n w pot k = 0 := by
  apply UInt64.toNat_inj.1
  rw [fair_part hn hk, h]; simp
theorem fair_le (hn : n ≤ 30) {i k : Nat} (hi : i < n) (hk : k < n) (h : w i ≤ w k) : fairA n w pot i ≤ fairA n w pot k := by
  rw [UInt64.le_iff_toNat_le] at h ⊢
  rw [fair_part hn hi, fair_part hn hk]
  exact Nat.div_le_div_right (Nat.mul_le_mul_left _ h)
theorem fair_rest (hn : n ≤ 30) : (fairA n w pot (n + 1)).toNat = pot.toNat - sumF (fun j => pot.toNat * (w j).toNat / (fairT n w).val) n ∧ sumF (fun j => pot.toNat * (w j).toNat / (fairT n w).val) n ≤ pot.toNat := by
  have hv := fairT_val (n := n) (w := w) hn
  have hle : sumF (fun j => pot.toNat * (w j).toNat / (fairT n w).val) n ≤ pot.toNat := by
    by_cases h0 : (fairT n w).val = 0
    · have : ∀ m, sumF (fun j => pot.toNat * (w j).toNat / (fairT n w).val) m = 0 := by
        intro m; induction m with
        | zero => rfl
        | succ m ih => simp only [sumF]; rw [ih, h0, Nat.div_zero]
      rw [this]; omega
    · have h1 := (sumF_div (pot := pot.toNat) (T := (fairT n w).val) (q := fun j => (w j).toNat) (by omega) n).1
      rw [← hv] at h1
      exact Nat.le_of_mul_le_mul_right h1 (by omega)
  have hs : sumF (fun j => (partP pot (catU w n (urow2 0 0) j) (fairT n w)).toNat) (n + 2) = sumF (fun j => pot.toNat * (w j).toNat / (fairT n w).val) n := by
    simp only [sumF]
    have e1 : catU w n (urow2 0 0) n = 0 := by simp [catU, urow2]
    have e2 : catU w n (urow2 0 0) (n + 1) = 0 := catU_at2
    rw [e1, e2, partP_zero]
    rw [sumF_congr (q := fun j => pot.toNat * (w j).toNat / (fairT n w).val) fun k hk => by
      rw [show catU w n (urow2 0 0) k = w k by simp [catU, hk], partP_val]
      rw [hv]; exact sumF_one (q := fun j => (w j).toNat) hk]
    simp
  refine ⟨?_, hle⟩
  rw [fairA_at (n + 1) (by omega), if_neg (by omega), if_neg (by omega), partP_zero, UInt64.zero_add, sprS_left, hs]
  rw [hs]; exact hle
def allZ (w : Nat → UInt64) (n : Nat) : Bool := (List.range n).all fun k => w k == 0
theorem allZ_iff {n : Nat} : allZ w n = true ↔ ∀ k, k < n → w k = 0 := by simp [allZ]
theorem allZ_next (i : Nat) : allZ w (i + 1) = selB (allZ w i) (w i == 0) false := by
  rw [selB_and]; simp [allZ, List.range_succ]
theorem fair_all (hn : n ≤ 30) (h : allZ w n = true) : fairA n w pot (n + 1) = pot := by
  apply UInt64.toNat_inj.1
  rw [(fair_rest hn).1]
  have : ∀ m, m ≤ n → sumF (fun j => pot.toNat * (w j).toNat / (fairT n w).val) m = 0 := by
    intro m; induction m with
    | zero => intro _; rfl
    | succ m ih => intro hm; simp only [sumF]; rw [ih (by omega), allZ_iff.1 h m (by omega)]; simp
  rw [this n (Nat.le_refl _)]; omega
theorem fair_lt (hn : n ≤ 30) (h : allZ w n = false) : fairA n w pot (n + 1) < UInt64.ofNat n := by
  rw [UInt64.lt_iff_toNat_lt, UInt64.toNat_ofNat', Nat.mod_eq_of_lt (by omega), (fair_rest hn).1]
  have hv := fairT_val (n := n) (w := w) hn
  have hT : 0 < (fairT n w).val := by
    rw [hv]
    apply Nat.pos_of_ne_zero
    intro h0
    have : allZ w n = true := allZ_iff.2 fun k hk => by
      have := sumF_one (q := fun j => (w j).toNat) hk
      apply UInt64.toNat_inj.1
      simp only [h0] at this
      simpa using this
    rw [this] at h; cases h
  obtain ⟨h1, h2⟩ := sumF_div (pot := pot.toNat) (T := (fairT n w).val) (q := fun j => (w j).toNat) hT n
  rw [← hv] at h1 h2
  have hn0 : 0 < n := by
    apply Nat.pos_of_ne_zero
    intro h0; subst h0; cases h
  have h3 : pot.toNat < sumF (fun j => pot.toNat * (w j).toNat / (fairT n w).val) n + n := by
    apply Nat.lt_of_mul_lt_mul_right (a := (fairT n w).val)
    omega
  omega
theorem fair_c1 (hn : n ≤ 30) {i : Nat} (hi : i < n) : (selB (w i == 0) (!(fairA n w pot i == 0)) false) = false := by
  cases h : w i == 0 with
  | false => rfl
  | true => rw [fair_zero hn hi (by simpa using h)]; rfl
theorem fair_c2 (hn : n ≤ 30) {i k : Nat} (hi : i < n) (hk : k < n) :
    (selB (selB (decide (w i ≤ w k)) (decide (fairA n w pot k < fairA n w pot i)) false) true (selB (decide (w k ≤ w i)) (decide (fairA n w pot i < fairA n w pot k)) false)) = false := by
  have g : ∀ {a b : Nat}, a < n → b < n → (selB (decide (w a ≤ w b)) (decide (fairA n w pot b < fairA n w pot a)) false) = false := fun {a b} ha hb => by
    by_cases h : w a ≤ w b
    · have h2 := fair_le (pot := pot) hn ha hb h
      rw [decide_eq_false (UInt64.not_lt.2 h2)]; cases decide (w a ≤ w b) <;> rfl
    · rw [decide_eq_false h]; rfl
  rw [g hi hk, g hk hi]; rfl
theorem fair_fin (hn : n ≤ 30) : (selB true (selB (selB (allZ w n) (fairA n w pot (n + 1) == pot) false) true (selB (!allZ w n) (decide (fairA n w pot (n + 1) < UInt64.ofNat n)) false)) false) = true := by
  cases h : allZ w n with
  | true => rw [fair_all hn h]; simp [selB]
  | false => rw [decide_eq_true (fair_lt hn h)]; rfl
end
end Go.Eng
