/-
  Many in one: Lack, Rank, Port.
-/
import Derived.Test.YtflbdmbiceenjaaHeap
import Derived.Test.YtflbdmbiceenjaaByt
import Derived.Test.YtflbdmbiceenjaaPurFair
namespace Go.Eng
set_option linter.unusedVariables false
set_option maxRecDepth 100000
theorem mruns_get {F : Blk → Prop} {P : Program} {t : TypeId} {name : String} {f : FuncId} {e : TypeId} (h : derefM P t name f e = true) (rb : Blk) {sv : Value} {args : Array Value} {bs : List Blk} {k : Nat} {v : List Nat → Value} {o : List Nat → List (Option Blk)}
    (hb : rb.base = 0) (ho : rb.own = false) (hs : rb.cont.get 0 = some sv) (hl : ∀ ns, (o ns).length = bs.length) (hR : Runs P f (sv :: args.toList) bs k v o) : MRuns F P (invSem (.iface t (.pointer (some ⟨rb.name, 0, none⟩))) name args) (bs ++ [rb]) k v (fun ns => o ns ++ [none]) := by
  refine mruns_deref h (rb := rb) (by simp) hb hs ?_
  have h0 : RunsF F P f (sv :: args.toList) bs k v (fun ns => o ns ++ []) := by simpa using hR.toF (F := F)
  have := RunsF.lendG (cs := [rb]) (F' := F) h0 hl (fun w hF _ => hF) (fun x hx => .inl ⟨x, hx, rfl⟩) (fun b hb => by simp at hb; subst hb; exact ho)
  exact this
structure LkR where
  p : N4
  w : Nat
def lkZ : LkR := ⟨⟨0, 0, 0, 0⟩, 0⟩
def lkC (r : LkR) : List Value := [u64 r.p.a, u64 r.p.b, u64 r.p.c, u64 r.p.d, nat r.w]
theorem lkC_ok (r : LkR) : (lkC r).length = 5 ∧ (lkC r).all Value.oneCell' = true := ⟨rfl, rfl⟩
abbrev tabL (n : Nat) (f : Nat → LkR) : Cont := .tab n 5 fun k => lkC (f k)
def ltL (a b : LkR) : Bool := decide (b.p.val < a.p.val ∨ (b.p.val = a.p.val ∧ a.w < b.w))
theorem ltL_iff {a b : LkR} : ltL a b = true ↔ b.p.val < a.p.val ∨ (b.p.val = a.p.val ∧ a.w < b.w) := by unfold ltL; simp
theorem ltL_not {a b : LkR} : ltL a b = false ↔ ¬ (b.p.val < a.p.val ∨ (b.p.val = a.p.val ∧ a.w < b.w)) := by unfold ltL; simp
theorem ltL_swo : SWO ltL := ⟨fun a => by rw [ltL_not]; omega, fun a b c h k => by rw [ltL_iff] at *; omega, fun a b c h k => by rw [ltL_not] at *; omega⟩
theorem ltL_eq (a b : LkR) : (selB (decide ((cmp4 a.p b.p : Int) > 0)) true (selB ((cmp4 a.p b.p : Int) == 0) (decide (a.w < b.w)) false)) = ltL a b := by
  rw [cmp4_eq]; unfold ord ltL
  by_cases h1 : a.p.val < b.p.val
  · rw [if_pos h1]
    have : ¬ (b.p.val < a.p.val ∨ (b.p.val = a.p.val ∧ a.w < b.w)) := by omega
    simp [selB, this]
  · rw [if_neg h1]
    by_cases h2 : b.p.val < a.p.val
    · rw [if_pos h2]; simp [selB, h2]
    · rw [if_neg h2]
      have h3 : b.p.val = a.p.val := by omega
      simp [selB, h3]
end Go.Eng

namespace Go.Eng
set_option linter.unusedVariables false
set_option maxRecDepth 100000
def cntB (p : Nat → Bool) : Nat → Nat
  | 0 => 0
  | k + 1 => cntB p k + if p k = true then 1 else 0
theorem cntB_le (p : Nat → Bool) : ∀ n, cntB p n ≤ n
  | 0 => Nat.le_refl 0
  | k + 1 => by have := cntB_le p k; simp only [cntB]; split <;> omega
theorem cntB_congr {p q : Nat → Bool} : ∀ {n : Nat}, (∀ k, k < n → p k = q k) → cntB p n = cntB q n
  | 0, _ => rfl
  | n + 1, h => by simp only [cntB]; rw [cntB_congr (n := n) fun k hk => h k (by omega), h n (by omega)]
theorem cntB_mono {p q : Nat → Bool} : ∀ {n : Nat}, (∀ k, k < n → p k = true → q k = true) → cntB p n ≤ cntB q n
  | 0, _ => Nat.le_refl 0
  | n + 1, h => by
    have ih := cntB_mono (n := n) fun k hk => h k (by omega)
    have h1 := h n (by omega)
    simp only [cntB]
    cases hp : p n <;> cases hq : q n <;> simp_all <;> omega
theorem cntB_lt {p q : Nat → Bool} {w : Nat} : ∀ {n : Nat}, (∀ k, k < n → p k = true → q k = true) → w < n → p w = false → q w = true → cntB p n < cntB q n
  | 0, _, h, _, _ => absurd h (Nat.not_lt_zero _)
  | n + 1, h, hw, h1, h2 => by
    have ih := cntB_mono (n := n) fun k hk => h k (by omega)
    have h3 := h n (by omega)
    simp only [cntB]
    by_cases e : w = n
    · subst e; rw [h1, h2]; simp; omega
    · have := cntB_lt (n := n) (fun k hk => h k (by omega)) (by omega) h1 h2
      cases hp : p n <;> cases hq : q n <;> simp_all <;> omega
theorem cntB_one {p : Nat → Bool} {w : Nat} : ∀ {n : Nat}, w < n → p w = false → cntB (fun k => p k || decide (k = w)) n = cntB p n + 1
  | 0, h, _ => absurd h (Nat.not_lt_zero _)
  | n + 1, h, h1 => by
    simp only [cntB]
    by_cases e : w = n
    · subst e
      rw [cntB_congr (q := p) (n := w) fun k hk => by simp [show k ≠ w by omega]]
      simp [h1]
    · rw [cntB_one (n := n) (by omega) h1]
      simp only [show ¬ n = w by omega, decide_false, Bool.or_false]
      omega
theorem cntB_none {p : Nat → Bool} : ∀ {n : Nat}, (∀ k, k < n → p k = false) → cntB p n = 0
  | 0, _ => rfl
  | n + 1, h => by simp only [cntB]; rw [cntB_none (n := n) fun k hk => h k (by omega), h n (by omega)]; rfl
section
variable {r : Nat → N4} {n : Nat}
def lkF (r : Nat → N4) (k : Nat) : LkR := ⟨r k, k⟩
theorem lk_irr (i : Nat) : ltL (lkF r i) (lkF r i) = false := ltL_swo.irr _
theorem lk_tot {i j : Nat} (h : i ≠ j) : ltL (lkF r i) (lkF r j) = true ∨ ltL (lkF r j) (lkF r i) = true := by
  rw [ltL_iff, ltL_iff]; show ((r j).val < (r i).val ∨ (r j).val = (r i).val ∧ i < j) ∨ ((r i).val < (r j).val ∨ (r i).val = (r j).val ∧ j < i); omega
def rankL (r : Nat → N4) (n j : Nat) : Nat := cntB (fun i => ltL (lkF r i) (lkF r j)) n
theorem rank_lt {i j : Nat} (hi : i < n) (h : ltL (lkF r i) (lkF r j) = true) : rankL r n i < rankL r n j :=
  cntB_lt (w := i) (fun k _ hk => ltL_swo.tr _ _ _ hk h) hi (lk_irr i) h
theorem rank_ne {i j : Nat} (hi : i < n) (hj : j < n) (h : i ≠ j) : rankL r n i ≠ rankL r n j := by
  rcases lk_tot (r := r) h with h1 | h1
  · exact Nat.ne_of_lt (rank_lt hi h1)
  · exact Nat.ne_of_gt (rank_lt hj h1)
def goneB (r : Nat → N4) (n k : Nat) : Nat → Bool := fun j => decide (rankL r n j < k)
/-- Who comes next has so many ahead of it. -/
theorem rank_next {k w : Nat} (hc : cntB (goneB r n k) n = k) (hw : w < n) (h1 : k ≤ rankL r n w) (h2 : ∀ j, j < n → k ≤ rankL r n j → ltL (lkF r j) (lkF r w) = false) : rankL r n w = k := by
  refine Eq.trans (cntB_congr fun i hi => ?_) hc
  unfold goneB
  by_cases h3 : rankL r n i < k
  · rw [decide_eq_true h3]
    have hne : i ≠ w := fun e => by subst e; omega
    rcases lk_tot (r := r) hne with h4 | h4
    · exact h4
    · have := rank_lt hw h4; omega
  · rw [decide_eq_false h3]; exact h2 i hi (by omega)
theorem gone_next {k w : Nat} (hc : cntB (goneB r n k) n = k) (hw : w < n) (h : rankL r n w = k) : (∀ j, j < n → goneB r n (k + 1) j = (goneB r n k j || decide (j = w))) ∧ cntB (goneB r n (k + 1)) n = k + 1 := by
  have h1 : ∀ j, j < n → goneB r n (k + 1) j = (goneB r n k j || decide (j = w)) := fun j hj => by
    unfold goneB
    by_cases e : j = w
    · subst e; rw [h]; simp
    · have := rank_ne (r := r) hj hw e
      rw [h] at this
      simp only [e, decide_false, Bool.or_false]
      congr 1
      rw [eq_iff_iff]; omega
  refine ⟨h1, ?_⟩
  rw [cntB_congr h1, cntB_one hw (by unfold goneB; rw [h]; simp), hc]
theorem gone_zero (j : Nat) : goneB r n 0 j = false := by unfold goneB; simp
theorem gone_cnt0 : cntB (goneB r n 0) n = 0 := cntB_none fun k _ => gone_zero k
/-! ### counts -/
def shC (fl : Nat → Nat) (r : Nat → N4) (n k : Nat) : Nat → Nat := fun j => fl j + if (decide (j < n) && goneB r n k j) = true then 1 else 0
def cutF (fl : Nat → Nat) (i : Nat) : Nat → Nat := fun k => if k < i then fl k else 0
theorem cutF_zero (fl : Nat → Nat) : (fun _ => 0) = cutF fl 0 := by funext k; simp [cutF]
theorem cutF_next {fl : Nat → Nat} {i v : Nat} (hv : v = fl i) : upd (cutF fl i) i v = cutF fl (i + 1) := by
  subst hv; funext k; unfold upd cutF
  by_cases h : k = i
  · subst h; rw [if_pos rfl, if_pos (by omega)]
  · by_cases h2 : k < i
    · rw [if_neg h, if_pos h2, if_pos (by omega)]
    · rw [if_neg h, if_neg h2, if_neg (by omega)]
theorem shC_zero (fl : Nat → Nat) : shC fl r n 0 = fl := by funext j; unfold shC; rw [gone_zero]; simp
theorem shC_next {fl : Nat → Nat} {k w : Nat} (hc : cntB (goneB r n k) n = k) (hw : w < n) (h : rankL r n w = k) : upd (shC fl r n k) w (shC fl r n k w + 1) = shC fl r n (k + 1) := by
  have h1 := (gone_next hc hw h).1
  funext j
  unfold shC upd
  by_cases e : j = w
  · subst e
    rw [if_pos rfl, h1 j hw]
    have : goneB r n k j = false := by unfold goneB; rw [h]; simp
    rw [this]; simp [hw]
  · rw [if_neg e]
    by_cases hj : j < n
    · rw [h1 j hj]; simp [e]
    · simp [hj]
/-! ### what waits -/
def wtS (r : Nat → N4) (i : Nat) (y : LkR) : Prop := ∃ k, k < i ∧ y = lkF r k
def lfS (r : Nat → N4) (n k : Nat) (y : LkR) : Prop := ∃ j, j < n ∧ k ≤ rankL r n j ∧ y = lkF r j
theorem hp_zero {f : Nat → LkR} : HpB ltL 0 f 0 := fun k _ h => absurd h (Nat.not_lt_zero k)
theorem en_zero {f : Nat → LkR} : En f 0 (wtS r 0) := En.none.iff fun y => ⟨fun ⟨k, h, _⟩ => absurd h (Nat.not_lt_zero k), fun h => h.elim⟩
theorem wt_push {F g : Nat → LkR} {i : Nat} {x : LkR} (hp : HpB ltL 0 F i) (he : En F i (wtS r i)) (hg : ∀ k, k < i → g k = F k) (hx : g i = x) (hx2 : x = lkF r i) : HpB ltL 0 (upF ltL g i) (i + 1) ∧ En (upF ltL g i) (i + 1) (wtS r (i + 1)) := by
  obtain ⟨h1, h2, _⟩ := push_ok ltL_swo hp hg hx
  refine ⟨h1, (h2 _ he ?_).iff fun y => ?_⟩
  · rintro ⟨k, hk, e⟩
    have : (lkF r i).w = (lkF r k).w := by rw [← hx2, e]
    have h3 : i = k := this
    omega
  · subst hx2
    constructor
    · rintro ⟨k, hk, rfl⟩
      by_cases e : k = i
      · subst e; exact .inr rfl
      · exact .inl ⟨k, by omega, rfl⟩
    · rintro (⟨k, hk, rfl⟩ | rfl)
      · exact ⟨k, by omega, rfl⟩
      · exact ⟨i, by omega, rfl⟩
theorem lf_zero {F : Nat → LkR} (h : En F n (wtS r n)) : En F n (lfS r n 0) := h.iff fun y => ⟨fun ⟨j, h1, _, h3⟩ => ⟨j, h1, h3⟩, fun ⟨j, h1, h3⟩ => ⟨j, h1, Nat.zero_le _, h3⟩⟩
/-- What a pop hands back, and what is left. -/
theorem lf_pop {F : Nat → LkR} {L k : Nat} (hL : 0 < L) (hp : HpB ltL 0 F L) (he : En F L (lfS r n k)) (hc : cntB (goneB r n k) n = k) :
    ∃ w, w < n ∧ popF ltL F (L - 1) (L - 1) = lkF r w ∧ rankL r n w = k ∧ HpB ltL 0 (popF ltL F (L - 1)) (L - 1) ∧ En (popF ltL F (L - 1)) (L - 1) (lfS r n (k + 1)) := by
  obtain ⟨L, rfl⟩ : ∃ q, L = q + 1 := ⟨L - 1, by omega⟩
  simp only [Nat.add_sub_cancel]
  obtain ⟨h1, h2, h3, h4⟩ := popF_ok ltL_swo hp
  obtain ⟨w, hw, hk, e⟩ := he.mem 0 (by omega)
  have hr : rankL r n w = k := rank_next hc hw hk fun j hj hkj => by
    obtain ⟨q, hq, e2⟩ := he.sur (lkF r j) ⟨j, hj, hkj, rfl⟩
    rw [← e2, ← e]; exact h4 q hq
  refine ⟨w, hw, h2.trans e, hr, h1, (h3 _ he).iff fun y => ?_⟩
  rw [e]
  constructor
  · rintro ⟨j, hj, hkj, rfl⟩
    refine ⟨⟨j, hj, by omega, rfl⟩, fun h => ?_⟩
    have : (lkF r j).w = (lkF r w).w := by rw [h]
    have h5 : j = w := this
    subst h5; omega
  · rintro ⟨⟨j, hj, hkj, rfl⟩, hne⟩
    refine ⟨j, hj, ?_, rfl⟩
    by_cases e3 : j = w
    · subst e3; exact absurd rfl hne
    · have := rank_ne (r := r) hj hw e3; omega
end
theorem cntB_ex {p : Nat → Bool} : ∀ {n : Nat}, cntB p n < n → ∃ w, w < n ∧ p w = false
  | 0, h => absurd h (Nat.not_lt_zero _)
  | n + 1, h => by
    simp only [cntB] at h
    cases hp : p n with
    | false => exact ⟨n, by omega, hp⟩
    | true =>
      rw [hp] at h
      obtain ⟨w, hw, e⟩ := cntB_ex (p := p) (n := n) (by simp at h; omega)
      exact ⟨w, by omega, e⟩
theorem least_of {q : Nat → Nat} {p : Nat → Prop} : ∀ (b w n : Nat), q w ≤ b → w < n → p w → ∃ v, v < n ∧ p v ∧ ∀ j, j < n → p j → q v ≤ q j
  | 0, w, n, hb, hw, hp => ⟨w, hw, hp, fun j _ _ => by omega⟩
  | b + 1, w, n, hb, hw, hp => by
    by_cases h : ∃ j, j < n ∧ p j ∧ q j ≤ b
    · obtain ⟨j, h1, h2, h3⟩ := h
      exact least_of b j n h3 h1 h2
    · by_cases h2 : q w ≤ b
      · exact absurd ⟨w, hw, hp, h2⟩ h
      · refine ⟨w, hw, hp, fun j h3 h4 => ?_⟩
        by_cases h5 : q j ≤ b
        · exact absurd ⟨j, h3, h4, h5⟩ h
        · omega
theorem gone_cnt {r : Nat → N4} {n : Nat} : ∀ {k : Nat}, k ≤ n → cntB (goneB r n k) n = k
  | 0, _ => gone_cnt0
  | k + 1, h => by
    have ih := gone_cnt (r := r) (n := n) (k := k) (by omega)
    obtain ⟨w, hw, e⟩ := cntB_ex (p := goneB r n k) (n := n) (by omega)
    obtain ⟨v, hv, hp, hmin⟩ := least_of (q := rankL r n) (p := fun j => k ≤ rankL r n j) (rankL r n w) w n (Nat.le_refl _) hw (by unfold goneB at e; simpa using e)
    have hr : rankL r n v = k := rank_next ih hv hp fun j hj hkj => by
      cases hb : ltL (lkF r j) (lkF r v) with
      | false => rfl
      | true => have h1 := rank_lt hj hb; have h2 := hmin j hj hkj; omega
    exact (gone_next ih hv hr).2
end Go.Eng

namespace Go.Eng
set_option linter.unusedVariables false
set_option maxRecDepth 100000
/-- How many slots one has at least, and what was left of its part. -/
def flF (m : Nat) (f : Nat → UInt64) (n : Nat) (k : Nat) : Nat := if k < n then (wholeP (UInt64.ofNat m) (f k) (totN f n)).a.toNat else 0
def rsF (m : Nat) (f : Nat → UInt64) (n : Nat) (k : Nat) : N4 := restD (mul8 (smallN (UInt64.ofNat m)) (smallN (f k))).lo (totN f n)
def leftN (m : Nat) (f : Nat → UInt64) (n : Nat) : Nat := m - sumF (flF m f n) n
def cntF (m : Nat) (f : Nat → UInt64) (n : Nat) : Nat → Nat := shC (flF m f n) (rsF m f n) n (leftN m f n)
section
variable {m n : Nat} {f : Nat → UInt64}
theorem u_of {m : Nat} (hm : m ≤ 200) : (UInt64.ofNat m).toNat = m := by rw [UInt64.toNat_ofNat']; omega
theorem f_le_tot (hn : n ≤ 40) {k : Nat} (hk : k < n) : (f k).toNat ≤ (totN f n).val := by
  rw [totN_val f n (by omega)]; exact sumU_one hk
theorem whole_val (hm : m ≤ 200) (hn : n ≤ 40) {k : Nat} (hk : k < n) : (wholeP (UInt64.ofNat m) (f k) (totN f n)).val = m * (f k).toNat / (totN f n).val ∧ m * (f k).toNat / (totN f n).val ≤ m := by
  have hle : m * (f k).toNat / (totN f n).val ≤ m := by
    by_cases h0 : (totN f n).val = 0
    · rw [h0, Nat.div_zero]; omega
    · exact Nat.div_le_of_le_mul (by rw [Nat.mul_comm (totN f n).val]; exact Nat.mul_le_mul_left _ (f_le_tot hn hk))
  refine ⟨?_, hle⟩
  unfold wholeP quoD
  rw [N4.val_ofNat, mulSmall, u_of hm, Nat.mod_eq_of_lt (by omega)]
theorem fl_le (hm : m ≤ 200) (hn : n ≤ 40) {k : Nat} (hk : k < n) : (wholeP (UInt64.ofNat m) (f k) (totN f n)).a.toNat ≤ 200 := by
  obtain ⟨h1, h2⟩ := whole_val (f := f) hm hn hk
  rw [N4.a_of_lt (by omega)]; omega
theorem fl_val (hm : m ≤ 200) (hn : n ≤ 40) {k : Nat} (hk : k < n) : flF m f n k = m * (f k).toNat / (totN f n).val := by
  obtain ⟨h1, h2⟩ := whole_val (f := f) hm hn hk
  unfold flF; rw [if_pos hk, N4.a_of_lt (by omega), h1]
theorem fl_out {k : Nat} (hk : ¬ k < n) : flF m f n k = 0 := if_neg hk
theorem rs_val (hm : m ≤ 200) (hn : n ≤ 40) {k : Nat} : (rsF m f n k).val = if (totN f n).val = 0 then 0 else m * (f k).toNat % (totN f n).val := by
  unfold rsF restD
  by_cases h0 : (totN f n).val = 0
  · rw [if_pos (by rw [eq4_val, h0]; rfl), if_pos h0]; rfl
  · rw [if_neg (by rw [eq4_val]; intro h; exact h0 (of_decide_eq_true h)), if_neg h0, N4.val_ofNat, mulSmall, u_of hm]
    have h1 := Nat.mod_lt (m * (f k).toNat) (Nat.pos_of_ne_zero h0)
    have h2 := (totN f n).val_lt
    exact Nat.mod_eq_of_lt (by omega)
theorem sumF_mono {q : Nat → Nat} : ∀ {a b : Nat}, a ≤ b → sumF q a ≤ sumF q b
  | a, 0, h => by rw [show a = 0 by omega]; exact Nat.le_refl _
  | a, b + 1, h => by
    by_cases e : a = b + 1
    · subst e; exact Nat.le_refl _
    · have := sumF_mono (q := q) (a := a) (b := b) (by omega)
      simp only [sumF]; omega
theorem sumF_more {q : Nat → Nat} {n : Nat} (hq : ∀ k, ¬ k < n → q k = 0) : ∀ d, sumF q (n + d) = sumF q n
  | 0 => rfl
  | d + 1 => by show sumF q (n + d) + q (n + d) = _; rw [sumF_more hq d, hq _ (by omega)]; rfl
theorem fl_sumv (hm : m ≤ 200) (hn : n ≤ 40) : sumF (flF m f n) n = sumF (fun k => m * (f k).toNat / (totN f n).val) n := sumF_congr fun k hk => fl_val hm hn hk
theorem fl_parts (hm : m ≤ 200) (hn : n ≤ 40) (hz : (totN f n).val ≠ 0) : sumF (flF m f n) n * (totN f n).val ≤ m * (totN f n).val ∧ m * (totN f n).val + n ≤ (sumF (flF m f n) n + n) * (totN f n).val := by
  have h := sumF_div (pot := m) (q := fun k => (f k).toNat) (Nat.pos_of_ne_zero hz) n
  have e : sumF (fun k => (f k).toNat) n = (totN f n).val := by rw [totN_val f n (by omega), sumU_sumF]
  rw [e, ← fl_sumv hm hn] at h; exact h
theorem fl_sum (hm : m ≤ 200) (hn : n ≤ 40) (i : Nat) : sumF (flF m f n) i ≤ m := by
  have h1 : sumF (flF m f n) n ≤ m := by
    by_cases hz : (totN f n).val = 0
    · rw [fl_sumv hm hn, hz, sumF_congr (q := fun _ => 0) (fun k _ => Nat.div_zero _)]
      have : ∀ n, sumF (fun _ => 0) n = 0 := fun n => by induction n with
        | zero => rfl
        | succ n ih => simp [sumF, ih]
      rw [this]; omega
    · exact Nat.le_of_mul_le_mul_right (fl_parts hm hn hz).1 (Nat.pos_of_ne_zero hz)
  rcases Nat.le_total i n with h | h
  · exact Nat.le_trans (sumF_mono h) h1
  · obtain ⟨d, rfl⟩ := Nat.exists_eq_add_of_le h
    rw [sumF_more (fun k hk => fl_out hk)]; exact h1
theorem fl_room (hm : m ≤ 200) (hn : n ≤ 40) (h0 : 0 < n) (hz : (totN f n).val = 0 → m = 0) : m < sumF (flF m f n) n + n := by
  by_cases hz0 : (totN f n).val = 0
  · rw [hz hz0]; omega
  · have h := (fl_parts hm hn hz0).2
    by_cases hlt : m < sumF (flF m f n) n + n
    · exact hlt
    · have := Nat.mul_le_mul_right (totN f n).val (show sumF (flF m f n) n + n ≤ m by omega)
      omega
theorem pop_lt {F : Nat → LkR} {r : Nat → N4} {L k : Nat} (hL : 0 < L) (hp : HpB ltL 0 F L) (he : En F L (lfS r n k)) (hc : cntB (goneB r n k) n = k) : (popF ltL F (L - 1) (L - 1)).w < n := by
  obtain ⟨w, hw, e, _⟩ := lf_pop hL hp he hc
  rw [e]; exact hw
theorem pop_step {F : Nat → LkR} {r : Nat → N4} {fl C : Nat → Nat} {L k : Nat} (hL : 0 < L) (hk : L + k = n) (hp : HpB ltL 0 F L) (he : En F L (lfS r n k)) (hc : cntB (goneB r n k) n = k) (hC : C = shC fl r n k) :
    L - 1 + (k + 1) = n ∧ HpB ltL 0 (popF ltL F (L - 1)) (L - 1) ∧ En (popF ltL F (L - 1)) (L - 1) (lfS r n (k + 1)) ∧ cntB (goneB r n (k + 1)) n = k + 1 ∧ upd C (popF ltL F (L - 1) (L - 1)).w (C (popF ltL F (L - 1) (L - 1)).w + 1) = shC fl r n (k + 1) := by
  obtain ⟨w, hw, e, hr, h1, h2⟩ := lf_pop hL hp he hc
  refine ⟨by omega, h1, h2, (gone_next hc hw hr).2, ?_⟩
  rw [e, hC]; exact shC_next hc hw hr
theorem port_nz (hz : (totN f n).val = 0 → m = 0) : selB (decide ((0 : Nat) < m)) (eq4 (totN f n) (N4.mk 0 0 0 0)) false = false := by
  by_cases h : (totN f n).val = 0
  · rw [hz h]; rfl
  · have : eq4 (totN f n) (N4.mk 0 0 0 0) = false := by rw [eq4_val]; exact decide_eq_false h
    rw [this]; cases (decide ((0 : Nat) < m)) <;> rfl
theorem port_z (h0 : 0 < m) (hz : (totN f n).val = 0) : selB (decide ((0 : Nat) < m)) (eq4 (totN f n) (N4.mk 0 0 0 0)) false = true := by
  have : eq4 (totN f n) (N4.mk 0 0 0 0) = true := by rw [eq4_val]; exact decide_eq_true hz
  rw [this]; simp [selB, h0]
theorem fl_in {k : Nat} (hk : k < n) : (wholeP (UInt64.ofNat m) (f k) (totN f n)).a.toNat = flF m f n k := by unfold flF; rw [if_pos hk]
theorem cutF_at {fl : Nat → Nat} (i : Nat) : cutF fl (i + 1) i = fl i := if_pos (by omega)
theorem share_first (hm : m ≤ 200) (hn : n ≤ 40) (h0 : 0 < n) {l c : Nat} {g : Nat → LkR} (h1 : l + sumF (flF m f n) 1 = m) (h2 : 1 ≤ c) (hg : g 0 = LkR.mk (rsF m f n 0) 0) :
    (1 ≤ 1 ∧ 1 ≤ n ∧ l + sumF (flF m f n) 1 = m ∧ 1 ≤ c ∧ HpB ltL 0 (upF ltL g 0) 1 ∧ En (upF ltL g 0) 1 (wtS (rsF m f n) 1)) ∧ n - 1 < n := by
  obtain ⟨a, b⟩ := wt_push (r := rsF m f n) (F := g) (g := g) (i := 0) (x := LkR.mk (rsF m f n 0) 0) hp_zero en_zero (fun _ _ => rfl) hg rfl
  exact ⟨⟨Nat.le_refl _, h0, h1, h2, a, b⟩, by omega⟩
theorem share_step {i nm nw l' c' : Nat} {F : Nat → LkR} (hi : i < n) (h1 : l' + sumF (flF m f n) (i + 1) = m) (h2 : i + 1 ≤ c') (h3 : HpB ltL 0 F i) (h4 : En F i (wtS (rsF m f n) i)) :
    (1 ≤ i + 1 ∧ i + 1 ≤ n ∧ l' + sumF (flF m f n) (i + 1) = m ∧ i + 1 ≤ c' ∧ HpB ltL 0 (upF ltL (pshG F i (LkR.mk (rsF m f n i) i) lkZ nm nw) (i + 1 - 1)) (i + 1) ∧ En (upF ltL (pshG F i (LkR.mk (rsF m f n i) i) lkZ nm nw) (i + 1 - 1)) (i + 1) (wtS (rsF m f n) (i + 1))) ∧ n - (i + 1) < n - i := by
  obtain ⟨a, b⟩ := wt_push (r := rsF m f n) (F := F) (g := pshG F i (LkR.mk (rsF m f n i) i) lkZ nm nw) (i := i) (x := LkR.mk (rsF m f n i) i) h3 h4 (fun k hk => pshG_lt hk) pshG_eq rfl
  exact ⟨⟨by omega, by omega, h1, h2, a, b⟩, by omega⟩
theorem cutF_all {fl : Nat → Nat} (h : ∀ k, ¬ k < n → fl k = 0) : cutF fl n = fl := by
  funext k; unfold cutF
  by_cases hk : k < n
  · rw [if_pos hk]
  · rw [if_neg hk, h k hk]
theorem share_mid {i l : Nat} {F : Nat → LkR} (hm : m ≤ 200) (hn : n ≤ 40) (h0 : 0 < n) (hz : (totN f n).val = 0 → m = 0) (e : i = n) (h2 : l + sumF (flF m f n) i = m) (hp : HpB ltL 0 F i) (he : En F i (wtS (rsF m f n) i)) :
    i + 0 = n ∧ HpB ltL 0 F i ∧ En F i (lfS (rsF m f n) n 0) ∧ cntB (goneB (rsF m f n) n 0) n = 0 ∧ cutF (flF m f n) i = shC (flF m f n) (rsF m f n) n 0 ∧ 0 ≤ l ∧ l < n := by
  subst e
  have := fl_room hm hn h0 hz
  exact ⟨rfl, hp, lf_zero he, gone_cnt0, by rw [shC_zero, cutF_all fun k hk => fl_out hk], Nat.zero_le _, by omega⟩
theorem share_pop {k L l : Nat} {F : Nat → LkR} {C : Nat → Nat} (hkl : k < l) (c0 : L + k = n) (c1 : HpB ltL 0 F L) (c2 : En F L (lfS (rsF m f n) n k)) (c3 : cntB (goneB (rsF m f n) n k) n = k) (c4 : C = shC (flF m f n) (rsF m f n) n k) (c6 : l < n) :
    (L - 1 + (k + 1) = n ∧ HpB ltL 0 (popF ltL F (L - 1)) (L - 1) ∧ En (popF ltL F (L - 1)) (L - 1) (lfS (rsF m f n) n (k + 1)) ∧ cntB (goneB (rsF m f n) n (k + 1)) n = k + 1 ∧ upd C (popF ltL F (L - 1) (L - 1)).w (C (popF ltL F (L - 1) (L - 1)).w + 1) = shC (flF m f n) (rsF m f n) n (k + 1) ∧ k + 1 ≤ l ∧ l < n) ∧ l - (k + 1) < l - k := by
  obtain ⟨h1, h2, h3, h4, h5⟩ := pop_step (by omega) c0 c1 c2 c3 c4
  exact ⟨⟨h1, h2, h3, h4, h5, by omega, c6⟩, by omega⟩
theorem fl_le2 (hm : m ≤ 200) (hn : n ≤ 40) (k : Nat) : flF m f n k ≤ 200 := by
  by_cases hk : k < n
  · rw [← fl_in hk]; exact fl_le hm hn hk
  · rw [fl_out hk]; omega
theorem sh_le (hm : m ≤ 200) (hn : n ≤ 40) {C : Nat → Nat} {k : Nat} (c4 : C = shC (flF m f n) (rsF m f n) n k) (w : Nat) : C w ≤ 201 := by
  have := fl_le2 (f := f) hm hn w
  rw [c4]; unfold shC; split <;> omega
theorem share_end {C : Nat → Nat} {k l i : Nat} (c4 : C = shC (flF m f n) (rsF m f n) n k) (hk : k = l) (e : i = n) (b2 : l + sumF (flF m f n) i = m) : C = cntF m f n := by
  subst hk; subst e
  rw [c4]; unfold cntF leftN
  rw [show m - sumF (flF m f i) i = k by omega]
end
end Go.Eng
