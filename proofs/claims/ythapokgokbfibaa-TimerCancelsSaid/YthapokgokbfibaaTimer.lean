/-
  Layer 14: what waits, and in which order.
-/
import Derived.Test.YthapokgokbfibaaHeap
import Derived.Test.YthapokgokbfibaaGrow
namespace Go.Eng
set_option linter.unusedVariables false
set_option linter.unusedSimpArgs false
set_option maxRecDepth 100000
structure TmR where
  a : UInt64
  i : Int
  n : UInt64
deriving DecidableEq
structure ItR where
  a : UInt64
  i : Int
deriving DecidableEq
def tmZ : TmR := ⟨0, 0, 0⟩
def itZ : ItR := ⟨0, 0⟩
def tmC (r : TmR) : List Value := [u64 r.a, int r.i, u64 r.n]
def itC (r : ItR) : List Value := [u64 r.a, int r.i]
theorem tmC_ok (r : TmR) : (tmC r).length = 3 ∧ (tmC r).all Value.oneCell' = true := ⟨rfl, rfl⟩
theorem itC_ok (r : ItR) : (itC r).length = 2 ∧ (itC r).all Value.oneCell' = true := ⟨rfl, rfl⟩
abbrev tabT (n : Nat) (f : Nat → TmR) : Cont := .tab n 3 fun k => tmC (f k)
abbrev tabI (n : Nat) (f : Nat → ItR) : Cont := .tab n 2 fun k => itC (f k)
def itm (r : TmR) : ItR := ⟨r.a, r.i⟩
def ltT (a b : TmR) : Bool := selB (decide (a.a < b.a)) true (selB (a.a == b.a) (decide (a.n < b.n)) false)
theorem ltT_iff {a b : TmR} : ltT a b = true ↔ a.a.toNat < b.a.toNat ∨ a.a.toNat = b.a.toNat ∧ a.n.toNat < b.n.toNat := by
  have e1 : (a.a < b.a) = (a.a.toNat < b.a.toNat) := rfl
  have e2 : (a.n < b.n) = (a.n.toNat < b.n.toNat) := rfl
  have e3 : (a.a == b.a) = true ↔ a.a.toNat = b.a.toNat := by rw [beq_iff_eq]; exact UInt64.toNat_inj.symm
  unfold ltT
  by_cases h1 : a.a.toNat < b.a.toNat
  · simp [selB, e1, h1]
  · by_cases h2 : a.a.toNat = b.a.toNat
    · simp [selB, e1, h1, e3.2 h2, e2, h2]
    · have : (a.a == b.a) = false := by
        cases h : (a.a == b.a) with
        | false => rfl
        | true => exact absurd (e3.1 h) h2
      simp [selB, e1, h1, this, h2]
theorem ltT_not {a b : TmR} : ltT a b = false ↔ ¬ (a.a.toNat < b.a.toNat ∨ a.a.toNat = b.a.toNat ∧ a.n.toNat < b.n.toNat) := by
  rw [← ltT_iff]; simp
theorem ltT_swo : SWO ltT := ⟨fun a => by rw [ltT_not]; omega, fun a b c h k => by rw [ltT_iff] at *; omega, fun a b c h k => by rw [ltT_not] at *; omega⟩
/-! ### some are taken -/
/-- What is left on a heap of n when k were taken. -/
def popN (F : Nat → TmR) (n : Nat) : Nat → Nat → TmR
  | 0 => F
  | k + 1 => popF ltT (popN F n k) (n - k - 1)
/-- What comes k-th. -/
def itF (F : Nat → TmR) (n k : Nat) : ItR := itm (popN F n (k + 1) (n - k - 1))
/-- So many are due. -/
structure IsDue (F : Nat → TmR) (n : Nat) (now : UInt64) (d : Nat) : Prop where
  le : d ≤ n
  due : ∀ k, k < d → decide ((popN F n k 0).a ≤ now) = true
  stop : d < n → decide ((popN F n d 0).a ≤ now) = false
theorem IsDue.lt {F : Nat → TmR} {n d k : Nat} {now : UInt64} (h : IsDue F n now d) (hk : k ≤ d) (hg : selB (decide (0 < n - k)) (decide ((popN F n k 0).a ≤ now)) false = true) : k < d := by
  have h1 := h.stop
  have := h.le
  rcases Nat.lt_or_ge k d with h2 | h2
  · exact h2
  · have e : k = d := by omega
    subst e
    by_cases h3 : 0 < n - k
    · rw [h1 (by omega)] at hg; cases hd : decide (0 < n - k) <;> rw [hd] at hg <;> cases hg
    · rw [decide_eq_false h3] at hg; cases hg
theorem IsDue.eq {F : Nat → TmR} {n d k : Nat} {now : UInt64} (h : IsDue F n now d) (hk : k ≤ d) (hg : selB (decide (0 < n - k)) (decide ((popN F n k 0).a ≤ now)) false = false) : k = d := by
  have h1 := h.due k
  have := h.le
  rcases Nat.lt_or_ge k d with h2 | h2
  · rw [h1 h2] at hg
    have h3 : 0 < n - k := by omega
    rw [decide_eq_true h3] at hg; cases hg
  · omega
theorem due_none {F : Nat → TmR} {n : Nat} {now : UInt64} (h : IsDue F n now 0) : selB (decide (0 < n)) (decide ((F 0).a ≤ now)) false = false := by
  by_cases h1 : 0 < n
  · rw [decide_eq_true h1]; exact h.stop h1
  · rw [decide_eq_false h1]; rfl
theorem due_first {F : Nat → TmR} {n d : Nat} {now : UInt64} (h : IsDue F n now d) (h0 : 0 < d) : selB (decide (0 < n)) (decide ((F 0).a ≤ now)) false = true := by
  have := h.le
  rw [decide_eq_true (show 0 < n by omega)]; exact h.due 0 h0
/-! ### what a heap stands for: all in their order -/
structure Std (F : Nat → TmR) (n : Nat) (L : List TmR) : Prop where
  hp : HpB ltT 0 F n
  en : En F n (· ∈ L)
  up : L.Pairwise fun x y => ltT x y = true
  len : L.length = n
theorem Std.none {F : Nat → TmR} : Std F 0 [] := ⟨fun k _ h => absurd h (Nat.not_lt_zero k), En.none.iff fun x => by simp, List.Pairwise.nil, rfl⟩
/-- One more, behind all that aren't later. -/
def insT (x : TmR) : List TmR → List TmR
  | [] => [x]
  | y :: L => if y.a.toNat ≤ x.a.toNat then y :: insT x L else x :: y :: L
theorem insT_len (x : TmR) : ∀ L, (insT x L).length = L.length + 1
  | [] => rfl
  | y :: L => by unfold insT; split <;> simp [insT_len x L]
theorem insT_mem (x z : TmR) : ∀ L, z ∈ insT x L ↔ z ∈ L ∨ z = x
  | [] => by simp [insT]
  | y :: L => by
    unfold insT; split
    · rw [List.mem_cons, insT_mem x z L, List.mem_cons]; exact or_assoc.symm
    · rw [List.mem_cons]; exact or_comm
theorem insT_up (x : TmR) : ∀ L, (L.Pairwise fun x y => ltT x y = true) → (∀ y ∈ L, y.n.toNat < x.n.toNat) → (insT x L).Pairwise fun x y => ltT x y = true
  | [], _, _ => by simp [insT]
  | y :: L, h, hn => by
    have h1 := List.pairwise_cons.1 h
    unfold insT; split
    · rename_i hy
      refine List.pairwise_cons.2 ⟨fun z hz => ?_, insT_up x L h1.2 fun w hw => hn w (List.mem_cons_of_mem _ hw)⟩
      rcases (insT_mem x z L).1 hz with hz | rfl
      · exact h1.1 z hz
      · rw [ltT_iff]; have := hn y (by simp); omega
    · rename_i hy
      refine List.pairwise_cons.2 ⟨fun z hz => ?_, h⟩
      rcases List.mem_cons.1 hz with rfl | hz
      · rw [ltT_iff]; omega
      · have := h1.1 z hz; rw [ltT_iff] at this ⊢; omega
theorem Std.push {F g : Nat → TmR} {n : Nat} {L : List TmR} {x : TmR} (h : Std F n L) (hg : ∀ k, k < n → g k = F k) (hx : g n = x) (hn : ∀ y ∈ L, y.n.toNat < x.n.toNat) : Std (upF ltT g n) (n + 1) (insT x L) := by
  obtain ⟨h1, h2, _⟩ := push_ok ltT_swo h.hp hg hx
  refine ⟨h1, (h2 _ h.en fun hm => ?_).iff fun y => insT_mem x y L, insT_up x L h.up hn, by rw [insT_len, h.len]⟩
  have := hn x hm; omega
theorem Std.pop {F : Nat → TmR} {n : Nat} {x : TmR} {L : List TmR} (h : Std F n (x :: L)) : 0 < n ∧ F 0 = x ∧ popF ltT F (n - 1) (n - 1) = x ∧ Std (popF ltT F (n - 1)) (n - 1) L := by
  have hl := h.len
  simp only [List.length_cons] at hl
  obtain ⟨m, rfl⟩ : ∃ q, n = q + 1 := ⟨n - 1, by omega⟩
  simp only [Nat.add_sub_cancel]
  obtain ⟨h1, h2, h3, h4⟩ := popF_ok ltT_swo h.hp
  have hu := List.pairwise_cons.1 h.up
  have e : F 0 = x := by
    have hm := h.en.mem 0 (by omega)
    rcases List.mem_cons.1 hm with hm | hm
    · exact hm
    · obtain ⟨k, hk, e⟩ := h.en.sur x (by simp)
      have := h4 k hk
      rw [e, hu.1 _ hm] at this; cases this
  refine ⟨by omega, e, h2.trans e, ⟨h1, (h3 _ h.en).iff fun y => ?_, hu.2, by omega⟩⟩
  rw [e]
  constructor
  · intro hy
    refine ⟨List.mem_cons_of_mem _ hy, fun e => ?_⟩
    subst e
    have := hu.1 _ hy
    rw [ltT_swo.irr] at this; cases this
  · rintro ⟨hy, hne⟩
    rcases List.mem_cons.1 hy with hy | hy
    · exact absurd hy hne
    · exact hy
theorem popN_next {F : Nat → TmR} {n : Nat} (hn : 0 < n) : ∀ k, popN F n (k + 1) = popN (popF ltT F (n - 1)) (n - 1) k
  | 0 => rfl
  | k + 1 => by
    rw [popN, popN_next hn k, popN]
    congr 1; omega
theorem Std.popN {F : Nat → TmR} : ∀ {n : Nat} {L : List TmR} (k : Nat), Std F n L → k ≤ n → Std (popN F n k) (n - k) (L.drop k) ∧ (k < n → Go.Eng.popN F n k 0 = L.getD k tmZ)
  | n, [], k, h, hk => by
    have := h.len; simp at this
    subst this
    have e : k = 0 := by omega
    subst e
    exact ⟨h, fun h => absurd h (Nat.lt_irrefl _)⟩
  | n, x :: L, 0, h, hk => ⟨h, fun _ => h.pop.2.1⟩
  | n, x :: L, k + 1, h, hk => by
    obtain ⟨h0, _, _, h1⟩ := h.pop
    obtain ⟨h2, h3⟩ := Std.popN k h1 (by omega)
    rw [popN_next h0]
    refine ⟨by rw [show n - (k + 1) = n - 1 - k by omega]; exact h2, fun hk2 => ?_⟩
    rw [h3 (by omega)]; rfl
/-- How many are due. -/
def dueN (now : UInt64) : List TmR → Nat
  | [] => 0
  | x :: L => if decide (x.a ≤ now) = true then dueN now L + 1 else 0
theorem dueN_le (now : UInt64) : ∀ L, dueN now L ≤ L.length
  | [] => Nat.le_refl 0
  | x :: L => by unfold dueN; have := dueN_le now L; split <;> simp <;> omega
theorem dueN_lt (now : UInt64) : ∀ (L : List TmR) (k : Nat), k < dueN now L → decide ((L.getD k tmZ).a ≤ now) = true
  | [], k, h => absurd h (Nat.not_lt_zero k)
  | x :: L, k, h => by
    unfold dueN at h
    split at h
    · rename_i hx
      cases k with
      | zero => exact hx
      | succ k => exact dueN_lt now L k (by omega)
    · omega
theorem dueN_stop (now : UInt64) : ∀ (L : List TmR), dueN now L < L.length → decide ((L.getD (dueN now L) tmZ).a ≤ now) = false
  | [], h => absurd h (Nat.lt_irrefl 0)
  | x :: L, h => by
    unfold dueN at h ⊢
    split at h
    · rename_i hx
      rw [if_pos hx]
      exact dueN_stop now L (by simp at h; omega)
    · rename_i hx
      rw [if_neg hx]
      cases hb : decide (x.a ≤ now) with
      | true => exact absurd hb hx
      | false => exact hb
theorem Std.due {F : Nat → TmR} {n : Nat} {L : List TmR} (h : Std F n L) (now : UInt64) : IsDue F n now (dueN now L) := by
  have hle : dueN now L ≤ n := h.len ▸ dueN_le now L
  refine ⟨hle, fun k hk => ?_, fun hs => ?_⟩
  · rw [(h.popN k (by omega)).2 (by omega)]; exact dueN_lt now L k hk
  · rw [(h.popN _ (by omega)).2 hs]; exact dueN_stop now L (by rw [h.len]; exact hs)
theorem Std.left {F : Nat → TmR} {n : Nat} {L : List TmR} (h : Std F n L) (now : UInt64) : Std (Go.Eng.popN F n (dueN now L)) (n - dueN now L) (L.drop (dueN now L)) := (h.popN _ (h.len ▸ dueN_le now L)).1
theorem Std.popd {F : Nat → TmR} {n : Nat} {L : List TmR} (h : Std F n L) (hn : 0 < n) : popF ltT F (n - 1) (n - 1) = L.getD 0 tmZ := by
  match L, h with
  | [], h => have := h.len; simp at this; omega
  | x :: L, h => exact h.pop.2.2.1
theorem Std.item {F : Nat → TmR} {n k : Nat} {L : List TmR} (h : Std F n L) (hk : k < n) : itF F n k = itm (L.getD k tmZ) := by
  have h1 := (h.popN k (by omega)).1
  have := h1.popd (by omega)
  unfold itF
  rw [Go.Eng.popN, this]
  congr 1
  rw [List.getD_eq_getElem?_getD, List.getD_eq_getElem?_getD, List.getElem?_drop, Nat.add_zero]
end Go.Eng
