/-
  Many in one: Heap, Invoke, HeapE.
-/
import Derived.Test.YthapokgokbfibaaEngZ
import Derived.Test.YthapokgokbfibaaFams
set_option linter.unusedVariables false
namespace Go.Eng
/-- A strict order in which what is not ahead is carried on. -/
structure SWO {α : Type} (lt : α → α → Bool) : Prop where
  irr : ∀ a, lt a a = false
  tr : ∀ a b c, lt a b = true → lt b c = true → lt a c = true
  neg : ∀ a b c, lt a b = false → lt b c = false → lt a c = false
section
variable {α : Type} {lt : α → α → Bool}
theorem SWO.asy (h : SWO lt) {a b : α} (hab : lt a b = true) : lt b a = false := by
  cases hb : lt b a with
  | false => rfl
  | true => have := h.tr a b a hab hb; rw [h.irr a] at this; cases this
def swp (f : Nat → α) (i k : Nat) : Nat → α := upd (upd f i (f k)) k (f i)
theorem swp_i (f : Nat → α) (i k : Nat) : swp f i k i = f k := by
  unfold swp upd
  by_cases h : i = k
  · subst h; simp
  · simp [h]
theorem swp_k (f : Nat → α) (i k : Nat) : swp f i k k = f i := by unfold swp upd; simp
theorem swp_o (f : Nat → α) {i k x : Nat} (h1 : x ≠ i) (h2 : x ≠ k) : swp f i k x = f x := by unfold swp upd; simp [h1, h2]
/-- What a row has, each once. -/
structure En (f : Nat → α) (n : Nat) (S : α → Prop) : Prop where
  mem : ∀ k, k < n → S (f k)
  sur : ∀ x, S x → ∃ k, k < n ∧ f k = x
  inj : ∀ j k, j < n → k < n → f j = f k → j = k
theorem En.swp {f : Nat → α} {n : Nat} {S : α → Prop} (h : En f n S) {i k : Nat} (hi : i < n) (hk : k < n) : En (swp f i k) n S := by
  have hs : ∀ x, Go.Eng.swp f i k x = f (if x = i then k else if x = k then i else x) := fun x => by
    by_cases h1 : x = i
    · subst h1; rw [swp_i, if_pos rfl]
    · by_cases h2 : x = k
      · subst h2; rw [swp_k, if_neg h1, if_pos rfl]
      · rw [swp_o f h1 h2, if_neg h1, if_neg h2]
  have hlt : ∀ x, x < n → (if x = i then k else if x = k then i else x) < n := fun x hx => by
    by_cases h1 : x = i
    · rw [if_pos h1]; exact hk
    · rw [if_neg h1]
      by_cases h2 : x = k
      · rw [if_pos h2]; exact hi
      · rw [if_neg h2]; exact hx
  refine ⟨fun x hx => by rw [hs]; exact h.mem _ (hlt x hx), fun y hy => ?_, fun x z hx hz e => ?_⟩
  · obtain ⟨x, hx, rfl⟩ := h.sur y hy
    refine ⟨if x = i then k else if x = k then i else x, hlt x hx, ?_⟩
    rw [hs]
    congr 1
    by_cases h1 : x = i
    · subst h1
      rw [if_pos rfl]
      by_cases h2 : k = x
      · rw [if_pos h2]; exact h2
      · rw [if_neg h2, if_pos rfl]
    · rw [if_neg h1]
      by_cases h2 : x = k
      · subst h2; rw [if_pos rfl, if_pos rfl]
      · rw [if_neg h2, if_neg h1, if_neg h2]
  · rw [hs, hs] at e
    have e := h.inj _ _ (hlt x hx) (hlt z hz) e
    by_cases h1 : x = i <;> by_cases h2 : x = k <;> by_cases h3 : z = i <;> by_cases h4 : z = k <;> simp_all
theorem En.push {f : Nat → α} {n : Nat} {S : α → Prop} (h : En f n S) {x : α} (hx : ¬ S x) : En (catU f n fun _ => x) (n + 1) fun y => S y ∨ y = x := by
  have h1 : ∀ k, k < n → catU f n (fun _ => x) k = f k := fun k hk => if_pos hk
  have h2 : catU f n (fun _ => x) n = x := if_neg (Nat.lt_irrefl n)
  refine ⟨fun k hk => ?_, fun y hy => ?_, fun j k hj hk e => ?_⟩
  · by_cases h3 : k < n
    · rw [h1 k h3]; exact .inl (h.mem k h3)
    · rw [show k = n by omega, h2]; exact .inr rfl
  · rcases hy with hy | rfl
    · obtain ⟨k, hk, rfl⟩ := h.sur y hy
      exact ⟨k, by omega, h1 k hk⟩
    · exact ⟨n, by omega, h2⟩
  · by_cases h3 : j < n <;> by_cases h4 : k < n
    · rw [h1 j h3, h1 k h4] at e; exact h.inj j k h3 h4 e
    · rw [h1 j h3, show k = n by omega, h2] at e; exact absurd (e ▸ h.mem j h3) hx
    · rw [h1 k h4, show j = n by omega, h2] at e; exact absurd (e ▸ h.mem k h4) hx
    · omega
theorem En.pop {f : Nat → α} {n : Nat} {S : α → Prop} (h : En f (n + 1) S) : En f n fun y => S y ∧ y ≠ f n :=
  ⟨fun k hk => ⟨h.mem k (by omega), fun e => by have := h.inj k n (by omega) (by omega) e; omega⟩, fun y hy => by
    obtain ⟨k, hk, rfl⟩ := h.sur y hy.1
    refine ⟨k, ?_, rfl⟩
    rcases Nat.lt_or_ge k n with h1 | h1
    · exact h1
    · exact absurd (by rw [show k = n by omega]) hy.2, fun j k hj hk e => h.inj j k (by omega) (by omega) e⟩
theorem En.congr {f g : Nat → α} {n : Nat} {S : α → Prop} (h : En f n S) (hg : ∀ k, k < n → g k = f k) : En g n S :=
  ⟨fun k hk => by rw [hg k hk]; exact h.mem k hk, fun x hx => by obtain ⟨k, hk, e⟩ := h.sur x hx; exact ⟨k, hk, by rw [hg k hk, e]⟩, fun j k hj hk e => h.inj j k hj hk (by rw [← hg j hj, ← hg k hk, e])⟩
theorem En.iff {f : Nat → α} {n : Nat} {S T : α → Prop} (h : En f n S) (hT : ∀ x, T x ↔ S x) : En f n T :=
  ⟨fun k hk => (hT _).2 (h.mem k hk), fun x hx => h.sur x ((hT x).1 hx), h.inj⟩
theorem En.none {f : Nat → α} : En f 0 fun _ => False := ⟨fun k h => absurd h (Nat.not_lt_zero k), fun _ h => h.elim, fun j k h => absurd h (Nat.not_lt_zero j)⟩

/-- From b on, none is ahead of the one above it. -/
def HpB (lt : α → α → Bool) (b : Nat) (f : Nat → α) (n : Nat) : Prop := ∀ k, 0 < k → k < n → b ≤ (k - 1) / 2 → lt (f k) (f ((k - 1) / 2)) = false
theorem HpB.root (h : SWO lt) {f : Nat → α} {n : Nat} (hp : HpB lt 0 f n) : ∀ k, k < n → lt (f k) (f 0) = false := by
  intro k
  induction k using Nat.strongRecOn with
  | _ k ih =>
    intro hk
    by_cases h0 : k = 0
    · subst h0; exact h.irr _
    · exact h.neg _ _ _ (hp k (by omega) hk (Nat.zero_le _)) (ih ((k - 1) / 2) (by omega) (by omega))
/-! ### up -/
def upH (lt : α → α → Bool) : Nat → (Nat → α) → Nat → Nat → α
  | 0, f, _ => f
  | m + 1, f, j => if j = 0 then f else if lt (f j) (f ((j - 1) / 2)) = true then upH lt m (swp f ((j - 1) / 2) j) ((j - 1) / 2) else f
def upF (lt : α → α → Bool) (f : Nat → α) (j : Nat) : Nat → α := upH lt j f j
theorem upH_zero (f : Nat → α) : ∀ m, upH lt m f 0 = f
  | 0 => rfl
  | m + 1 => by rw [upH, if_pos rfl]
theorem upH_more (f : Nat → α) : ∀ m j, j ≤ m → upH lt m f j = upH lt j f j := by
  intro m
  induction m using Nat.strongRecOn generalizing f with
  | _ m ih =>
    intro j hj
    rcases Nat.eq_zero_or_pos j with h0 | h0
    · subst h0; rw [upH_zero, upH_zero]
    · obtain ⟨m, rfl⟩ : ∃ q, m = q + 1 := ⟨m - 1, by omega⟩
      obtain ⟨j, rfl⟩ : ∃ q, j = q + 1 := ⟨j - 1, by omega⟩
      rw [upH, upH]
      split
      · rfl
      · split
        · rw [ih m (by omega) _ _ (by omega), ih j (by omega) _ ((j + 1 - 1) / 2) (by omega)]
        · rfl
theorem upF_end {f : Nat → α} {j : Nat} (h : j = 0 ∨ lt (f j) (f ((j - 1) / 2)) = false) : upF lt f j = f := by
  unfold upF
  cases j with
  | zero => rfl
  | succ j =>
    rw [upH, if_neg (by omega)]
    rcases h with h | h
    · omega
    · rw [if_neg (by rw [h]; decide)]
theorem upF_go {f : Nat → α} {j : Nat} (h0 : 0 < j) (h : lt (f j) (f ((j - 1) / 2)) = true) : upF lt f j = upF lt (swp f ((j - 1) / 2) j) ((j - 1) / 2) := by
  unfold upF
  obtain ⟨j, rfl⟩ : ∃ q, j = q + 1 := ⟨j - 1, by omega⟩
  rw [upH, if_neg (by omega), if_pos h, upH_more _ j _ (by omega)]
def HpU (lt : α → α → Bool) (f : Nat → α) (n j : Nat) : Prop :=
  (∀ k, 0 < k → k < n → k ≠ j → lt (f k) (f ((k - 1) / 2)) = false) ∧ ∀ k, 0 < k → k < n → (k - 1) / 2 = j → 0 < j → lt (f k) (f ((j - 1) / 2)) = false
theorem HpU.end {f : Nat → α} {n j : Nat} (hp : HpU lt f n j) (he : j = 0 ∨ lt (f j) (f ((j - 1) / 2)) = false) : HpB lt 0 f n := fun k h0 hk _ => by
  by_cases e : k = j
  · subst e
    rcases he with he | he
    · omega
    · exact he
  · exact hp.1 k h0 hk e
theorem HpU.step (h : SWO lt) {f : Nat → α} {n j : Nat} (hp : HpU lt f n j) (hj : 0 < j) (hn : j < n) (hl : lt (f j) (f ((j - 1) / 2)) = true) : HpU lt (swp f ((j - 1) / 2) j) n ((j - 1) / 2) := by
  have ho : ∀ x, x ≠ (j - 1) / 2 → x ≠ j → swp f ((j - 1) / 2) j x = f x := fun x h1 h2 => swp_o f h1 h2
  have hi : swp f ((j - 1) / 2) j ((j - 1) / 2) = f j := swp_i _ _ _
  have hk : swp f ((j - 1) / 2) j j = f ((j - 1) / 2) := swp_k _ _ _
  refine ⟨fun k h0 hkn hkp => ?_, fun k h0 hkn hkp h1 => ?_⟩
  · by_cases e : k = j
    · subst e; rw [hk, hi]; exact h.asy hl
    · rw [ho k hkp e]
      by_cases e2 : (k - 1) / 2 = j
      · rw [e2, hk]; exact hp.2 k h0 hkn e2 hj
      · by_cases e3 : (k - 1) / 2 = (j - 1) / 2
        · rw [e3, hi]; exact h.neg _ _ _ (e3 ▸ hp.1 k h0 hkn e) (h.asy hl)
        · rw [ho _ e3 e2]; exact hp.1 k h0 hkn e
  · rw [ho ((((j - 1) / 2) - 1) / 2) (by omega) (by omega)]
    by_cases e : k = j
    · subst e; rw [hk]; exact hp.1 _ h1 (by omega) (by omega)
    · rw [ho k (by omega) e]
      exact h.neg _ _ _ (hkp ▸ hp.1 k h0 hkn e) (hp.1 _ h1 (by omega) (by omega))
theorem upF_ok (h : SWO lt) {n : Nat} : ∀ (j : Nat) (f : Nat → α), j < n → HpU lt f n j → HpB lt 0 (upF lt f j) n ∧ (∀ S, En f n S → En (upF lt f j) n S) ∧ ∀ k, n ≤ k → upF lt f j k = f k := by
  intro j
  induction j using Nat.strongRecOn with
  | _ j ih =>
    intro f hj hp
    by_cases he : j = 0 ∨ lt (f j) (f ((j - 1) / 2)) = false
    · rw [upF_end he]; exact ⟨hp.end he, fun S hS => hS, fun _ _ => rfl⟩
    · have h0 : 0 < j := by omega
      have hl : lt (f j) (f ((j - 1) / 2)) = true := by
        cases hb : lt (f j) (f ((j - 1) / 2)) with
        | true => rfl
        | false => exact absurd (.inr hb) he
      rw [upF_go h0 hl]
      obtain ⟨h1, h2, h3⟩ := ih ((j - 1) / 2) (by omega) (swp f ((j - 1) / 2) j) (by omega) (hp.step h h0 hj hl)
      exact ⟨h1, fun S hS => h2 S (hS.swp (by omega) hj), fun k hk => (h3 k hk).trans (swp_o f (by omega) (by omega))⟩
/-- One is put into a heap. -/
def pushF (lt : α → α → Bool) (f : Nat → α) (n : Nat) (x : α) : Nat → α := upF lt (catU f n fun _ => x) n
theorem pushF_ok (h : SWO lt) {f : Nat → α} {n : Nat} {x : α} (hp : HpB lt 0 f n) : HpB lt 0 (pushF lt f n x) (n + 1) ∧ ∀ S, En f n S → ¬ S x → En (pushF lt f n x) (n + 1) fun y => S y ∨ y = x := by
  have hc : ∀ k, k < n → catU f n (fun _ => x) k = f k := fun k hk => if_pos hk
  obtain ⟨h1, h2, _⟩ := upF_ok h (n := n + 1) n (catU f n fun _ => x) (by omega) ⟨fun k h0 hk hkn => by rw [hc k (by omega), hc ((k - 1) / 2) (by omega)]; exact hp k h0 (by omega) (Nat.zero_le _), fun k h0 hk e => by omega⟩
  exact ⟨h1, fun S hS hx => h2 _ (hS.push hx)⟩
/-! ### down -/
def pick (lt : α → α → Bool) (n : Nat) (f : Nat → α) (i : Nat) : Nat := if 2 * i + 2 < n ∧ lt (f (2 * i + 2)) (f (2 * i + 1)) = true then 2 * i + 2 else 2 * i + 1
def dnH (lt : α → α → Bool) (n : Nat) : Nat → (Nat → α) → Nat → (Nat → α) × Nat
  | 0, f, i => (f, i)
  | m + 1, f, i => if n ≤ 2 * i + 1 then (f, i) else if lt (f (pick lt n f i)) (f i) = true then dnH lt n m (swp f i (pick lt n f i)) (pick lt n f i) else (f, i)
def dnF (lt : α → α → Bool) (n : Nat) (f : Nat → α) (i : Nat) : (Nat → α) × Nat := dnH lt n n f i
theorem pick_gt (n : Nat) (f : Nat → α) (i : Nat) : i < pick lt n f i ∧ (2 * i + 1 < n → pick lt n f i < n) ∧ (pick lt n f i - 1) / 2 = i := by
  unfold pick; split <;> omega
theorem dnH_more {n : Nat} : ∀ (m q : Nat) (f : Nat → α) (i : Nat), n ≤ m + i → n ≤ q + i → dnH lt n m f i = dnH lt n q f i
  | 0, 0, f, i, _, _ => rfl
  | 0, q + 1, f, i, h, _ => by rw [dnH, dnH, if_pos (by omega)]
  | m + 1, 0, f, i, _, h => by rw [dnH, dnH, if_pos (by omega)]
  | m + 1, q + 1, f, i, h1, h2 => by
    have := pick_gt (lt := lt) n f i
    rw [dnH, dnH]
    split
    · rfl
    · split
      · exact dnH_more m q _ _ (by omega) (by omega)
      · rfl
theorem dnF_end {n : Nat} {f : Nat → α} {i : Nat} (h : n ≤ 2 * i + 1 ∨ lt (f (pick lt n f i)) (f i) = false) : dnF lt n f i = (f, i) := by
  unfold dnF
  cases n with
  | zero => rfl
  | succ n =>
    rw [dnH]
    rcases h with h | h
    · rw [if_pos h]
    · split
      · rfl
      · rw [if_neg (by rw [h]; decide)]
theorem dnF_go {n : Nat} {f : Nat → α} {i : Nat} (h1 : 2 * i + 1 < n) (h : lt (f (pick lt n f i)) (f i) = true) : dnF lt n f i = dnF lt n (swp f i (pick lt n f i)) (pick lt n f i) := by
  have := pick_gt (lt := lt) n f i
  unfold dnF
  obtain ⟨m, rfl⟩ : ∃ q, n = q + 1 := ⟨n - 1, by omega⟩
  rw [dnH, if_neg (by omega), if_pos h]
  exact dnH_more _ _ _ _ (by omega) (by omega)
def HpD (lt : α → α → Bool) (b : Nat) (f : Nat → α) (n i : Nat) : Prop :=
  (∀ k, 0 < k → k < n → b ≤ (k - 1) / 2 → (k - 1) / 2 ≠ i → lt (f k) (f ((k - 1) / 2)) = false) ∧ (0 < i → b ≤ (i - 1) / 2 → ∀ k, 0 < k → k < n → (k - 1) / 2 = i → lt (f k) (f ((i - 1) / 2)) = false)
theorem pick_least (h : SWO lt) {n : Nat} {f : Nat → α} {i k : Nat} (h0 : 0 < k) (hk : k < n) (e : (k - 1) / 2 = i) : lt (f k) (f (pick lt n f i)) = false := by
  have hk2 : k = 2 * i + 1 ∨ k = 2 * i + 2 := by omega
  unfold pick
  split
  · rename_i hc
    rcases hk2 with rfl | rfl
    · exact h.asy hc.2
    · exact h.irr _
  · rename_i hc
    rcases hk2 with rfl | rfl
    · exact h.irr _
    · cases hb : lt (f (2 * i + 2)) (f (2 * i + 1)) with
      | false => rfl
      | true => exact absurd ⟨hk, hb⟩ hc
theorem HpD.end (h : SWO lt) {b : Nat} {f : Nat → α} {n i : Nat} (hp : HpD lt b f n i) (he : n ≤ 2 * i + 1 ∨ lt (f (pick lt n f i)) (f i) = false) : HpB lt b f n := fun k h0 hk hb => by
  by_cases e : (k - 1) / 2 = i
  · rcases he with he | he
    · omega
    · rw [e]; exact h.neg _ _ _ (pick_least h h0 hk e) he
  · exact hp.1 k h0 hk hb e
theorem HpD.step (h : SWO lt) {b : Nat} {f : Nat → α} {n i : Nat} (hp : HpD lt b f n i) (hi : 2 * i + 1 < n) (hl : lt (f (pick lt n f i)) (f i) = true) : HpD lt b (swp f i (pick lt n f i)) n (pick lt n f i) := by
  obtain ⟨g1, g2', g3⟩ := pick_gt (lt := lt) n f i
  have g2 := g2' hi
  clear g2'
  have hleast : ∀ k, 0 < k → k < n → (k - 1) / 2 = i → lt (f k) (f (pick lt n f i)) = false := fun k a b c => pick_least h a b c
  generalize pick lt n f i = j at *
  have ho : ∀ x, x ≠ i → x ≠ j → swp f i j x = f x := fun x h1 h2 => swp_o f h1 h2
  have hi' : swp f i j i = f j := swp_i _ _ _
  have hk : swp f i j j = f i := swp_k _ _ _
  refine ⟨fun k h0 hkn hb hkp => ?_, fun h0j hb k h0 hkn hkp => ?_⟩
  · by_cases e : (k - 1) / 2 = i
    · rw [e, hi']
      by_cases e2 : k = j
      · rw [e2, hk]; exact h.asy hl
      · rw [ho k (by omega) e2]; exact hleast k h0 hkn e
    · rw [ho _ e hkp]
      by_cases e2 : k = i
      · subst e2; rw [hi']; exact hp.2 h0 hb j (by omega) g2 g3
      · rw [ho k e2 (by intro e3; subst e3; omega)]; exact hp.1 k h0 hkn hb e
  · rw [g3, hi', ho k (by omega) (by omega)]
    have := hp.1 k h0 hkn (by omega) (by omega)
    rw [hkp] at this; exact this
theorem dnF_ok (h : SWO lt) {b n : Nat} : ∀ (m i : Nat) (f : Nat → α), n ≤ m + i → HpD lt b f n i → HpB lt b (dnF lt n f i).1 n ∧ (∀ q S, n ≤ q → En f q S → En (dnF lt n f i).1 q S) ∧ (∀ k, n ≤ k → (dnF lt n f i).1 k = f k) ∧ i ≤ (dnF lt n f i).2 ∧ ∀ k, k < i → (dnF lt n f i).1 k = f k
  | m, i, f, hm, hp => by
    by_cases he : n ≤ 2 * i + 1 ∨ lt (f (pick lt n f i)) (f i) = false
    · rw [dnF_end he]; exact ⟨hp.end h he, fun q S _ hS => hS, fun _ _ => rfl, Nat.le_refl _, fun _ _ => rfl⟩
    · have hi : 2 * i + 1 < n := by omega
      have hl : lt (f (pick lt n f i)) (f i) = true := by
        cases hb : lt (f (pick lt n f i)) (f i) with
        | true => rfl
        | false => exact absurd (.inr hb) he
      obtain ⟨g1, g2', g3⟩ := pick_gt (lt := lt) n f i
      have g2 := g2' hi
      clear g2'
      rw [dnF_go hi hl]
      match m, hm with
      | 0, hm => omega
      | m + 1, hm =>
        obtain ⟨h1, h2, h3, h4, h5⟩ := dnF_ok h m (pick lt n f i) (swp f i (pick lt n f i)) (by omega) (hp.step h hi hl)
        exact ⟨h1, fun q S hq hS => h2 q S hq (hS.swp (by omega) (by omega)), fun k hk => (h3 k hk).trans (swp_o f (by omega) (by omega)), by omega, fun k hk => (h5 k (by omega)).trans (swp_o f (by omega) (by omega))⟩
/-- The first one is taken from a heap of n + 1: it is the last one then. -/
def popF (lt : α → α → Bool) (f : Nat → α) (n : Nat) : Nat → α := (dnF lt n (swp f 0 n) 0).1
theorem popF_ok (h : SWO lt) {f : Nat → α} {n : Nat} (hp : HpB lt 0 f (n + 1)) : HpB lt 0 (popF lt f n) n ∧ popF lt f n n = f 0 ∧ (∀ S, En f (n + 1) S → En (popF lt f n) n fun y => S y ∧ y ≠ f 0) ∧ ∀ k, k < n + 1 → lt (f k) (f 0) = false := by
  obtain ⟨h1, h2, h3, _⟩ := dnF_ok h (b := 0) (n := n) n 0 (swp f 0 n) (by omega) ⟨fun k h0 hk _ hkp => by
    rw [swp_o f (by omega) (by omega), swp_o f (by omega) (by omega)]; exact hp k h0 (by omega) (Nat.zero_le _), fun h => absurd h (Nat.lt_irrefl 0)⟩
  have e : popF lt f n n = f 0 := (h3 n (Nat.le_refl _)).trans (swp_k f 0 n)
  refine ⟨h1, e, fun S hS => ?_, hp.root h⟩
  have := (h2 (n + 1) S (by omega) (hS.swp (by omega) (by omega))).pop
  have e2 : (dnF lt n (swp f 0 n) 0).1 n = f 0 := e
  rw [e2] at this; exact this
end
end Go.Eng

namespace Go.Eng
def invSem (recv : Value) (name : String) (args : Array Value) : Sem Next := do
  let d ← (pure { target := .fn (.method name) #[], args := #[recv] ++ args } : Sem Deferred)
  invoke d.target d.args
/-- The function of a value's method, told of a pointer. -/
def derefM (P : Program) (t : TypeId) (name : String) (f : FuncId) (e : TypeId) : Bool := match P.info? t with
  | some i => match i.methods.find? (·.name == name) with
    | some m => match m.func with
      | some (g, false) => m.path.isEmpty && Nat.beq g f && Nat.ble 1 (P.types.size + Made.depth) && (match P.underlying t with
        | some (.pointer e') => Nat.beq e' e
        | _ => false) && (match aggB P e with
        | some false => true
        | _ => false) && (match P.funcs[f]? with
        | some fn => !(fn.name == "runtime.NumGoroutine") && !fn.body.isNone
        | none => false)
      | _ => false
    | none => false
  | none => false
theorem run_invoke_deref {P : Program} {t : TypeId} {name : String} {f : FuncId} {e : TypeId} (h : derefM P t name f e = true) {w : World} {r : Nat} {sv : Value} (hc : w.cell? ⟨r, 0, none⟩ = some sv) (args : Array Value) :
    (invSem (.iface t (.pointer (some ⟨r, 0, none⟩))) name args).run P w = .ok (.enter f (#[sv] ++ args)) w := by
  unfold derefM at h
  split at h
  · rename_i i hi
    split at h
    · rename_i m hm
      split at h
      · rename_i g hf
        simp only [Bool.and_eq_true] at h
        obtain ⟨⟨⟨⟨⟨hp, hg⟩, hk⟩, hu⟩, ha⟩, hfn⟩ := h
        have hg := Nat.eq_of_beq_eq_true hg
        subst hg
        obtain ⟨k, hk⟩ : ∃ k, P.types.size + Made.depth = k + 1 := ⟨P.types.size + Made.depth - 1, by have := Nat.le_of_ble_eq_true hk; omega⟩
        split at hu
        · rename_i e' hu'
          have he := Nat.eq_of_beq_eq_true hu
          subst he
          split at ha
          · rename_i hag
            split at hfn
            · rename_i fn hfn'
              simp only [Bool.and_eq_true, Bool.not_eq_true'] at hfn
              have hpath : m.path = #[] := by simpa using hp
              have hload := run_loadAt_one (P := P) (t := e') (w := w) (b := r) (o := 0) (v := sv) hag hc
              have hload' : (loadVar e' ⟨r, 0, none⟩).run P w = .ok sv w := by simpa [Instr.loadAt, Instr.sureAddr] using hload
              have hnil : ∀ (a : Array TypeId) (y : TypeId) (s m : String), Builtin.ssaWrapNilChk_ a y #[.pointer (some ⟨r, 0, none⟩), strVal s, strVal m] = pure (.pointer (some ⟨r, 0, none⟩)) := fun _ _ _ _ => rfl
              have hmeth : (method (k + 1) t (.pointer (some ⟨r, 0, none⟩)) name).run P w = .ok (g, sv) w := by
                simp [method, typeInfo, hi, hm, hpath, follow, hf, receiverAt, run_underlying hu', Place.get, hnil, asAddr, hload']
              have hcall : (callFunc g (#[sv] ++ args)).run P w = .ok (.enter g (#[sv] ++ args)) w := by
                have h1 : (fn.name == "runtime.NumGoroutine") = false := hfn.1
                have h2 : fn.body.isNone = false := hfn.2
                unfold callFunc
                simp only [Sem.run_bind, run_program, Result.andThen_ok, hfn', h1, h2, Bool.false_eq_true, if_false, Sem.run_pure]
              have hext : ((#[Value.iface t (.pointer (some ⟨r, 0, none⟩))] ++ args).extract 1 (1 + args.size)) = args := by
                apply Array.ext'
                simp
              have hm2 : (callMethod (.iface t (.pointer (some ⟨r, 0, none⟩))) name args).run P w = .ok (.enter g (#[sv] ++ args)) w := by
                simp only [callMethod, Sem.run_bind, run_program, Result.andThen_ok, hk, hmeth, hcall]
              show (invoke (.fn (.method name) #[]) (#[Value.iface t (.pointer (some ⟨r, 0, none⟩))] ++ args)).run P w = _
              have h0 : (#[Value.iface t (.pointer (some ⟨r, 0, none⟩))] ++ args)[0]? = some (Value.iface t (.pointer (some ⟨r, 0, none⟩))) := by
                rw [Array.getElem?_append_left (by simp)]; rfl
              have hsz : (#[Value.iface t (.pointer (some ⟨r, 0, none⟩))] ++ args).size = 1 + args.size := by simp
              simp only [invoke, h0, hsz, hext, hm2]
            · cases hfn
          · cases ha
        · cases hu
      · cases h
    · cases h
  · cases h
theorem mruns_deref {F : Blk → Prop} {P : Program} {t : TypeId} {name : String} {f : FuncId} {e : TypeId} (h : derefM P t name f e = true) {rb : Blk} {sv : Value} {args : Array Value} {bs : List Blk} {k : Nat} {v : List Nat → Value} {out : List Nat → List (Option Blk)}
    (hrb : rb ∈ bs) (hb : rb.base = 0) (hs : rb.cont.get 0 = some sv) (hR : RunsF F P f (sv :: args.toList) bs k v out) : MRuns F P (invSem (.iface t (.pointer (some ⟨rb.name, 0, none⟩))) name args) bs k v out := fun w hw ha hF => by
  have hc := (hw rb hrb).cell 0 sv hs
  rw [hb] at hc
  refine ⟨f, #[sv] ++ args, run_invoke_deref h hc args, ?_⟩
  have h2 := hR w hw ha hF
  have e : (sv :: args.toList).toArray = #[sv] ++ args := by apply Array.ext'; simp
  rw [e] at h2; exact h2
end Go.Eng

namespace Go.Eng
set_option linter.unusedSimpArgs false
set_option linter.unusedVariables false
set_option maxRecDepth 100000
/-- One more behind the first len; the rest is as it was, or new. -/
def pshG {α : Type} (g : Nat → α) (len : Nat) (x z : α) (b nm : Nat) : Nat → α := fun j => if j < len then g j else if j = len then x else if nm = b then g j else z
theorem pshG_K {α β : Type} (K : α → β) (g : Nat → α) (len : Nat) (x z : α) (b nm : Nat) : (fun j => K (pshG g len x z b nm j)) = pshG (fun j => K (g j)) len (K x) (K z) b nm := by
  funext j; unfold pshG; split
  · rfl
  · split
    · rfl
    · split <;> rfl
theorem pshG_lt {α : Type} {g : Nat → α} {len : Nat} {x z : α} {b nm k : Nat} (h : k < len) : pshG g len x z b nm k = g k := if_pos h
theorem pshG_eq {α : Type} {g : Nat → α} {len : Nat} {x z : α} {b nm : Nat} : pshG g len x z b nm len = x := by unfold pshG; rw [if_neg (Nat.lt_irrefl _), if_pos rfl]
section
variable {P : Program} {t ty e : TypeId} {i : TypeInfo} {z : Value} {sz : Nat} {zc : List Value}
theorem srunJ_append (ht : P.underlying t = some (.slice e)) (hi : P.info? e = some i) (hz : i.zero = some z) (hsz : i.size = sz) (hs0 : 0 < sz) (hzc : z.cells.toList = zc) (hzl : zc.length = sz)
    {b len c k bo os cc : Nat} {g : Nat → List Value} {x : List Value} {S : Cont} (hle : len ≤ c) (hg : ∀ k, (g k).length = sz) (hx : x.length = sz) (hS : ∀ j, j < sz → S.get (os + j) = x[j]?) (h1 : x.all Value.oneCell' = true)
    (hb : (len + 1) * i.bytes ≤ 140737488355328) (hb2 : len + 1 ≤ 9223372036854775807) :
    SRuns P (appendSem t ty (.slice (some ⟨b, 0, none⟩) len c) (.slice (some ⟨k, bo + os, none⟩) 1 cc)) [⟨b, true, 0, .tab c sz g⟩, ⟨k, false, bo, S⟩] 2
      (fun ns => .slice (some ⟨ns.getD 0 0, 0, none⟩) (len + 1) (len + 1 + ns.getD 1 0))
      (fun ns => [some ⟨ns.getD 0 0, true, 0, .tab (len + 1 + ns.getD 1 0) sz (pshG g len x zc b (ns.getD 0 0))⟩, some ⟨k, false, bo, S⟩]) := by
  intro w hall ha
  have hA : Holds ⟨b, true, 0, .tab c sz g⟩ w := hall _ (by simp)
  have hK : Holds ⟨k, false, bo, S⟩ w := hall _ (by simp)
  have hnews : ∀ j u, x[j]? = some u → w.cell? ((⟨k, bo + os, none⟩ : Addr).add j) = some u := fun j u hj => by
    have hjn : j < sz := by rw [← hx]; exact (List.getElem?_eq_some_iff.1 hj).1
    rw [add_none, Nat.add_assoc]
    exact hK.cell _ _ (by rw [hS j hjn, hj])
  have hone : ∀ u ∈ x, u.oneCell' = true := List.all_eq_true.1 h1
  have hm : ∀ p c', listMem [some ⟨b, true, 0, .tab c sz g⟩, some ⟨k, false, bo, S⟩] p = some c' → Holds c' w := fun p c' hc => hall c' (List.mem_of_getElem? (listMem_some (l := [⟨b, true, 0, .tab c sz g⟩, ⟨k, false, bo, S⟩]).1 hc))
  have hpl : ∀ nm k, (pshG g len x zc b nm k).length = sz := fun nm k => by unfold pshG; split; exact hg _; split; exact hx; split; exact hg _; exact hzl
  have hdm : ∀ o, len * sz ≤ o → o < len * sz + sz → o / sz = len ∧ o % sz = o - len * sz := fun o h1 h2 => by
    have e : o = sz * len + (o - len * sz) := by rw [Nat.mul_comm]; omega
    constructor
    · rw [e, Nat.mul_add_div hs0, Nat.div_eq_of_lt (by omega), Nat.add_zero]
    · rw [e, Nat.mul_add_mod, Nat.mod_eq_of_lt (by omega)]; rw [Nat.mul_comm sz len]; omega
  have hdlt : ∀ o, o < len * sz → o / sz < len := fun o h => div_lt_row h
  have hdgt : ∀ o, len * sz + sz ≤ o → len < o / sz := fun o h => by
    rw [Nat.lt_iff_add_one_le, Nat.le_div_iff_mul_le hs0, Nat.add_mul, Nat.one_mul]; exact h
  have hcf : ∀ o nm, cf sz (pshG g len x zc b nm) o = if o < len * sz then cf sz g o else if o < len * sz + sz then x.getD (o - len * sz) undef else if nm = b then cf sz g o else zc.getD (o % sz) undef := fun o nm => by
    unfold cf pshG
    by_cases h2 : o < len * sz
    · rw [if_pos (hdlt o h2), if_pos h2]
    · by_cases h3 : o < len * sz + sz
      · obtain ⟨e1, e2⟩ := hdm o (by omega) h3
        rw [if_neg (by omega), if_pos e1, if_neg h2, if_pos h3, e2]
      · have := hdgt o (by omega)
        rw [if_neg (by omega), if_neg (by omega), if_neg h2, if_neg h3]
        split <;> rfl
  have hadd : (len + 1) * sz = len * sz + sz := Nat.succ_mul _ _
  by_cases hr : len + 1 ≤ c
  · -- there is room
    have hle2 : len * sz + sz ≤ c * sz := by rw [← hadd]; exact Nat.mul_le_mul_right _ hr
    have hget : ∀ j, j < sz → ∃ u, (Cont.tab c sz g).get (len * sz + j) = some u := fun j hj => ⟨_, tabE_in hs0 (fun k _ => hg k) (by omega)⟩
    have hrun := run_append_room_cells (P := P) w t ty e i ht hi b 0 len c ⟨k, bo + os, none⟩ 1 cc x (by simp [hsz, hx]) hnews hone (by omega)
      (fun j hj => by
        obtain ⟨u, hu⟩ := hget j (by omega)
        have := hA.cell _ _ hu
        rw [show 0 + len * i.size + j = 0 + (len * sz + j) by rw [hsz]; omega, this]; rfl)
      (fun j hj => by
        obtain ⟨u, hu⟩ := hget j (by omega)
        have := hA.free rfl _ _ hu
        rw [show 0 + len * i.size + j = 0 + (len * sz + j) by rw [hsz]; omega]; exact this)
    have hrun2 : (Builtin.append_ #[t, t] ty #[.slice (some ⟨b, 0, none⟩) len c, .slice (some ⟨k, bo + os, none⟩) 1 cc]).run P w = .ok (.slice (some ⟨b, 0, none⟩) (len + 1) (len + 1 + (c - len - 1))) (w.setCells b (0 + len * i.size) x) := by
      rw [show len + 1 + (c - len - 1) = c by omega]; exact hrun
    refine ⟨[b, c - len - 1], _, rfl, .inl (run_value hrun2), ?_⟩
    have hp := post_cells (m := listMem [some ⟨b, true, 0, .tab c sz g⟩, some ⟨k, false, bo, S⟩]) (w := w) (p := 0) (b := ⟨b, true, 0, .tab c sz g⟩) (o0 := len * sz) (cs := x)
      (c := .tab c sz (pshG g len x zc b b)) hm ha rfl rfl rfl (fun j hj => hget j (by omega)) (fun j => by
        rw [hx]
        by_cases hj : j < c * sz
        · rw [tabE_in hs0 (fun k _ => hpl b k) hj, hcf]
          by_cases h2 : j < len * sz
          · rw [if_pos h2, if_neg (by omega), tabE_in hs0 (fun k _ => hg k) hj]
          · by_cases h3 : j < len * sz + sz
            · rw [if_neg h2, if_pos h3, if_pos (by omega), List.getD_eq_getElem?_getD, List.getElem?_eq_getElem (by omega)]; rfl
            · rw [if_neg h2, if_neg h3, if_pos rfl, if_neg (by omega), tabE_in hs0 (fun k _ => hg k) hj]
        · rw [tabE_out hj, if_neg (by omega), tabE_out hj])
    rw [listMem_set0] at hp
    have e1 : len + 1 + (c - len - 1) = c := by omega
    simpa [hsz, e1] using hp
  · -- it grows
    have hce : c = len := by omega
    subst hce
    have hgr : c < c + 1 := by omega
    have hrun := run_append_grow (P := P) w t ty e i z ht hi hz ⟨b, 0, none⟩ c c ((List.range (c * sz)).map (cf sz g)) (by simp [hsz])
      (fun j v hj => by
        obtain ⟨hjn, rfl⟩ := map_range_get hj
        rw [add_none, Nat.zero_add]
        have := hA.cell j (cf sz g j) (tabE_in hs0 (fun k _ => hg k) hjn)
        rw [Nat.zero_add] at this; exact this)
      ⟨k, bo + os, none⟩ 1 cc x (by simp [hsz, hx]) hnews hgr (by omega) (growslice_fits hgr hb)
    have hge := grownCap_ge w (c + 1) c e
    obtain ⟨q, hq⟩ : ∃ q, grownCap w (c + 1) c e = c + 1 + q := ⟨_, (Nat.add_sub_cancel' hge).symm⟩
    rw [hq] at hrun
    refine ⟨[w.heap.size, q], _, rfl, .inl (run_value hrun), ?_⟩
    have hp0 := Post.drew hm ha
    have hp := hp0.trans (post_new hp0.holds hp0.apart 0 (((List.range (c * sz)).map (cf sz g)).toArray ++ x.toArray ++ Builtin.zeroCells z.cells (c + 1 + q - (c + 1))) e)
    rw [show w.drew.heap.size = w.heap.size from rfl, listMem_set0] at hp
    have hnb : ¬ w.heap.size = b := fun h => by have := hA.lt; simp only at this; omega
    have hc : ∀ o v, (Cont.tab (c + 1 + q) sz (pshG g c x zc b w.heap.size)).get o = some v →
        (Cont.lit (((List.range (c * sz)).map (cf sz g)).toArray ++ x.toArray ++ Builtin.zeroCells z.cells (c + 1 + q - (c + 1))).toList).get o = some v := fun o v ho => by
      rw [show c + 1 + q - (c + 1) = q by omega]
      simp only [Cont.get, Array.toList_append, List.append_assoc]
      have hall3 : (c + 1 + q) * sz = c * sz + sz + q * sz := by rw [Nat.add_mul, Nat.add_mul, Nat.one_mul]
      by_cases h0 : o < (c + 1 + q) * sz
      · rw [tabE_in hs0 (fun k _ => hpl _ k) h0, hcf] at ho
        by_cases h2 : o < c * sz
        · rw [if_pos h2] at ho
          rw [List.getElem?_append_left (by simp; exact h2), List.getElem?_map, List.getElem?_range h2]; exact ho
        · rw [if_neg h2] at ho
          rw [List.getElem?_append_right (by simp; omega)]
          simp only [List.length_map, List.length_range]
          by_cases h3 : o < c * sz + sz
          · rw [if_pos h3, List.getD_eq_getElem?_getD, List.getElem?_eq_getElem (by omega)] at ho
            rw [List.getElem?_append_left (by omega)]
            rw [List.getElem?_eq_getElem (by omega)]; exact ho
          · rw [if_neg h3, if_neg hnb] at ho
            rw [List.getElem?_append_right (by omega)]
            simp only [hx]
            rw [zeroCells_many hzc q _ (by rw [hzl]; omega), ← ho, hzl]
            rw [show o - c * sz - sz = o - sz * (c + 1) by rw [Nat.mul_comm sz, hadd]; omega, Nat.sub_mul_mod]
            rw [Nat.mul_comm, hadd]; omega
      · rw [tabE_out h0] at ho; cases ho
    have hN := (hp.holds 0 _ rfl).recont rfl hc
    refine ⟨fun p d hpc => ?_, fun p p' d d' hpp hc1 hd ho => ?_, ⟨hp.adv.os, hp.adv.output, hp.adv.tape, hp.adv.size, hp.adv.heap, fun j hj => ?_, fun p d hpc ho => ?_⟩⟩
    · rcases p with _ | _ | p
      · injection hpc with hpc; subst hpc; exact hN
      · injection hpc with hpc; subst hpc; exact hp.holds 1 _ rfl
      · simp [listMem] at hpc
    · rcases p with _ | _ | p
      · injection hc1 with hc1; subst hc1
        rcases p' with _ | _ | p'
        · exact absurd rfl hpp
        · injection hd with hd; subst hd
          have h01 := hp.apart 0 1 _ _ (by omega) rfl rfl rfl
          exact h01
        · simp [listMem] at hd
      · injection hc1 with hc1; subst hc1; cases ho
      · simp [listMem] at hc1
    · obtain ⟨p, d, hpc, ho, rfl⟩ := hj
      rcases p with _ | _ | p
      · injection hpc with hpc; subst hpc
        exact .inr (Nat.le_refl _)
      · injection hpc with hpc; subst hpc; cases ho
      · simp [listMem] at hpc
    · rcases p with _ | _ | p
      · injection hpc with hpc; subst hpc; cases ho
      · exact hpc
      · simp [listMem] at hpc
theorem mkJ_append {B : Nat} (ht : P.underlying t = some (.slice e)) (h1 : AggC P e zc sz B) (b len c k bo os cc : Nat) {α : Type} (K : α → List Value) (hK : ∀ a, (K a).length = sz ∧ (K a).all Value.oneCell' = true) (g : Nat → α) (x z0 : α) (hz0 : K z0 = zc) (S : Cont)
    (hS : ∀ j, j < sz → S.get (os + j) = (K x)[j]?) (hle : len ≤ c) (hb : (len + 1) * B ≤ 140737488355328 ∧ len + 1 ≤ 9223372036854775807) :
    SRuns P (appendSem t ty (.slice (some ⟨b, 0, none⟩) len c) (.slice (some ⟨k, bo + os, none⟩) 1 cc)) [⟨b, true, 0, .tab c sz fun k => K (g k)⟩, ⟨k, false, bo, S⟩] 2
      (fun ns => .slice (some ⟨ns.getD 0 0, 0, none⟩) (len + 1) (len + 1 + ns.getD 1 0))
      (fun ns => [some ⟨ns.getD 0 0, true, 0, .tab (len + 1 + ns.getD 1 0) sz fun k => K (pshG g len x z0 b (ns.getD 0 0) k)⟩, some ⟨k, false, bo, S⟩]) := by
  obtain ⟨i, z, hi, hz, hsz, hB, hzc, hzl, hs0⟩ := h1
  subst hB
  have := srunJ_append (P := P) (t := t) (ty := ty) ht hi hz hsz hs0 hzc hzl (b := b) (len := len) (c := c) (k := k) (bo := bo) (os := os) (cc := cc) (g := fun k => K (g k)) (x := K x) (S := S) hle (fun _ => (hK _).1) (hK x).1 hS (hK x).2 hb.1 hb.2
  simp only [pshG_K, hz0]
  exact this
theorem mkJ_append_nil {B : Nat} (ht : P.underlying t = some (.slice e)) (h1 : AggC P e zc sz B) (k bo os cc : Nat) {α : Type} (K : α → List Value) (hK : ∀ a, (K a).length = sz ∧ (K a).all Value.oneCell' = true) (x z0 : α) (hz0 : K z0 = zc) (S : Cont)
    (hS : ∀ j, j < sz → S.get (os + j) = (K x)[j]?) (hb : 1 * B ≤ 140737488355328) :
    SRuns P (appendSem t ty (.slice none 0 0) (.slice (some ⟨k, bo + os, none⟩) 1 cc)) [⟨k, false, bo, S⟩] 2
      (fun ns => .slice (some ⟨ns.getD 0 0, 0, none⟩) 1 (1 + ns.getD 1 0))
      (fun ns => [some ⟨k, false, bo, S⟩, some ⟨ns.getD 0 0, true, 0, .tab (1 + ns.getD 1 0) sz fun k => K (pshG (fun _ => z0) 0 x z0 0 0 k)⟩]) := by
  have h2 := mkE_append_nil (P := P) (t := t) (ty := ty) (e := e) ht h1 k bo os 1 cc K hK (fun _ => x) S (fun j hj => by
    obtain ⟨i, z, hi, hz, hsz, hB, hzc, hzl, hs0⟩ := h1
    have hj' : j < sz := by omega
    rw [hS j hj']
    unfold cf
    rw [Nat.mod_eq_of_lt hj', List.getD_eq_getElem?_getD, List.getElem?_eq_getElem (by rw [(hK x).1]; exact hj')]
    rfl) ⟨by omega, hb, by omega⟩
  have e : ∀ c, sprE sz c 1 (fun k => K x) zc = .tab c sz fun k => K (pshG (fun _ => z0) 0 x z0 0 0 k) := fun c => by
    unfold sprE
    congr 1
    funext k
    unfold pshG
    by_cases hk : k = 0
    · subst hk; rfl
    · rw [if_neg (by omega), if_neg (by omega), if_neg hk]; exact hz0.symm
  simp only [e] at h2
  exact h2
end
section
variable {P : Program} {t t' : TypeId} {x y : Operand}
theorem is_half (j : Nat) (h : j ≤ 9223372036854775807) : IsOp P (.binOp .quo t x y t') [int ((j : Int) - ((1 : Nat) : Int)), int 2] (nat ((j - 1) / 2)) := isOp_bin guard_int (by
  show pureRun P (Op.intDiv .quo .i64 ((j : Int) - ((1 : Nat) : Int)) (2 : Int)) = _
  unfold Op.intDiv
  rw [if_neg (by omega)]
  show some (Value.int .i64 (IntKind.i64.wrap (((j : Int) - ((1 : Nat) : Int)).tdiv 2))) = _
  have e : ((j : Int) - ((1 : Nat) : Int)).tdiv 2 = (((j - 1) / 2 : Nat) : Int) := by
    rcases Nat.eq_zero_or_pos j with h0 | h0
    · subst h0; rfl
    · rw [Int.tdiv_eq_ediv_of_nonneg (by omega)]; omega
  rw [e]
  generalize he : (j - 1) / 2 = q
  rw [wrap_i64 _ (by omega)]; rfl)
end
/-- An element's store in a row. -/
theorem store_tabK {sz n : Nat} {α : Type} (K : α → List Value) (hK : ∀ a, (K a).length = sz) (f : Nat → α) (i : Nat) (v : α) : (Cont.tab n sz fun k => K (f k)).store (.tab i 0) (K v) = some (.tab n sz fun k => K (upd f i v k)) := by
  simp only [Cont.store, hK, Nat.zero_add]
  have e1 : Nat.ble sz sz = true := by simp
  simp only [e1, Nat.beq_refl, Bool.and_self]
  congr 2
  funext k
  unfold upd
  by_cases h : k = i
  · subst h; rw [if_pos rfl, if_pos rfl]; unfold splice; simp [hK, List.drop_eq_nil_of_le]
  · rw [if_neg h, if_neg h]
theorem get_lit {l : List Value} (o : Nat) : (Cont.lit l).get (0 + o) = l[o]? := by rw [Nat.zero_add]; rfl
/-! ### one is put into a heap -/
section
variable {α : Type} {lt : α → α → Bool}
theorem push_ok (h : SWO lt) {f g : Nat → α} {n : Nat} {x : α} (hp : HpB lt 0 f n) (hg : ∀ k, k < n → g k = f k) (hx : g n = x) : HpB lt 0 (upF lt g n) (n + 1) ∧ (∀ S, En f n S → ¬ S x → En (upF lt g n) (n + 1) fun y => S y ∨ y = x) ∧ ∀ k, n + 1 ≤ k → upF lt g n k = g k := by
  obtain ⟨h1, h2, h3⟩ := upF_ok h (n := n + 1) n g (by omega) ⟨fun k h0 hk hkn => by rw [hg k (by omega), hg ((k - 1) / 2) (by omega)]; exact hp k h0 (by omega) (Nat.zero_le _), fun k h0 hk e => by omega⟩
  refine ⟨h1, fun S hS hn => h2 _ ((hS.push hn).congr fun k hk => ?_), h3⟩
  unfold catU
  by_cases hk2 : k < n
  · rw [if_pos hk2]; exact hg k hk2
  · rw [if_neg hk2, show k = n by omega]; exact hx
theorem up_end {F : Nat → α} {j : Nat} (h : selB (decide ((j - 1) / 2 = j)) true (!(lt (F j) (F ((j - 1) / 2)))) = true) : j = 0 ∨ lt (F j) (F ((j - 1) / 2)) = false := by
  cases hb : lt (F j) (F ((j - 1) / 2)) with
  | false => exact .inr rfl
  | true =>
    rw [hb] at h
    by_cases e : (j - 1) / 2 = j
    · exact .inl (by omega)
    · simp [selB, e] at h
theorem up_step {F f : Nat → α} {j j0 n : Nat} (B0 : j < n) (B1 : upF lt F j = upF lt f j0) (h : selB (decide ((j - 1) / 2 = j)) true (!(lt (F j) (F ((j - 1) / 2)))) = false) :
    ((j - 1) / 2 < n ∧ upF lt (swp F ((j - 1) / 2) j) ((j - 1) / 2) = upF lt f j0) ∧ (j - 1) / 2 < j := by
  have e : ¬ (j - 1) / 2 = j := fun e => by simp [selB, e] at h
  have hl : lt (F j) (F ((j - 1) / 2)) = true := by
    cases hb : lt (F j) (F ((j - 1) / 2)) with
    | true => rfl
    | false => rw [hb] at h; simp [selB, e] at h
  refine ⟨⟨by omega, ?_⟩, by omega⟩
  rw [← upF_go (by omega) hl]; exact B1
theorem dn_none {F f : Nat → α} {i i0 m : Nat} (B1 : dnF lt m F i = dnF lt m f i0) (h : m ≤ 2 * i + 1) : dnF lt m f i0 = (F, i) := by
  rw [← B1]; exact dnF_end (.inl h)
theorem dn_r {F f : Nat → α} {i i0 m : Nat} (B1 : dnF lt m F i = dnF lt m f i0) (h2 : selB (decide (2 * i + 1 + 1 < m)) (lt (F (2 * i + 1 + 1)) (F (2 * i + 1))) false = true) (h3 : (!(lt (F (2 * i + 1 + 1)) (F i))) = true) : dnF lt m f i0 = (F, i) := by
  rw [← B1]
  refine dnF_end (.inr ?_)
  have : pick lt m F i = 2 * i + 2 := by
    unfold pick; rw [if_pos]
    by_cases e : 2 * i + 1 + 1 < m
    · simp [selB, e] at h2; exact ⟨e, h2⟩
    · simp [selB, e] at h2
  rw [this]; simpa using h3
theorem dn_l {F f : Nat → α} {i i0 m : Nat} (B1 : dnF lt m F i = dnF lt m f i0) (h2 : selB (decide (2 * i + 1 + 1 < m)) (lt (F (2 * i + 1 + 1)) (F (2 * i + 1))) false = false) (h3 : (!(lt (F (2 * i + 1)) (F i))) = true) : dnF lt m f i0 = (F, i) := by
  rw [← B1]
  refine dnF_end (.inr ?_)
  have : pick lt m F i = 2 * i + 1 := by
    unfold pick; rw [if_neg]
    rintro ⟨e, e2⟩
    have e : 2 * i + 1 + 1 < m := e
    have e2 : lt (F (2 * i + 1 + 1)) (F (2 * i + 1)) = true := e2
    simp [selB, e, e2] at h2
  rw [this]; simpa using h3
theorem dn_step_r {F f : Nat → α} {i i0 m n : Nat} (hm : m ≤ n) (hn : n ≤ 1000000) (B0 : i ≤ 1000000) (B1 : dnF lt m F i = dnF lt m f i0) (h0 : 2 * i + 1 < m) (h2 : selB (decide (2 * i + 1 + 1 < m)) (lt (F (2 * i + 1 + 1)) (F (2 * i + 1))) false = true) (h3 : (!(lt (F (2 * i + 1 + 1)) (F i))) = false) :
    (2 * i + 1 + 1 ≤ 1000000 ∧ dnF lt m (swp F i (2 * i + 1 + 1)) (2 * i + 1 + 1) = dnF lt m f i0) ∧ 1000000 - (2 * i + 1 + 1) < 1000000 - i := by
  by_cases e : 2 * i + 1 + 1 < m
  · have e2 : lt (F (2 * i + 1 + 1)) (F (2 * i + 1)) = true := by simpa [selB, e] using h2
    have hp : pick lt m F i = 2 * i + 1 + 1 := by unfold pick; exact if_pos ⟨e, e2⟩
    refine ⟨⟨by omega, ?_⟩, by omega⟩
    have := dnF_go (lt := lt) (f := F) h0 (by rw [hp]; simpa using h3)
    rw [hp] at this; rw [← this]; exact B1
  · simp [selB, e] at h2
theorem dn_step_l {F f : Nat → α} {i i0 m n : Nat} (hm : m ≤ n) (hn : n ≤ 1000000) (B0 : i ≤ 1000000) (B1 : dnF lt m F i = dnF lt m f i0) (h0 : 2 * i + 1 < m) (h2 : selB (decide (2 * i + 1 + 1 < m)) (lt (F (2 * i + 1 + 1)) (F (2 * i + 1))) false = false) (h3 : (!(lt (F (2 * i + 1)) (F i))) = false) :
    (2 * i + 1 ≤ 1000000 ∧ dnF lt m (swp F i (2 * i + 1)) (2 * i + 1) = dnF lt m f i0) ∧ 1000000 - (2 * i + 1) < 1000000 - i := by
  have hp : pick lt m F i = 2 * i + 1 := by
    unfold pick; rw [if_neg]
    rintro ⟨e, e2⟩
    have e : 2 * i + 1 + 1 < m := e
    have e2 : lt (F (2 * i + 1 + 1)) (F (2 * i + 1)) = true := e2
    simp [selB, e, e2] at h2
  refine ⟨⟨by omega, ?_⟩, by omega⟩
  have := dnF_go (lt := lt) (f := F) h0 (by rw [hp]; simpa using h3)
  rw [hp] at this; rw [← this]; exact B1
end
end Go.Eng
