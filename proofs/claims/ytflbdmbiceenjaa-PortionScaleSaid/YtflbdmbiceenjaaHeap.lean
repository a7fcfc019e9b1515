/-
  Heaps: what container/heap makes of a row, and that the first one is on top.
-/
import Derived.Test.YtflbdmbiceenjaaEngZ
set_option linter.unusedVariables false
namespace Go.Eng
/-- A strict order in which what is not ahead is carried on. -/
structure SWO {α : Type} (lt : α → α → Bool) : Prop where
  irr : ∀ a, lt a a = false
  tr : ∀ a b c, lt a b = true → lt b c = true → lt a c = true
  neg : ∀ a b c, lt a b = false → lt b c = false → lt a c = false
section
variable {α : Type} {lt : α → α → Bool}
theorem SWO.asy (h : SWO lt) {a b : α} (hab : lt a b = true) : lt b a = false := by
  cases hb : lt b a with
  | false => rfl
  | true => have := h.tr a b a hab hb; rw [h.irr a] at this; cases this
def swp (f : Nat → α) (i k : Nat) : Nat → α := upd (upd f i (f k)) k (f i)
theorem swp_i (f : Nat → α) (i k : Nat) : swp f i k i = f k := by
  unfold swp upd
  by_cases h : i = k
  · subst h; simp
  · simp [h]
theorem swp_k (f : Nat → α) (i k : Nat) : swp f i k k = f i := by unfold swp upd; simp
theorem swp_o (f : Nat → α) {i k x : Nat} (h1 : x ≠ i) (h2 : x ≠ k) : swp f i k x = f x := by unfold swp upd; simp [h1, h2]
/-- What a row has, each once. -/
structure En (f : Nat → α) (n : Nat) (S : α → Prop) : Prop where
  mem : ∀ k, k < n → S (f k)
  sur : ∀ x, S x → ∃ k, k < n ∧ f k = x
  inj : ∀ j k, j < n → k < n → f j = f k → j = k
theorem En.swp {f : Nat → α} {n : Nat} {S : α → Prop} (h : En f n S) {i k : Nat} (hi : i < n) (hk : k < n) : En (swp f i k) n S := by
  have hs : ∀ x, Go.Eng.swp f i k x = f (if x = i then k else if x = k then i else x) := fun x => by
    by_cases h1 : x = i
    · subst h1; rw [swp_i, if_pos rfl]
    · by_cases h2 : x = k
      · subst h2; rw [swp_k, if_neg h1, if_pos rfl]
      · rw [swp_o f h1 h2, if_neg h1, if_neg h2]
  have hlt : ∀ x, x < n → (if x = i then k else if x = k then i else x) < n := fun x hx => by
    by_cases h1 : x = i
    · rw [if_pos h1]; exact hk
    · rw [if_neg h1]
      by_cases h2 : x = k
      · rw [if_pos h2]; exact hi
      · rw [if_neg h2]; exact hx
  refine ⟨fun x hx => by rw [hs]; exact h.mem _ (hlt x hx), fun y hy => ?_, fun x z hx hz e => ?_⟩
  · obtain ⟨x, hx, rfl⟩ := h.sur y hy
    refine ⟨if x = i then k else if x = k then i else x, hlt x hx, ?_⟩
    rw [hs]
    congr 1
    by_cases h1 : x = i
    · subst h1
      rw [if_pos rfl]
      by_cases h2 : k = x
      · rw [if_pos h2]; exact h2
      · rw [if_neg h2, if_pos rfl]
    · rw [if_neg h1]
      by_cases h2 : x = k
      · subst h2; rw [if_pos rfl, if_pos rfl]
      · rw [if_neg h2, if_neg h1, if_neg h2]
  · rw [hs, hs] at e
    have e := h.inj _ _ (hlt x hx) (hlt z hz) e
    by_cases h1 : x = i <;> by_cases h2 : x = k <;> by_cases h3 : z = i <;> by_cases h4 : z = k <;> simp_all
theorem En.push {f : Nat → α} {n : Nat} {S : α → Prop} (h : En f n S) {x : α} (hx : ¬ S x) : En (catU f n fun _ => x) (n + 1) fun y => S y ∨ y = x := by
  have h1 : ∀ k, k < n → catU f n (fun _ => x) k = f k := fun k hk => if_pos hk
  have h2 : catU f n (fun _ => x) n = x := if_neg (Nat.lt_irrefl n)
  refine ⟨fun k hk => ?_, fun y hy => ?_, fun j k hj hk e => ?_⟩
  · by_cases h3 : k < n
    · rw [h1 k h3]; exact .inl (h.mem k h3)
    · rw [show k = n by omega, h2]; exact .inr rfl
  · rcases hy with hy | rfl
    · obtain ⟨k, hk, rfl⟩ := h.sur y hy
      exact ⟨k, by omega, h1 k hk⟩
    · exact ⟨n, by omega, h2⟩
  · by_cases h3 : j < n <;> by_cases h4 : k < n
    · rw [h1 j h3, h1 k h4] at e; exact h.inj j k h3 h4 e
    · rw [h1 j h3, show k = n by omega, h2] at e; exact absurd (e ▸ h.mem j h3) hx
    · rw [h1 k h4, show j = n by omega, h2] at e; exact absurd (e ▸ h.mem k h4) hx
    · omega
theorem En.pop {f : Nat → α} {n : Nat} {S : α → Prop} (h : En f (n + 1) S) : En f n fun y => S y ∧ y ≠ f n :=
  ⟨fun k hk => ⟨h.mem k (by omega), fun e => by have := h.inj k n (by omega) (by omega) e; omega⟩, fun y hy => by
    obtain ⟨k, hk, rfl⟩ := h.sur y hy.1
    refine ⟨k, ?_, rfl⟩
    rcases Nat.lt_or_ge k n with h1 | h1
    · exact h1
    · exact absurd (by rw [show k = n by omega]) hy.2, fun j k hj hk e => h.inj j k (by omega) (by omega) e⟩
theorem En.congr {f g : Nat → α} {n : Nat} {S : α → Prop} (h : En f n S) (hg : ∀ k, k < n → g k = f k) : En g n S :=
  ⟨fun k hk => by rw [hg k hk]; exact h.mem k hk, fun x hx => by obtain ⟨k, hk, e⟩ := h.sur x hx; exact ⟨k, hk, by rw [hg k hk, e]⟩, fun j k hj hk e => h.inj j k hj hk (by rw [← hg j hj, ← hg k hk, e])⟩
theorem En.iff {f : Nat → α} {n : Nat} {S T : α → Prop} (h : En f n S) (hT : ∀ x, T x ↔ S x) : En f n T :=
  ⟨fun k hk => (hT _).2 (h.mem k hk), fun x hx => h.sur x ((hT x).1 hx), h.inj⟩
theorem En.none {f : Nat → α} : En f 0 fun _ => False := ⟨fun k h => absurd h (Nat.not_lt_zero k), fun _ h => h.elim, fun j k h => absurd h (Nat.not_lt_zero j)⟩

/-- From b on, none is ahead of the one above it. -/
def HpB (lt : α → α → Bool) (b : Nat) (f : Nat → α) (n : Nat) : Prop := ∀ k, 0 < k → k < n → b ≤ (k - 1) / 2 → lt (f k) (f ((k - 1) / 2)) = false
theorem HpB.root (h : SWO lt) {f : Nat → α} {n : Nat} (hp : HpB lt 0 f n) : ∀ k, k < n → lt (f k) (f 0) = false := by
  intro k
  induction k using Nat.strongRecOn with
  | _ k ih =>
    intro hk
    by_cases h0 : k = 0
    · subst h0; exact h.irr _
    · exact h.neg _ _ _ (hp k (by omega) hk (Nat.zero_le _)) (ih ((k - 1) / 2) (by omega) (by omega))
/-! ### up -/
def upH (lt : α → α → Bool) : Nat → (Nat → α) → Nat → Nat → α
  | 0, f, _ => f
  | m + 1, f, j => if j = 0 then f else if lt (f j) (f ((j - 1) / 2)) = true then upH lt m (swp f ((j - 1) / 2) j) ((j - 1) / 2) else f
def upF (lt : α → α → Bool) (f : Nat → α) (j : Nat) : Nat → α := upH lt j f j
theorem upH_zero (f : Nat → α) : ∀ m, upH lt m f 0 = f
  | 0 => rfl
  | m + 1 => by rw [upH, if_pos rfl]
theorem upH_more (f : Nat → α) : ∀ m j, j ≤ m → upH lt m f j = upH lt j f j := by
  intro m
  induction m using Nat.strongRecOn generalizing f with
  | _ m ih =>
    intro j hj
    rcases Nat.eq_zero_or_pos j with h0 | h0
    · subst h0; rw [upH_zero, upH_zero]
    · obtain ⟨m, rfl⟩ : ∃ q, m = q + 1 := ⟨m - 1, by omega⟩
      obtain ⟨j, rfl⟩ : ∃ q, j = q + 1 := ⟨j - 1, by omega⟩
      rw [upH, upH]
      split
      · rfl
      · split
        · rw [ih m (by omega) _ _ (by omega), ih j (by omega) _ ((j + 1 - 1) / 2) (by omega)]
        · rfl
theorem upF_end {f : Nat → α} {j : Nat} (h : j = 0 ∨ lt (f j) (f ((j - 1) / 2)) = false) : upF lt f j = f := by
  unfold upF
  cases j with
  | zero => rfl
  | succ j =>
    rw [upH, if_neg (by omega)]
    rcases h with h | h
    · omega
    · rw [if_neg (by rw [h]; decide)]
theorem upF_go {f : Nat → α} {j : Nat} (h0 : 0 < j) (h : lt (f j) (f ((j - 1) / 2)) = true) : upF lt f j = upF lt (swp f ((j - 1) / 2) j) ((j - 1) / 2) := by
  unfold upF
  obtain ⟨j, rfl⟩ : ∃ q, j = q + 1 := ⟨j - 1, by omega⟩
  rw [upH, if_neg (by omega), if_pos h, upH_more _ j _ (by omega)]
def HpU (lt : α → α → Bool) (f : Nat → α) (n j : Nat) : Prop :=
  (∀ k, 0 < k → k < n → k ≠ j → lt (f k) (f ((k - 1) / 2)) = false) ∧ ∀ k, 0 < k → k < n → (k - 1) / 2 = j → 0 < j → lt (f k) (f ((j - 1) / 2)) = false
theorem HpU.end {f : Nat → α} {n j : Nat} (hp : HpU lt f n j) (he : j = 0 ∨ lt (f j) (f ((j - 1) / 2)) = false) : HpB lt 0 f n := fun k h0 hk _ => by
  by_cases e : k = j
  · subst e
    rcases he with he | he
    · omega
    · exact he
  · exact hp.1 k h0 hk e
theorem HpU.step (h : SWO lt) {f : Nat → α} {n j : Nat} (hp : HpU lt f n j) (hj : 0 < j) (hn : j < n) (hl : lt (f j) (f ((j - 1) / 2)) = true) : HpU lt (swp f ((j - 1) / 2) j) n ((j - 1) / 2) := by
  have ho : ∀ x, x ≠ (j - 1) / 2 → x ≠ j → swp f ((j - 1) / 2) j x = f x := fun x h1 h2 => swp_o f h1 h2
  have hi : swp f ((j - 1) / 2) j ((j - 1) / 2) = f j := swp_i _ _ _
  have hk : swp f ((j - 1) / 2) j j = f ((j - 1) / 2) := swp_k _ _ _
  refine ⟨fun k h0 hkn hkp => ?_, fun k h0 hkn hkp h1 => ?_⟩
  · by_cases e : k = j
    · subst e; rw [hk, hi]; exact h.asy hl
    · rw [ho k hkp e]
      by_cases e2 : (k - 1) / 2 = j
      · rw [e2, hk]; exact hp.2 k h0 hkn e2 hj
      · by_cases e3 : (k - 1) / 2 = (j - 1) / 2
        · rw [e3, hi]; exact h.neg _ _ _ (e3 ▸ hp.1 k h0 hkn e) (h.asy hl)
        · rw [ho _ e3 e2]; exact hp.1 k h0 hkn e
  · rw [ho ((((j - 1) / 2) - 1) / 2) (by omega) (by omega)]
    by_cases e : k = j
    · subst e; rw [hk]; exact hp.1 _ h1 (by omega) (by omega)
    · rw [ho k (by omega) e]
      exact h.neg _ _ _ (hkp ▸ hp.1 k h0 hkn e) (hp.1 _ h1 (by omega) (by omega))
theorem upF_ok (h : SWO lt) {n : Nat} : ∀ (j : Nat) (f : Nat → α), j < n → HpU lt f n j → HpB lt 0 (upF lt f j) n ∧ (∀ S, En f n S → En (upF lt f j) n S) ∧ ∀ k, n ≤ k → upF lt f j k = f k := by
  intro j
  induction j using Nat.strongRecOn with
  | _ j ih =>
    intro f hj hp
    by_cases he : j = 0 ∨ lt (f j) (f ((j - 1) / 2)) = false
    · rw [upF_end he]; exact ⟨hp.end he, fun S hS => hS, fun _ _ => rfl⟩
    · have h0 : 0 < j := by omega
      have hl : lt (f j) (f ((j - 1) / 2)) = true := by
        cases hb : lt (f j) (f ((j - 1) / 2)) with
        | true => rfl
        | false => exact absurd (.inr hb) he
      rw [upF_go h0 hl]
      obtain ⟨h1, h2, h3⟩ := ih ((j - 1) / 2) (by omega) (swp f ((j - 1) / 2) j) (by omega) (hp.step h h0 hj hl)
      exact ⟨h1, fun S hS => h2 S (hS.swp (by omega) hj), fun k hk => (h3 k hk).trans (swp_o f (by omega) (by omega))⟩
/-- One is put into a heap. -/
def pushF (lt : α → α → Bool) (f : Nat → α) (n : Nat) (x : α) : Nat → α := upF lt (catU f n fun _ => x) n
theorem pushF_ok (h : SWO lt) {f : Nat → α} {n : Nat} {x : α} (hp : HpB lt 0 f n) : HpB lt 0 (pushF lt f n x) (n + 1) ∧ ∀ S, En f n S → ¬ S x → En (pushF lt f n x) (n + 1) fun y => S y ∨ y = x := by
  have hc : ∀ k, k < n → catU f n (fun _ => x) k = f k := fun k hk => if_pos hk
  obtain ⟨h1, h2, _⟩ := upF_ok h (n := n + 1) n (catU f n fun _ => x) (by omega) ⟨fun k h0 hk hkn => by rw [hc k (by omega), hc ((k - 1) / 2) (by omega)]; exact hp k h0 (by omega) (Nat.zero_le _), fun k h0 hk e => by omega⟩
  exact ⟨h1, fun S hS hx => h2 _ (hS.push hx)⟩
/-! ### down -/
def pick (lt : α → α → Bool) (n : Nat) (f : Nat → α) (i : Nat) : Nat := if 2 * i + 2 < n ∧ lt (f (2 * i + 2)) (f (2 * i + 1)) = true then 2 * i + 2 else 2 * i + 1
def dnH (lt : α → α → Bool) (n : Nat) : Nat → (Nat → α) → Nat → (Nat → α) × Nat
  | 0, f, i => (f, i)
  | m + 1, f, i => if n ≤ 2 * i + 1 then (f, i) else if lt (f (pick lt n f i)) (f i) = true then dnH lt n m (swp f i (pick lt n f i)) (pick lt n f i) else (f, i)
def dnF (lt : α → α → Bool) (n : Nat) (f : Nat → α) (i : Nat) : (Nat → α) × Nat := dnH lt n n f i
theorem pick_gt (n : Nat) (f : Nat → α) (i : Nat) : i < pick lt n f i ∧ (2 * i + 1 < n → pick lt n f i < n) ∧ (pick lt n f i - 1) / 2 = i := by
  unfold pick; split <;> omega
theorem dnH_more {n : Nat} : ∀ (m q : Nat) (f : Nat → α) (i : Nat), n ≤ m + i → n ≤ q + i → dnH lt n m f i = dnH lt n q f i
  | 0, 0, f, i, _, _ => rfl
  | 0, q + 1, f, i, h, _ => by rw [dnH, dnH, if_pos (by omega)]
  | m + 1, 0, f, i, _, h => by rw [dnH, dnH, if_pos (by omega)]
  | m + 1, q + 1, f, i, h1, h2 => by
    have := pick_gt (lt := lt) n f i
    rw [dnH, dnH]
    split
    · rfl
    · split
      · exact dnH_more m q _ _ (by omega) (by omega)
      · rfl
theorem dnF_end {n : Nat} {f : Nat → α} {i : Nat} (h : n ≤ 2 * i + 1 ∨ lt (f (pick lt n f i)) (f i) = false) : dnF lt n f i = (f, i) := by
  unfold dnF
  cases n with
  | zero => rfl
  | succ n =>
    rw [dnH]
    rcases h with h | h
    · rw [if_pos h]
    · split
      · rfl
      · rw [if_neg (by rw [h]; decide)]
theorem dnF_go {n : Nat} {f : Nat → α} {i : Nat} (h1 : 2 * i + 1 < n) (h : lt (f (pick lt n f i)) (f i) = true) : dnF lt n f i = dnF lt n (swp f i (pick lt n f i)) (pick lt n f i) := by
  have := pick_gt (lt := lt) n f i
  unfold dnF
  obtain ⟨m, rfl⟩ : ∃ q, n = q + 1 := ⟨n - 1, by omega⟩
  rw [dnH, if_neg (by omega), if_pos h]
  exact dnH_more _ _ _ _ (by omega) (by omega)
def HpD (lt : α → α → Bool) (b : Nat) (f : Nat → α) (n i : Nat) : Prop :=
  (∀ k, 0 < k → k < n → b ≤ (k - 1) / 2 → (k - 1) / 2 ≠ i → lt (f k) (f ((k - 1) / 2)) = false) ∧ (0 < i → b ≤ (i - 1) / 2 → ∀ k, 0 < k → k < n → (k - 1) / 2 = i → lt (f k) (f ((i - 1) / 2)) = false)
theorem pick_least (h : SWO lt) {n : Nat} {f : Nat → α} {i k : Nat} (h0 : 0 < k) (hk : k < n) (e : (k - 1) / 2 = i) : lt (f k) (f (pick lt n f i)) = false := by
  have hk2 : k = 2 * i + 1 ∨ k = 2 * i + 2 := by omega
  unfold pick
  split
  · rename_i hc
    rcases hk2 with rfl | rfl
    · exact h.asy hc.2
    · exact h.irr _
  · rename_i hc
    rcases hk2 with rfl | rfl
    · exact h.irr _
    · cases hb : lt (f (2 * i + 2)) (f (2 * i + 1)) with
      | false => rfl
      | true => exact absurd ⟨hk, hb⟩ hc
theorem HpD.end (h : SWO lt) {b : Nat} {f : Nat → α} {n i : Nat} (hp : HpD lt b f n i) (he : n ≤ 2 * i + 1 ∨ lt (f (pick lt n f i)) (f i) = false) : HpB lt b f n := fun k h0 hk hb => by
  by_cases e : (k - 1) / 2 = i
  · rcases he with he | he
    · omega
    · rw [e]; exact h.neg _ _ _ (pick_least h h0 hk e) he
  · exact hp.1 k h0 hk hb e
theorem HpD.step (h : SWO lt) {b : Nat} {f : Nat → α} {n i : Nat} (hp : HpD lt b f n i) (hi : 2 * i + 1 < n) (hl : lt (f (pick lt n f i)) (f i) = true) : HpD lt b (swp f i (pick lt n f i)) n (pick lt n f i) := by
  obtain ⟨g1, g2', g3⟩ := pick_gt (lt := lt) n f i
  have g2 := g2' hi
  clear g2'
  have hleast : ∀ k, 0 < k → k < n → (k - 1) / 2 = i → lt (f k) (f (pick lt n f i)) = false := fun k a b c => pick_least h a b c
  generalize pick lt n f i = j at *
  have ho : ∀ x, x ≠ i → x ≠ j → swp f i j x = f x := fun x h1 h2 => swp_o f h1 h2
  have hi' : swp f i j i = f j := swp_i _ _ _
  have hk : swp f i j j = f i := swp_k _ _ _
  refine ⟨fun k h0 hkn hb hkp => ?_, fun h0j hb k h0 hkn hkp => ?_⟩
  · by_cases e : (k - 1) / 2 = i
    · rw [e, hi']
      by_cases e2 : k = j
      · rw [e2, hk]; exact h.asy hl
      · rw [ho k (by omega) e2]; exact hleast k h0 hkn e
    · rw [ho _ e hkp]
      by_cases e2 : k = i
      · subst e2; rw [hi']; exact hp.2 h0 hb j (by omega) g2 g3
      · rw [ho k e2 (by intro e3; subst e3; omega)]; exact hp.1 k h0 hkn hb e
  · rw [g3, hi', ho k (by omega) (by omega)]
    have := hp.1 k h0 hkn (by omega) (by omega)
    rw [hkp] at this; exact this
theorem dnF_ok (h : SWO lt) {b n : Nat} : ∀ (m i : Nat) (f : Nat → α), n ≤ m + i → HpD lt b f n i → HpB lt b (dnF lt n f i).1 n ∧ (∀ q S, n ≤ q → En f q S → En (dnF lt n f i).1 q S) ∧ (∀ k, n ≤ k → (dnF lt n f i).1 k = f k) ∧ i ≤ (dnF lt n f i).2 ∧ ∀ k, k < i → (dnF lt n f i).1 k = f k
  | m, i, f, hm, hp => by
    by_cases he : n ≤ 2 * i + 1 ∨ lt (f (pick lt n f i)) (f i) = false
    · rw [dnF_end he]; exact ⟨hp.end h he, fun q S _ hS => hS, fun _ _ => rfl, Nat.le_refl _, fun _ _ => rfl⟩
    · have hi : 2 * i + 1 < n := by omega
      have hl : lt (f (pick lt n f i)) (f i) = true := by
        cases hb : lt (f (pick lt n f i)) (f i) with
        | true => rfl
        | false => exact absurd (.inr hb) he
      obtain ⟨g1, g2', g3⟩ := pick_gt (lt := lt) n f i
      have g2 := g2' hi
      clear g2'
      rw [dnF_go hi hl]
      match m, hm with
      | 0, hm => omega
      | m + 1, hm =>
        obtain ⟨h1, h2, h3, h4, h5⟩ := dnF_ok h m (pick lt n f i) (swp f i (pick lt n f i)) (by omega) (hp.step h hi hl)
        exact ⟨h1, fun q S hq hS => h2 q S hq (hS.swp (by omega) (by omega)), fun k hk => (h3 k hk).trans (swp_o f (by omega) (by omega)), by omega, fun k hk => (h5 k (by omega)).trans (swp_o f (by omega) (by omega))⟩
/-- The first one is taken from a heap of n + 1: it is the last one then. -/
def popF (lt : α → α → Bool) (f : Nat → α) (n : Nat) : Nat → α := (dnF lt n (swp f 0 n) 0).1
theorem popF_ok (h : SWO lt) {f : Nat → α} {n : Nat} (hp : HpB lt 0 f (n + 1)) : HpB lt 0 (popF lt f n) n ∧ popF lt f n n = f 0 ∧ (∀ S, En f (n + 1) S → En (popF lt f n) n fun y => S y ∧ y ≠ f 0) ∧ ∀ k, k < n + 1 → lt (f k) (f 0) = false := by
  obtain ⟨h1, h2, h3, _⟩ := dnF_ok h (b := 0) (n := n) n 0 (swp f 0 n) (by omega) ⟨fun k h0 hk _ hkp => by
    rw [swp_o f (by omega) (by omega), swp_o f (by omega) (by omega)]; exact hp k h0 (by omega) (Nat.zero_le _), fun h => absurd h (Nat.lt_irrefl 0)⟩
  have e : popF lt f n n = f 0 := (h3 n (Nat.le_refl _)).trans (swp_k f 0 n)
  refine ⟨h1, e, fun S hS => ?_, hp.root h⟩
  have := (h2 (n + 1) S (by omega) (hS.swp (by omega) (by omega))).pop
  have e2 : (dnF lt n (swp f 0 n) 0).1 n = f 0 := e
  rw [e2] at this; exact this
end
end Go.Eng
