/-
  Layer 9: ranges and owners; lists of numbers held against each other.
-/
import Derived.Test.YtflbdmbiceenjaaLack
import Derived.Test.YtflbdmbiceenjaaPurSum
import Derived.Test.YtflbdmbiceenjaaGrow
namespace Go.Eng
set_option linter.unusedVariables false
set_option linter.unusedSimpArgs false
set_option maxRecDepth 100000
theorem is_assign_dec {P : Program} {x : Operand} (n : Nat) : IsOp P (.assign x) [nat n] (int ((((n + 1) : Nat) : Int) - ((1 : Nat) : Int))) := by
  intro ρ o ho hv
  rw [ho] at hv
  simp only [Op.operands, List.map_cons, List.map_nil, List.cons.injEq, and_true] at hv
  unfold execOp
  rw [ho]
  show some (Next.value (ρ x)) = _
  rw [hv, show (((n + 1 : Nat) : Int) - ((1 : Nat) : Int)) = (n : Int) by omega]; rfl
/-- What is told by place is told of the cells that are there. -/
theorem lit_tab {n : Nat} {g : Nat → Value} {cs : List Value} (h : ∀ k, k < n → cs[k]? = some (g k)) : ∀ o v, (tabF n g).get o = some v → (Cont.lit cs).get o = some v := fun o v ho => by
  by_cases hl : o < n
  · rw [tabF_in hl] at ho; rw [← ho]; exact h o hl
  · rw [tabF_out hl] at ho; cases ho
theorem Runs.ofLit {P : Program} {f : FuncId} {args : List Value} {nm : Nat} {C C' : Cont} {k : Nat} {v : List Nat → Value} {nw : List Nat → List (Option Blk)} (h : Runs P f args [⟨nm, false, 0, C⟩] k v (fun ns => none :: nw ns)) (hm : C.isMap = false)
    (hc : ∀ o v, C.get o = some v → C'.get o = some v) (hro : ∀ ns p b, listMem (nw ns) p = some b → b.own = true) : Runs P f args [⟨nm, false, 0, C'⟩] k v (fun ns => none :: nw ns) :=
  h.retell (fun w hw b hb => by
    simp only [List.mem_cons, List.not_mem_nil, or_false] at hb
    subst hb
    exact (hw _ (List.Mem.head _)).recont hm hc) rfl (fun ns p b hp => by
    rcases p with _ | p
    · cases hp
    · exact hro ns p b hp)
def urL (l : List UInt64) : Nat → UInt64 := fun k => l.getD k 0
def nrL (l : List Nat) : Nat → Nat := fun k => l.getD k 0
def irL (l : List Int) : Nat → Int := fun k => l.getD k 0
/-! ### lists of numbers -/
def sameI (f g : Nat → Nat) (n : Nat) : Bool := (List.range n).all fun k => decide (f k = g k)
theorem sameI_iff {f g : Nat → Nat} {n : Nat} : sameI f g n = true ↔ ∀ k, k < n → f k = g k := by simp [sameI]
theorem samei_yes {f g : Nat → Nat} {n i : Nat} (h : i = n) (hk : ∀ k, k < i → f k = g k) : true = sameI f g n := by subst h; exact (sameI_iff.2 hk).symm
theorem samei_not {f g : Nat → Nat} {n i : Nat} (h : i < n) (hk : (!(decide (f i = g i))) = true) : false = sameI f g n := by
  cases hb : sameI f g n with
  | false => rfl
  | true => have := sameI_iff.1 hb i h; simp [this] at hk
theorem samei_next {f g : Nat → Nat} {i : Nat} (h : ∀ k, k < i → f k = g k) (hk : (!(decide (f i = g i))) = false) : ∀ k, k < i + 1 → f k = g k := fun k h2 => by
  by_cases e : k = i
  · subst e; simpa using hk
  · exact h k (by omega)
/-! ### ranges -/
structure P2R where
  a : Nat
  b : Nat
def p2Z : P2R := ⟨0, 0⟩
def p2C (r : P2R) : List Value := [nat r.a, nat r.b]
theorem p2C_ok (r : P2R) : (p2C r).length = 2 ∧ (p2C r).all Value.oneCell' = true := ⟨rfl, rfl⟩
abbrev tabQ (n : Nat) (f : Nat → P2R) : Cont := .tab n 2 fun k => p2C (f k)
def tN (f : Nat → Int) : Nat → Nat := fun k => (f k).toNat
def okC (n : Nat) (f : Nat → Int) : Prop := n ≤ 40 ∧ (∀ k, k < n → 0 ≤ f k) ∧ sumF (tN f) n ≤ 200
def rgF (f : Nat → Int) (k : Nat) : P2R := ⟨sumF (tN f) k, sumF (tN f) k + tN f k⟩
def cutQ (f : Nat → Int) (i : Nat) : Nat → P2R := fun k => if k < i then rgF f k else p2Z
theorem cutQ_zero (f : Nat → Int) : (fun _ => p2Z) = cutQ f 0 := by funext k; simp [cutQ]
theorem cutQ_next {f : Nat → Int} {i : Nat} {v : P2R} (hv : v = rgF f i) : upd (cutQ f i) i v = cutQ f (i + 1) := by
  subst hv; funext k; unfold upd cutQ
  by_cases h : k = i
  · subst h; rw [if_pos rfl, if_pos (by omega)]
  · by_cases h2 : k < i
    · rw [if_neg h, if_pos h2, if_pos (by omega)]
    · rw [if_neg h, if_neg h2, if_neg (by omega)]
theorem okC_at {n : Nat} {f : Nat → Int} (h : okC n f) {i : Nat} (hi : i < n) : 0 ≤ f i ∧ sumF (tN f) i + (f i).toNat ≤ 200 := by
  refine ⟨h.2.1 i hi, ?_⟩
  have := sumF_mono (q := tN f) (show i + 1 ≤ n by omega)
  simp only [sumF] at this
  have h2 := h.2.2
  unfold tN at this h2 ⊢; omega
theorem tN_sum (f : Nat → Int) (i : Nat) : sumF (tN f) (i + 1) = sumF (tN f) i + (f i).toNat := rfl
theorem nilz_cond {m : Nat} (h : 0 < m) : selB (decide ((0 : Nat) < m)) true false = true := by simp [selB, h]
theorem spr_asP {c n : Nat} {f g : Nat → Value} {z : Value} (h : ∀ k, k < n → f k = g k) : spr c n f z = spr c n g z := by
  unfold spr
  congr 1
  funext k
  by_cases hk : k < n
  · rw [if_pos hk, if_pos hk]; exact h k hk
  · rw [if_neg hk, if_neg hk]
theorem gr_tell {α : Type} {K : α → Value} {zv : Value} {A : Grw α} {S : Nat} {F : Nat → α} (h1 : A.n = S) (h2 : A.z = decide (S = 0)) (h3 : ∀ j, j < S → A.f j = F j) :
    grV A = grV (Grw.mk (decide (S = 0)) A.nm S A.r F) ∧ grO K zv A = grO K zv (Grw.mk (decide (S = 0)) A.nm S A.r F) := by
  obtain ⟨z, nm, n, r, f⟩ := A
  simp only at h1 h2 h3
  subst h1; subst h2
  refine ⟨rfl, ?_⟩
  unfold grO
  by_cases e : n = 0
  · simp [e]
  · have h4 : spr (n + r) n (fun k => K (f k)) zv = spr (n + r) n (fun k => K (F k)) zv := spr_asP fun k hk => congrArg K (h3 k hk)
    simp only [e, decide_false, h4]
/-! ### owners -/
def ownF (f : Nat → Int) (n : Nat) (j : Nat) : Nat := cntB (fun i => decide (sumF (tN f) (i + 1) ≤ j)) n
theorem own_at {f : Nat → Int} {n i j : Nat} (hi : i < n) (h1 : sumF (tN f) i ≤ j) (h2 : j < sumF (tN f) (i + 1)) : ownF f n j = i := by
  unfold ownF
  have h3 : ∀ k, k < n → decide (sumF (tN f) (k + 1) ≤ j) = decide (k < i) := fun k hk => by
    congr 1
    rw [eq_iff_iff]
    constructor
    · intro h; rcases Nat.lt_or_ge k i with h4 | h4
      · exact h4
      · have := sumF_mono (q := tN f) (show i + 1 ≤ k + 1 by omega); omega
    · intro h; have := sumF_mono (q := tN f) (show k + 1 ≤ i by omega); omega
  rw [cntB_congr h3]
  have h4 : ∀ m, cntB (fun k => decide (k < i)) m = min m i := fun m => by
    induction m with
    | zero => simp [cntB]
    | succ m ih => simp only [cntB, ih]; by_cases h : m < i <;> simp [h] <;> omega
  rw [h4]; omega
structure OwnI (f : Nat → Int) (n i k : Nat) (A : Grw Nat) : Prop where
  ln : A.n = sumF (tN f) i + k
  zz : A.z = decide (A.n = 0)
  ff : ∀ j, j < A.n → A.f j = ownF f n j
theorem own_zero {f : Nat → Int} {n : Nat} : OwnI f n 0 0 ⟨true, 0, 0, 0, fun _ => 0⟩ := ⟨rfl, rfl, fun j h => absurd h (Nat.not_lt_zero j)⟩
theorem own_next {f : Nat → Int} {n i k : Nat} {A : Grw Nat} (h : OwnI f n i k A) (hk : k = tN f i) : OwnI f n (i + 1) 0 A := ⟨by rw [h.ln, hk]; rfl, h.zz, h.ff⟩
theorem own_nil {f : Nat → Int} {n i k nm r : Nat} {A : Grw Nat} {F : Nat → Nat} (h : OwnI f n i k A) (hi : i < n) (hk : k < tN f i) (hz : A.z = true) (hF : F 0 = i) : OwnI f n i (k + 1) ⟨false, nm, 1, r, F⟩ := by
  have h0 : A.n = 0 := by have := h.zz; rw [hz] at this; simpa using this.symm
  have h1 := h.ln
  refine ⟨by show 1 = _; omega, by simp, fun j hj => ?_⟩
  have hj : j < 1 := hj
  obtain rfl : j = 0 := by omega
  show F 0 = _
  rw [hF, own_at hi (by omega) (by show 0 < sumF (tN f) i + tN f i; omega)]
theorem own_app {f : Nat → Int} {n i k nm r : Nat} {A : Grw Nat} (h : OwnI f n i k A) (hi : i < n) (hk : k < tN f i) (hz : A.z = false) : OwnI f n i (k + 1) ⟨false, nm, A.n + 1, r, catU A.f A.n fun _ => i⟩ := by
  have h1 := h.ln
  refine ⟨by show A.n + 1 = _; omega, by simp, fun j hj => ?_⟩
  have hj : j < A.n + 1 := hj
  show catU A.f A.n (fun _ => i) j = _
  unfold catU
  by_cases hj2 : j < A.n
  · rw [if_pos hj2]; exact h.ff j hj2
  · rw [if_neg hj2]
    exact (own_at hi (by omega) (by show j < sumF (tN f) i + tN f i; omega)).symm
theorem own_tell {f : Nat → Int} {n i : Nat} {A : Grw Nat} (h : OwnI f n i 0 A) (e : i = n) : A.n = sumF (tN f) n ∧ A.z = decide (sumF (tN f) n = 0) ∧ ∀ j, j < sumF (tN f) n → A.f j = ownF f n j := by
  subst e
  have h1 : A.n = sumF (tN f) i := h.ln
  exact ⟨h1, by rw [h.zz, h1], fun j hj => h.ff j (by omega)⟩
theorem cutQ_ab (f : Nat → Int) (n i : Nat) : (cutQ f n i).a ≤ (cutQ f n i).b := by
  unfold cutQ; split
  · exact Nat.le_add_right _ _
  · exact Nat.le_refl _
theorem cutQ_le {n : Nat} {f : Nat → Int} (h : okC n f) (i : Nat) : (cutQ f n i).b ≤ 200 := by
  unfold cutQ; split
  · rename_i hi; exact (okC_at h hi).2
  · exact Nat.zero_le _
theorem cutQ_in {f : Nat → Int} {n i : Nat} (hi : i < n) : (cutQ f n i).a = sumF (tN f) i ∧ (cutQ f n i).b = sumF (tN f) (i + 1) ∧ (cutQ f n i).b - (cutQ f n i).a = tN f i := by
  unfold cutQ; rw [if_pos hi]; exact ⟨rfl, rfl, Nat.add_sub_cancel_left _ _⟩
end Go.Eng
