/-
  Layer 4: what the functions tell, as plain words.
-/
import Derived.Test.YtbggipbbfknnpaaPratt
namespace Go.Eng
set_option linter.unusedSimpArgs false
set_option linter.unusedVariables false
set_option maxRecDepth 100000

/-! ### maps without elements -/
def hasK (l : List N4) (k : N4) : Bool := l.any fun h => eq4 k h
def insK (l : List N4) (k : N4) : List N4 := match hasK l k with
  | true => l
  | false => l ++ [k]
def knC (l : List N4) : Cont := mapC nat4 ev0 (l.map fun k => (k, ()))
theorem find_has (k : N4) : ∀ l : List N4, (findE eq4 k (l.map fun k => (k, ()))).isSome = hasK l k
  | [] => rfl
  | h :: r => by
    simp only [List.map_cons, findE, hasK, List.any_cons]
    cases e : eq4 k h with
    | true => simp
    | false => simpa [hasK] using find_has k r
theorem hasK_iff {l : List N4} {k : N4} : hasK l k = true ↔ k ∈ l := by
  unfold hasK
  rw [List.any_eq_true]
  constructor
  · rintro ⟨h, h1, h2⟩
    have := eq4_eq h2
    subst this; exact h1
  · intro h; exact ⟨k, h, (eq4_iff k k).2 rfl⟩
theorem put_ins (k : N4) : ∀ l : List N4, putE eq4 k () (l.map fun k => (k, ())) = (insK l k).map fun k => (k, ())
  | [] => rfl
  | h :: r => by
    have ih := put_ins k r
    simp only [List.map_cons, putE]
    cases e : eq4 k h with
    | true =>
      have := eq4_eq e
      subst this
      have : hasK (k :: r) k = true := hasK_iff.2 (by simp)
      simp [insK, this]
    | false =>
      have e2 : hasK (h :: r) k = hasK r k := by simp [hasK, e]
      simp only [Bool.false_eq_true, if_false, ih]
      unfold insK
      rw [e2]
      cases hasK r k <;> simp
section
variable {P : Program} {mt kt et u : TypeId}
theorem sr_look (M : MapT P mt kt et nat4 ev0 () eq4) (b : Nat) (own : Bool) (l : List N4) (k : N4) :
    SRuns P (lookSem mt (.map (some b)) (nat4 k) true) [⟨b, own, 0, knC l⟩] 0 (fun _ => .tuple #[.agg #[], .bool (hasK l k)]) (fun _ => [none]) := by
  have h := srun_look M b own (l.map fun k => (k, ())) k
  rw [find_has] at h
  exact h
theorem sr_upd (M : MapT P mt kt et nat4 ev0 () eq4) (b : Nat) (l : List N4) (k : N4) :
    SRuns P (updSem mt (.map (some b)) (nat4 k) (.agg #[])) [⟨b, true, 0, knC l⟩] 0 (fun _ => undef) (fun _ => [some ⟨b, true, 0, knC (insK l k)⟩]) := by
  have h := srun_upd M b (l.map fun k => (k, ())) k ()
  rw [put_ins] at h
  exact h
theorem sr_mkm (t : TypeId) : SRuns P (mkmSem t) [] 1 (fun ns => .map (some (ns.getD 0 0))) (fun ns => [some ⟨ns.getD 0 0, true, 0, knC []⟩]) := srun_mkm t
end

/-! ### products -/
def badF (f : Nat → FacR) : Nat → Bool
  | 0 => false
  | i + 1 => selB (badF f i) true (selB (decide ((f i).e < 1)) true (decide ((f i).e > 255)))
def zeroF (f : Nat → FacR) : Nat → Bool
  | 0 => false
  | i + 1 => selB (zeroF f i) true (eq4 (f i).p (N4.mk 0 0 0 0))
def mulP (a p : N4) : Option N4 := match eq4 (mul8 a p).hi (N4.mk 0 0 0 0) with
  | true => some (mul8 a p).lo
  | false => none
def powP (a p : N4) : Nat → Option N4
  | 0 => some a
  | j + 1 => (powP a p j).bind fun b => mulP b p
def prodP (f : Nat → FacR) : Nat → Option N4
  | 0 => some (N4.mk 1 0 0 0)
  | i + 1 => (prodP f i).bind fun a => powP a (f i).p (f i).e.toNat
def multV (f : Nat → FacR) (n : Nat) : N4 := (prodP f n).getD (N4.mk 0 0 0 0)
def multE (f : Nat → FacR) (n : Nat) : Int := if (prodP f n).isSome = true then 0 else 10
def prodE (f : Nat → FacR) (n : Nat) : Int := if 40 < n then 2 else if badF f n = true then 1 else if zeroF f n = true then 0 else multE f n
def prodV (f : Nat → FacR) (n : Nat) : N4 := if 40 < n then N4.mk 0 0 0 0 else if badF f n = true then N4.mk 0 0 0 0 else if zeroF f n = true then N4.mk 0 0 0 0 else multV f n
theorem mulP_hi {a p : N4} (h : (!(eq4 (mul8 a p).hi (N4.mk 0 0 0 0))) = false) : mulP a p = some (mul8 a p).lo := by
  unfold mulP
  have : eq4 (mul8 a p).hi (N4.mk 0 0 0 0) = true := by simpa using h
  rw [this]
theorem mulP_over {a p : N4} (h : (!(eq4 (mul8 a p).hi (N4.mk 0 0 0 0))) = true) : mulP a p = none := by
  unfold mulP
  have : eq4 (mul8 a p).hi (N4.mk 0 0 0 0) = false := by simpa using h
  rw [this]
theorem powP_none {a p : N4} {j : Nat} (h : powP a p j = none) : ∀ d, powP a p (j + d) = none
  | 0 => h
  | d + 1 => by rw [← Nat.add_assoc, powP, powP_none h d, Option.bind_none]
theorem prodP_none {f : Nat → FacR} {i : Nat} (h : prodP f i = none) : ∀ d, prodP f (i + d) = none
  | 0 => h
  | d + 1 => by rw [← Nat.add_assoc, prodP, prodP_none h d, Option.bind_none]
theorem powP_step {a b p : N4} {j : Nat} (h1 : powP a p j = some b) (h2 : (!(eq4 (mul8 b p).hi (N4.mk 0 0 0 0))) = false) : powP a p (j + 1) = some (mul8 b p).lo := by
  rw [powP, h1, Option.bind_some]; exact mulP_hi h2
theorem prodP_step {f : Nat → FacR} {a b : N4} {i j : Nat} (h : prodP f i = some a) (h1 : powP a (f i).p j = some b) (hj : j = (f i).e.toNat) : prodP f (i + 1) = some b := by
  rw [prodP, h, ← hj, Option.bind_some]; exact h1
theorem mult_over {f : Nat → FacR} {a b : N4} {i j n : Nat} (h : prodP f i = some a) (h1 : powP a (f i).p j = some b) (hj : j < (f i).e.toNat) (hi : i < n) (h2 : (!(eq4 (mul8 b (f i).p).hi (N4.mk 0 0 0 0))) = true) :
    multV f n = N4.mk 0 0 0 0 ∧ multE f n = 10 := by
  have e1 : powP a (f i).p (j + 1) = none := by rw [powP, h1, Option.bind_some]; exact mulP_over h2
  have e2 : prodP f (i + 1) = none := by
    rw [prodP, h, Option.bind_some]
    have := powP_none e1 ((f i).e.toNat - (j + 1))
    rw [show j + 1 + ((f i).e.toNat - (j + 1)) = (f i).e.toNat by omega] at this
    exact this
  have e3 : prodP f n = none := by
    have := prodP_none e2 (n - (i + 1))
    rwa [show i + 1 + (n - (i + 1)) = n by omega] at this
  unfold multV multE
  rw [e3]; exact ⟨rfl, rfl⟩
theorem mult_end {f : Nat → FacR} {a : N4} {n : Nat} (h : prodP f n = some a) : multV f n = a ∧ multE f n = 0 := by
  unfold multV multE
  rw [h]; exact ⟨rfl, rfl⟩
theorem badF_lt {f : Nat → FacR} {i n : Nat} (h : badF f (i + 1) = true) (hi : i < n) : badF f n = true := by
  have : ∀ d, badF f (i + 1 + d) = true := by
    intro d
    induction d with
    | zero => exact h
    | succ d ih => rw [← Nat.add_assoc, badF, ih]; rfl
  have := this (n - (i + 1))
  rwa [show i + 1 + (n - (i + 1)) = n by omega] at this
theorem badF_step {f : Nat → FacR} {i : Nat} (h : badF f i = false) (h2 : (selB (decide ((f i).e < 1)) true (decide ((f i).e > 255))) = false) : badF f (i + 1) = false := by rw [badF, h]; exact h2
theorem badF_out {f : Nat → FacR} {i n : Nat} (hi : i < n) (h2 : (selB (decide ((f i).e < 1)) true (decide ((f i).e > 255))) = true) : badF f n = true :=
  badF_lt (i := i) (by rw [badF, h2]; cases badF f i <;> rfl) hi
theorem prod_long {f : Nat → FacR} {n : Nat} (h : 40 < n) : prodV f n = N4.mk 0 0 0 0 ∧ prodE f n = 2 := by
  unfold prodV prodE; rw [if_pos h, if_pos h]; exact ⟨rfl, rfl⟩
theorem prod_bad {f : Nat → FacR} {n : Nat} (h : ¬ 40 < n) (h2 : badF f n = true) : prodV f n = N4.mk 0 0 0 0 ∧ prodE f n = 1 := by
  unfold prodV prodE; rw [if_neg h, if_neg h, if_pos h2, if_pos h2]; exact ⟨rfl, rfl⟩
theorem prod_zero {f : Nat → FacR} {n : Nat} (h : ¬ 40 < n) (h2 : badF f n = false) (h3 : zeroF f n = true) : prodV f n = N4.mk 0 0 0 0 ∧ prodE f n = 0 := by
  unfold prodV prodE; rw [if_neg h, if_neg h, if_neg (show ¬ badF f n = true by simp [h2]), if_neg (show ¬ badF f n = true by simp [h2]), if_pos h3, if_pos h3]; exact ⟨rfl, rfl⟩
theorem prod_mult {f : Nat → FacR} {n : Nat} (h : ¬ 40 < n) (h2 : badF f n = false) (h3 : zeroF f n = false) : prodV f n = multV f n ∧ prodE f n = multE f n := by
  unfold prodV prodE; rw [if_neg h, if_neg h, if_neg (show ¬ badF f n = true by simp [h2]), if_neg (show ¬ badF f n = true by simp [h2]), if_neg (show ¬ zeroF f n = true by simp [h3]), if_neg (show ¬ zeroF f n = true by simp [h3])]; exact ⟨rfl, rfl⟩

/-! ### whether a proof is one -/
def oneN : N4 := N4.mk 1 0 0 0
def quoP (a m : N4) : N4 := N4.ofNat (a.val / m.val)
def ordF (m a n : N4) (f : Nat → FacR) : Nat → Bool
  | 0 => true
  | i + 1 => selB (ordF m a n f i) (!(selB (eq4 (f i).p (N4.mk 1 0 0 0)) true (eq4 (powM m a (quoP n (f i).p)) (N4.mk 1 0 0 0)))) false
def ordB (m a n : N4) (f : Nat → FacR) (k : Nat) : Bool := selB (eq4 (powM m a n) (N4.mk 1 0 0 0)) (ordF m a n f k) false
noncomputable def stepE (r : PrfR) : Int := open Classical in if prodE r.wf r.wn ≠ 0 then prodE r.wf r.wn else if ¬ OddM r.n then 20 else
  if eq4 (prodV r.wf r.wn) (sub4 r.n (N4.mk 1 0 0 0)) = false then 20 else if ordB r.n r.g (sub4 r.n (N4.mk 1 0 0 0)) r.wf r.wn = false then 20 else 0
theorem ordF_lt {m a n : N4} {f : Nat → FacR} {i k : Nat} (h : ordF m a n f (i + 1) = false) (hi : i < k) : ordF m a n f k = false := by
  have : ∀ d, ordF m a n f (i + 1 + d) = false := by
    intro d
    induction d with
    | zero => exact h
    | succ d ih => rw [← Nat.add_assoc, ordF, ih]; rfl
  have := this (k - (i + 1))
  rwa [show i + 1 + (k - (i + 1)) = k by omega] at this

/-! ### whether a list of proofs is one -/
def facIn (L : List N4) (f : Nat → FacR) : Nat → Bool
  | 0 => true
  | k + 1 => selB (facIn L f k) (hasK L (f k).p) false
def knF (f : Nat → PrfR) : Nat → List N4
  | 0 => [N4.mk 2 0 0 0]
  | i + 1 => insK (knF f i) (f i).n
noncomputable def chkF (f : Nat → PrfR) : Nat → Int
  | 0 => 0
  | i + 1 => if chkF f i ≠ 0 then chkF f i else if facIn (knF f i) (f i).wf (f i).wn = false then 20 else stepE (f i)
noncomputable def chkE (q : PrfL) : Int := if 40 < q.ln then 2 else chkF q.lf q.ln
noncomputable def prvE (q : PrfL) (n : N4) : Int := if chkE q ≠ 0 then chkE q else if hasK (knF q.lf q.ln) n = true then 0 else 20
theorem chkF_lt {f : Nat → PrfR} {i n : Nat} {e : Int} (h : chkF f (i + 1) = e) (he : e ≠ 0) (hi : i < n) : chkF f n = e := by
  have : ∀ d, chkF f (i + 1 + d) = e := by
    intro d
    induction d with
    | zero => exact h
    | succ d ih => rw [← Nat.add_assoc, chkF, ih, if_pos he]
  have := this (n - (i + 1))
  rwa [show i + 1 + (n - (i + 1)) = n by omega] at this
theorem facIn_lt {L : List N4} {f : Nat → FacR} {k n : Nat} (h : facIn L f (k + 1) = false) (hk : k < n) : facIn L f n = false := by
  have : ∀ d, facIn L f (k + 1 + d) = false := by
    intro d
    induction d with
    | zero => exact h
    | succ d ih => rw [← Nat.add_assoc, facIn, ih]; rfl
  have := this (n - (k + 1))
  rwa [show k + 1 + (n - (k + 1)) = n by omega] at this
end Go.Eng
namespace Go.Eng
def restP (a m : N4) : N4 := if eq4 m (N4.mk 0 0 0 0) = true then N4.mk 0 0 0 0 else N4.ofNat (a.val % m.val)
def errP (m : N4) : Int := if eq4 m (N4.mk 0 0 0 0) = true then 11 else 0
theorem is_slqTo {P : Program} {t e : TypeId} {x y : Operand} (ht : P.underlying t = some (.slice e)) {sz : Nat} (hs : sizeB P e = some sz) (wa : Option Addr) (len cap i : Nat) (hi : i ≤ cap) : IsOp P (.slice t x none (some y) none) [.slice wa len cap, nat i] (.slice wa i cap) := by
  intro ρ o' ho hv
  rw [ho] at hv
  have hv' : [ρ x, ρ y] = [Value.slice wa len cap, nat i] := hv
  injection hv' with h1 hv'
  injection hv' with h2 _
  unfold execOp
  rw [ho]
  simp only [Option.map]
  show pureRun P (Sem.bind (Instr.sliceAt t (ρ x) none (some (ρ y)) none) fun v => Sem.pure (Next.value v)) = _
  rw [pureRun_bind, h1, h2]
  have hi' : 0 ≤ (i : Int) ∧ (i : Int) ≤ (cap : Int) := by omega
  have e : pureRun P (Instr.sliceAt t (.slice wa len cap) none (some (nat i)) none) = some (.slice wa i cap) := by
    simp only [Instr.sliceAt, Instr.slice, Instr.sliceBounds, Instr.sliceBound, nat, pureRun_bind', asIntOf, pureRun, pure, pureRun_underlying ht, hi', and_self, if_true, pureRun_sizeOf hs, Int.toNat_natCast]
    cases wa <;> simp [Addr.add]
  rw [e]
  rfl
theorem hi_over (h : N4) : (selB (selB (selB (decide (0 < h.a)) true (decide (0 < h.b))) true (decide (0 < h.c))) true (decide (0 < h.d))) = !(eq4 h (N4.mk 0 0 0 0)) := by
  obtain ⟨a, b, c, d⟩ := h
  have key : ∀ x : UInt64, decide (0 < x) = !(x == 0) := fun x => by
    by_cases e : x = 0
    · subst e; rfl
    · have h1 : (x == 0) = false := by simpa using e
      have h2 : 0 < x := by
        rw [UInt64.lt_iff_toNat_lt]
        rcases Nat.eq_zero_or_pos x.toNat with h | h
        · exact absurd (UInt64.toNat_inj.1 h) e
        · exact h
      rw [h1]; simpa using h2
  simp only [key, eq4, selB_or]
  cases a == 0 <;> cases b == 0 <;> cases c == 0 <;> cases d == 0 <;> rfl
end Go.Eng
namespace Go.Eng
theorem ord_no {m a n : N4} {f : Nat → FacR} {k : Nat} (h : (!(eq4 (powM m a n) (N4.mk 1 0 0 0))) = true) : false = ordB m a n f k := by
  unfold ordB
  have : eq4 (powM m a n) (N4.mk 1 0 0 0) = false := by simpa using h
  rw [this]; rfl
theorem ord_out {m a n : N4} {f : Nat → FacR} {i k : Nat} (hi : i < k) (h : (selB (eq4 (f i).p (N4.mk 1 0 0 0)) true (eq4 (powM m a (quoP n (f i).p)) (N4.mk 1 0 0 0))) = true) : false = ordB m a n f k := by
  have h1 : ordF m a n f (i + 1) = false := by rw [ordF, h]; cases ordF m a n f i <;> rfl
  unfold ordB
  rw [ordF_lt h1 hi]
  cases eq4 (powM m a n) (N4.mk 1 0 0 0) <;> rfl
theorem ord_step {m a n : N4} {f : Nat → FacR} {i : Nat} (h1 : ordF m a n f i = true) (h : (selB (eq4 (f i).p (N4.mk 1 0 0 0)) true (eq4 (powM m a (quoP n (f i).p)) (N4.mk 1 0 0 0))) = false) : ordF m a n f (i + 1) = true := by
  rw [ordF, h1, h]; rfl
theorem ord_yes {m a n : N4} {f : Nat → FacR} {k : Nat} (h : (!(eq4 (powM m a n) (N4.mk 1 0 0 0))) = false) (h1 : ordF m a n f k = true) : true = ordB m a n f k := by
  unfold ordB
  have : eq4 (powM m a n) (N4.mk 1 0 0 0) = true := by simpa using h
  rw [this, h1]; rfl
theorem or_skip {a b c : Bool} (h : a = false) (h2 : selB a true b = c) : b = c := by subst h; exact h2
theorem step_prod {r : PrfR} (h : (((prodE r.wf r.wn) : Int) != 0) = true) : stepE r = prodE r.wf r.wn := by
  unfold stepE; rw [if_pos (by simpa using h)]
theorem step_even {r : PrfR} (h : (((prodE r.wf r.wn) : Int) != 0) = false) (h2 : ¬ OddM r.n) : stepE r = 20 := by
  unfold stepE; rw [if_neg (by simpa using h), if_pos h2]
theorem step_less {r : PrfR} (h : (((prodE r.wf r.wn) : Int) != 0) = false) (h2 : OddM r.n) (h3 : (!(eq4 (prodV r.wf r.wn) (sub4 r.n (N4.mk 1 0 0 0)))) = true) : stepE r = 20 := by
  unfold stepE; rw [if_neg (by simpa using h), if_neg (fun h => h h2), if_pos (by simpa using h3)]
theorem step_ord {r : PrfR} (h : (((prodE r.wf r.wn) : Int) != 0) = false) (h2 : OddM r.n) (h3 : (!(eq4 (prodV r.wf r.wn) (sub4 r.n (N4.mk 1 0 0 0)))) = false) (h4 : (!(ordB r.n r.g (sub4 r.n (N4.mk 1 0 0 0)) r.wf r.wn)) = true) : stepE r = 20 := by
  unfold stepE; rw [if_neg (by simpa using h), if_neg (fun h => h h2), if_neg (by simpa using h3), if_pos (by simpa using h4)]
theorem step_ok {r : PrfR} (h : (((prodE r.wf r.wn) : Int) != 0) = false) (h2 : OddM r.n) (h3 : (!(eq4 (prodV r.wf r.wn) (sub4 r.n (N4.mk 1 0 0 0)))) = false) (h4 : (!(ordB r.n r.g (sub4 r.n (N4.mk 1 0 0 0)) r.wf r.wn)) = false) : stepE r = 0 := by
  unfold stepE; rw [if_neg (by simpa using h), if_neg (fun h => h h2), if_neg (by simpa using h3), if_neg (by simpa using h4)]
theorem stepE_pos {r : PrfR} : 0 ≤ stepE r ∧ stepE r ≤ 20 := by
  unfold stepE prodE multE
  repeat' split
  all_goals omega
theorem chk_has {f : Nat → PrfR} {i k : Nat} {L : List N4} (h0 : chkF f i = 0) (hL : L = knF f i) (hk : k < (f i).wn) (h : (!(hasK L ((f i).wf k).p)) = true) : chkF f (i + 1) = 20 := by
  have e : facIn (knF f i) (f i).wf (k + 1) = false := by
    rw [facIn, ← hL]
    have : hasK L ((f i).wf k).p = false := by simpa using h
    rw [this]; cases facIn L (f i).wf k <;> rfl
  rw [chkF, if_neg (by rw [h0]; simp), if_pos (facIn_lt e hk)]
theorem chk_fac {f : Nat → PrfR} {i : Nat} {L : List N4} (h0 : chkF f i = 0) (hL : L = knF f i) (h1 : facIn L (f i).wf (f i).wn = true) : chkF f (i + 1) = stepE (f i) := by
  rw [chkF, if_neg (by rw [h0]; simp), if_neg (by rw [← hL, h1]; simp)]
theorem fac_step {L : List N4} {f : Nat → FacR} {k : Nat} (h1 : facIn L f k = true) (h : (!(hasK L (f k).p)) = false) : facIn L f (k + 1) = true := by
  rw [facIn, h1]
  have : hasK L (f k).p = true := by simpa using h
  rw [this]; rfl
theorem chk_long {q : PrfL} (h : 40 < q.ln) : chkE q = 2 := if_pos h
theorem chk_at {q : PrfL} {i : Nat} {e : Int} (h : ¬ 40 < q.ln) (h1 : chkF q.lf (i + 1) = e) (he : e ≠ 0) (hi : i < q.ln) : chkE q = e := by
  unfold chkE; rw [if_neg h]; exact chkF_lt h1 he hi
theorem chk_end {q : PrfL} (h : ¬ 40 < q.ln) (h1 : chkF q.lf q.ln = 0) : chkE q = 0 := by unfold chkE; rw [if_neg h]; exact h1
theorem bne0 {x : Int} (h : (x != 0) = true) : x ≠ 0 := by simpa using h
theorem beq0 {x : Int} (h : (x != 0) = false) : x = 0 := by simpa using h
/-- What is fine has no fault on its way. -/
theorem good_short {q : PrfL} (hg : chkE q = 0) : ¬ 40 < q.ln := fun h => by rw [chk_long h] at hg; cases hg
theorem good_at {q : PrfL} (hg : chkE q = 0) {i : Nat} (hi : i < q.ln) : chkF q.lf (i + 1) = 0 := by
  rcases Decidable.em (chkF q.lf (i + 1) = 0) with h | h
  · exact h
  · exact absurd ((chk_at (good_short hg) rfl h hi).symm.trans hg) h
theorem good_has {q : PrfL} (hg : chkE q = 0) {i k : Nat} {L : List N4} (hi : i < q.ln) (h0 : chkF q.lf i = 0) (hL : L = knF q.lf i) (hk : k < (q.lf i).wn) : (!(hasK L ((q.lf i).wf k).p)) = false := by
  cases h : (!(hasK L ((q.lf i).wf k).p)) with
  | false => rfl
  | true => have := chk_has h0 hL hk h; rw [good_at hg hi] at this; cases this
theorem good_step {q : PrfL} (hg : chkE q = 0) {i : Nat} {L : List N4} (hi : i < q.ln) (h0 : chkF q.lf i = 0) (hL : L = knF q.lf i) (h1 : facIn L (q.lf i).wf (q.lf i).wn = true) : (((stepE (q.lf i)) : Int) != 0) = false := by
  have := chk_fac h0 hL h1
  rw [good_at hg hi] at this
  rw [← this]; rfl
theorem bad_on {q : PrfL} (hg : ¬ chkE q = 0) (h : ¬ 40 < q.ln) {i : Nat} (hi : i ≤ q.ln) (h0 : chkF q.lf i = 0) : i < q.ln := by
  rcases Nat.lt_or_ge i q.ln with h2 | h2
  · exact h2
  · have e : i = q.ln := by omega
    rw [e] at h0
    exact absurd (chk_end h h0) hg
theorem prv_bad {q : PrfL} {n : N4} (h : ¬ chkE q = 0) : prvE q n = chkE q := if_pos h
theorem prv_no {q : PrfL} {n : N4} (hg : chkE q = 0) (h : (!(hasK (knF q.lf q.ln) n)) = true) : prvE q n = 20 := by
  unfold prvE; rw [if_neg (by simp [hg]), if_neg (by simpa using h)]
theorem prv_yes {q : PrfL} {n : N4} (hg : chkE q = 0) (h : (!(hasK (knF q.lf q.ln) n)) = false) : prvE q n = 0 := by
  unfold prvE; rw [if_neg (by simp [hg]), if_pos (by simpa using h)]
theorem has_ins (l : List N4) (k n : N4) : hasK (insK l k) n = (hasK l n || eq4 k n) := by
  unfold insK
  cases h : hasK l k with
  | true =>
    simp only
    cases h2 : eq4 k n with
    | false => simp
    | true => have := eq4_eq h2; subst this; simp [h]
  | false =>
    simp only [hasK, List.any_append, List.any_cons, List.any_nil, Bool.or_false]
    have : eq4 n k = eq4 k n := by
      cases h2 : eq4 k n with
      | true => have := eq4_eq h2; subst this; exact h2
      | false =>
        cases h3 : eq4 n k with
        | false => rfl
        | true => have := eq4_eq h3; subst this; rw [h3] at h2; cases h2
    rw [this]
theorem kn_two {n : N4} {f : Nat → PrfR} (h : eq4 n (N4.mk 2 0 0 0) = true) : ∀ i, hasK (knF f i) n = true
  | 0 => by have := eq4_eq h; subst this; rfl
  | i + 1 => by rw [knF, has_ins, kn_two h i]; rfl
theorem kn_zero {n : N4} {f : Nat → PrfR} (h : eq4 n (N4.mk 2 0 0 0) = false) : hasK (knF f 0) n = false := by
  simp [knF, hasK, h]
theorem kn_no {n : N4} {f : Nat → PrfR} {i : Nat} (h : hasK (knF f i) n = false) (h2 : eq4 (f i).n n = false) : hasK (knF f (i + 1)) n = false := by rw [knF, has_ins, h, h2]; rfl
theorem kn_on {n : N4} {f : Nat → PrfR} {i : Nat} (h : hasK (knF f i) n = true) : ∀ d, hasK (knF f (i + d)) n = true
  | 0 => h
  | d + 1 => by rw [← Nat.add_assoc, knF, has_ins, kn_on h d]; rfl
theorem kn_yes {n : N4} {f : Nat → PrfR} {i m : Nat} (hi : i < m) (h2 : eq4 (f i).n n = true) : hasK (knF f m) n = true := by
  have h : hasK (knF f (i + 1)) n = true := by rw [knF, has_ins, h2]; cases hasK (knF f i) n <;> rfl
  have := kn_on h (m - (i + 1))
  rwa [show i + 1 + (m - (i + 1)) = m by omega] at this
def shF (f : Nat → PrfR) : Nat → Bool
  | 0 => true
  | i + 1 => selB (shF f i) (!(selB (decide (8 < (f i).wn)) (decide ((f i).wn ≤ 40)) false)) false
def shortB (q : PrfL) : Bool := selB (selB (decide (8 < q.ln)) (decide (q.ln ≤ 40)) false) false (shF q.lf (if q.ln < 9 then q.ln else 9))
theorem sh_lt {f : Nat → PrfR} {i k : Nat} (h : (selB (decide (8 < (f i).wn)) (decide ((f i).wn ≤ 40)) false) = true) (hi : i < k) : shF f k = false := by
  have h1 : shF f (i + 1) = false := by rw [shF, h]; cases shF f i <;> rfl
  have : ∀ d, shF f (i + 1 + d) = false := by
    intro d
    induction d with
    | zero => exact h1
    | succ d ih => rw [← Nat.add_assoc, shF, ih]; rfl
  have := this (k - (i + 1))
  rwa [show i + 1 + (k - (i + 1)) = k by omega] at this
theorem sh_no {q : PrfL} (h : (selB (decide (8 < q.ln)) (decide (q.ln ≤ 40)) false) = true) : false = shortB q := by unfold shortB; rw [h]; rfl
theorem sh_out {q : PrfL} {i : Nat} (h0 : (selB (decide (8 < q.ln)) (decide (q.ln ≤ 40)) false) = false) (hi : i < q.ln) (hi9 : i < 9) (h : (selB (decide (8 < (q.lf i).wn)) (decide ((q.lf i).wn ≤ 40)) false) = true) : false = shortB q := by
  unfold shortB; rw [h0, sh_lt h (by split <;> omega)]; rfl
theorem sh_step {f : Nat → PrfR} {i : Nat} (h1 : shF f i = true) (h : (selB (decide (8 < (f i).wn)) (decide ((f i).wn ≤ 40)) false) = false) : shF f (i + 1) = true := by rw [shF, h1, h]; rfl
theorem sh_end {q : PrfL} {i : Nat} (h0 : (selB (decide (8 < q.ln)) (decide (q.ln ≤ 40)) false) = false) (h1 : shF q.lf i = true) (hi : i ≤ q.ln) (hi9 : i ≤ 9) (h : (selB (decide (i < q.ln)) (decide (i < 9)) false) = false) : true = shortB q := by
  unfold shortB; rw [h0]
  have e : (if q.ln < 9 then q.ln else 9) = i := by
    simp [selB_and] at h
    split <;> omega
  rw [e, h1]; rfl
end Go.Eng
namespace Go.Eng
theorem RunsF.over {F F' : Blk → Prop} {P : Program} {f : FuncId} {args : List Value} {bs : List Blk} {k : Nat} {v : List Nat → Value} {out : List Nat → List (Option Blk)} (hs : ∀ b, F b → ∃ b', F' b' ∧ b.name = b'.name ∧ b.own = b'.own ∧ ∀ w : World, Holds b' w → Holds b w) (h : RunsF F P f args bs k v out) : RunsF F' P f args bs k v out :=
  fun w hb ha hF => h w hb ha fun b hb' => by
    obtain ⟨b', h1, h2, h3, h4⟩ := hs b hb'
    obtain ⟨k1, k2, k3⟩ := hF b' h1
    exact ⟨h4 w k1, h3.trans k2, by rw [h2]; exact k3⟩
theorem famL_cut {q : PrfL} {k : Nat} (h : k ≤ q.ln) (b : Blk) (hb : famL { q with ln := k } b) : ∃ b', famL q b' ∧ b.name = b'.name ∧ b.own = b'.own ∧ ∀ w : World, Holds b' w → Holds b w := by
  rcases hb with ⟨h1, rfl⟩ | ⟨j, h1, h2⟩
  · refine ⟨lisB q, .inl ⟨Nat.lt_of_lt_of_le h1 h, rfl⟩, rfl, rfl, fun w hw => ?_⟩
    refine hw.recont (c := tabR k q.lf) rfl fun o v ho => ?_
    by_cases hol : o < k * 9
    · have h2 : k * 9 ≤ q.ln * 9 := Nat.mul_le_mul_right _ h
      rw [tabR, tabE_in (sz := 9) (by decide) (fun _ _ => rfl) hol] at ho
      show (tabR q.ln q.lf).get o = some v
      rw [tabR, tabE_in (sz := 9) (by decide) (fun _ _ => rfl) (by omega)]
      exact ho
    · rw [tabR, tabE_out hol] at ho; cases ho
  · exact ⟨b, .inr ⟨j, Nat.lt_of_lt_of_le h1 h, h2⟩, rfl, rfl, fun _ h => h⟩
theorem okl_cut {q : PrfL} {k : Nat} (h : k ≤ q.ln) (hq : OkL q) : OkL { q with ln := k } := ⟨Nat.le_trans h hq.cap, fun h0 => hq.ad (Nat.lt_of_lt_of_le h0 h), Nat.le_trans h hq.len, hq.prf⟩
theorem step_pow {r : PrfR} (h : (((prodE r.wf r.wn) : Int) != 0) = false) (h2 : OddM r.n) (h3 : (!(eq4 (powM r.n r.g (sub4 r.n (N4.mk 1 0 0 0))) (N4.mk 1 0 0 0))) = true) : stepE r = 20 := by
  cases h4 : (!(eq4 (prodV r.wf r.wn) (sub4 r.n (N4.mk 1 0 0 0)))) with
  | true => exact step_less h h2 h4
  | false => exact step_ord h h2 h4 (by rw [← ord_no h3]; rfl)
theorem step_out {r : PrfR} {i : Nat} (h : (((prodE r.wf r.wn) : Int) != 0) = false) (h2 : OddM r.n) (hi : i < r.wn) (h3 : (selB (eq4 (r.wf i).p (N4.mk 1 0 0 0)) true (eq4 (powM r.n r.g (quoP (sub4 r.n (N4.mk 1 0 0 0)) (r.wf i).p)) (N4.mk 1 0 0 0))) = true) : stepE r = 20 := by
  cases h4 : (!(eq4 (prodV r.wf r.wn) (sub4 r.n (N4.mk 1 0 0 0)))) with
  | true => exact step_less h h2 h4
  | false => exact step_ord h h2 h4 (by rw [← ord_out hi h3]; rfl)
theorem step_yes {r : PrfR} (h : (((prodE r.wf r.wn) : Int) != 0) = false) (h2 : OddM r.n) (h3 : (!(eq4 (prodV r.wf r.wn) (sub4 r.n (N4.mk 1 0 0 0)))) = false) (h4 : (!(eq4 (powM r.n r.g (sub4 r.n (N4.mk 1 0 0 0))) (N4.mk 1 0 0 0))) = false)
    (h5 : ordF r.n r.g (sub4 r.n (N4.mk 1 0 0 0)) r.wf r.wn = true) : stepE r = 0 := step_ok h h2 h3 (by rw [← ord_yes h4 h5]; rfl)
theorem fac_pow {m g n : N4} {r : FacR} (h : eq4 (powM m g (quoP n r.p)) (N4.mk 1 0 0 0) = true) : (selB (eq4 r.p (N4.mk 1 0 0 0)) true (eq4 (powM m g (quoP n r.p)) (N4.mk 1 0 0 0))) = true := by
  rw [h]; cases eq4 r.p (N4.mk 1 0 0 0) <;> rfl
theorem cmp4_val (x y : N4) : cmp4 x y < 0 ↔ x.val < y.val := by
  rw [cmp4_eq]; unfold ord
  split
  · simp_all
  · split <;> simp_all
theorem fac_small {m g n : N4} {r : FacR} (hm : OddM m) (h : cmp4 r.p (N4.mk 2 0 0 0) < 0) : (selB (eq4 r.p (N4.mk 1 0 0 0)) true (eq4 (powM m g (quoP n r.p)) (N4.mk 1 0 0 0))) = true := by
  rw [cmp4_val] at h
  have h2 : r.p.val < 2 := h
  rcases (show r.p.val = 0 ∨ r.p.val = 1 by omega) with h0 | h1
  · have e : powM m g (quoP n r.p) = N4.mk 1 0 0 0 := by
      apply N4.ext_val
      rw [powM_val hm]
      have : (quoP n r.p).val = 0 := by unfold quoP; rw [h0, Nat.div_zero]; rfl
      rw [this, Nat.pow_zero, Nat.mod_eq_of_lt hm.big]; rfl
    rw [e]; cases eq4 r.p (N4.mk 1 0 0 0) <;> rfl
  · have e : eq4 r.p (N4.mk 1 0 0 0) = true := (eq4_iff _ _).2 (N4.ext_val h1)
    rw [e]; rfl
theorem fac_big {r : FacR} (h : ¬ cmp4 r.p (N4.mk 2 0 0 0) < 0) : eq4 r.p (N4.mk 1 0 0 0) = false := by
  cases e : eq4 r.p (N4.mk 1 0 0 0) with
  | false => rfl
  | true =>
    rw [cmp4_val, eq4_eq e] at h
    exact absurd (by decide) h
theorem rord_step {m a n : N4} {f : Nat → FacR} {i : Nat} (h1 : ordF m a n f i = true) (h2 : eq4 (f i).p (N4.mk 1 0 0 0) = false) (h : eq4 (powM m a (quoP n (f i).p)) (N4.mk 1 0 0 0) = false) : ordF m a n f (i + 1) = true := ord_step h1 (by rw [h2, h]; rfl)
theorem rstep_odd_c {m : N4} (hm : OddM m) : (selB (m.a % 2 == 0) true (decide ((cmp4 m (N4.mk 3 0 0 0)) < 0))) = false := by
  have h1 := low0_odd hm
  have h2 : ¬ cmp4 m (N4.mk 3 0 0 0) < 0 := by
    rw [cmp4_val]
    have h3 : (N4.mk 3 0 0 0).val = 3 := rfl
    have := hm.big; have := hm.odd
    omega
  rw [h1]; show decide _ = false; simpa using h2
theorem rstep_evn_c {m : N4} (hm : ¬ OddM m) : (selB (m.a % 2 == 0) true (decide ((cmp4 m (N4.mk 3 0 0 0)) < 0))) = true := by
  cases h : m.a % 2 == 0 with
  | true => rfl
  | false =>
    have h3 : (N4.mk 3 0 0 0).val = 3 := rfl
    show decide (cmp4 m (N4.mk 3 0 0 0) < 0) = true
    rw [decide_eq_true_eq, cmp4_val, h3]
    have ho : m.val % 2 = 1 := by
      have h1 := low_even m
      have h2 : ¬ (m.a % 2).toNat = 0 := fun e => by
        have : m.a % 2 = 0 := UInt64.toNat_inj.1 e
        rw [this] at h; cases h
      omega
    rcases Nat.lt_or_ge m.val 3 with h4 | h4
    · exact h4
    · exact absurd ⟨ho, by omega⟩ hm
end Go.Eng
