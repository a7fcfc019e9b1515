/-
  Layer 5: in which order powers are multiplied; a product in two parts; slices of numbers from a place on.
-/
import Derived.Test.YtikfnopccneijaaGroupFew
namespace Go.Eng
set_option linter.unusedSimpArgs false
set_option linter.unusedVariables false
set_option maxRecDepth 100000
open Go.RowKit Go.WideShapes Go.ChangeShapes Go.ChangeAt Go.Deep

def fromA (a : Option Addr) (cap i sz : Nat) : Option Addr := if cap = i then a else a.map (·.add (i * sz))
theorem is_slqFrom {P : Program} {t e : TypeId} {x y : Operand} (ht : P.underlying t = some (.slice e)) {sz : Nat} (hs : sizeB P e = some sz) (wa : Option Addr) (len cap i : Nat) (hi : i ≤ len ∧ len ≤ cap) : IsOp P (.slice t x (some y) none none) [.slice wa len cap, nat i] (.slice (fromA wa cap i sz) (len - i) (cap - i)) := by
  intro ρ o' ho hv
  rw [ho] at hv
  have hv' : [ρ x, ρ y] = [Value.slice wa len cap, nat i] := hv
  injection hv' with h1 hv'
  injection hv' with h2 _
  unfold execOp
  rw [ho]
  simp only [Option.map]
  show pureRun P (Sem.bind (Instr.sliceAt t (ρ x) (some (ρ y)) none none) fun v => Sem.pure (Next.value v)) = _
  rw [pureRun_bind, h1, h2]
  have hi' : 0 ≤ (i : Int) ∧ (i : Int) ≤ (len : Int) := by omega
  have e : pureRun P (Instr.sliceAt t (.slice wa len cap) (some (nat i)) none none) = some (.slice (fromA wa cap i sz) (len - i) (cap - i)) := by
    simp only [Instr.sliceAt, Instr.slice, Instr.sliceBounds, Instr.sliceBound, nat, pureRun_bind', asIntOf, pureRun, pure, pureRun_underlying ht, hi', and_self, if_true, pureRun_sizeOf hs, Int.toNat_natCast]
    rfl
  rw [e]
  rfl
/-- Parts of a slice of numbers. -/
def cutT (x : NumL) (k : Nat) : NumL := ⟨x.la, k, x.lc, x.lb, x.lo, x.lf⟩
def cutF (x : NumL) (k : Nat) : NumL := ⟨fromA x.la x.lc k 4, x.ln - k, x.lc - k, x.lb, x.lo + k * 4, fun i => x.lf (i + k)⟩
def ownN (nm n c : Nat) (f : Nat → N4) : NumL := ⟨some ⟨nm, 0, none⟩, n, c, nm, 0, f⟩
def nilN : NumL := ⟨none, 0, 0, 0, 0, fun _ => N4.mk 0 0 0 0⟩
def revN (f : Nat → N4) (n : Nat) : Nat → N4 := fun k => f (n - 1 - k)
theorem okn_to {x : NumL} {k : Nat} (h : OkN x) (hk : k ≤ x.ln) : OkN (cutT x k) := ⟨Nat.le_trans hk h.cap, fun h0 => h.ad (Nat.lt_of_lt_of_le h0 hk), Nat.le_trans hk h.len⟩
theorem okn_from {x : NumL} {k : Nat} (h : OkN x) (hk : k ≤ x.ln) : OkN (cutF x k) := ⟨Nat.sub_le_sub_right h.cap k, fun h0 => by
  have h1 : 0 < x.ln - k := h0
  show fromA x.la x.lc k 4 = some ⟨x.lb, x.lo + k * 4, none⟩
  have hc := h.cap
  unfold fromA
  rw [if_neg (by omega), h.ad (by omega)]
  simp [add_none], Nat.le_trans (Nat.sub_le _ _) h.len⟩
theorem okn_own {nm n c : Nat} {f : Nat → N4} (h1 : n ≤ c) (h2 : n ≤ 9223372036854775807) : OkN (ownN nm n c f) := ⟨h1, fun _ => rfl, h2⟩
theorem okn_nil : OkN nilN := ⟨Nat.le_refl _, fun h => absurd h (Nat.lt_irrefl 0), by simp [nilN]⟩
theorem tabN_less {nm o n k : Nat} {f : Nat → N4} {w : World} (h : Holds ⟨nm, false, o, tabN n f⟩ w) (hk : k ≤ n) : Holds ⟨nm, false, o, tabN k f⟩ w :=
  h.recont rfl fun j v hj => by
    by_cases hl : j < k * 4
    · rw [Cont.get_tab hl] at hj
      rw [show (Blk.cont ⟨nm, false, o, tabN n f⟩) = tabN n f from rfl, Cont.get_tab (by omega)]; exact hj
    · rw [Cont.get_tab_out hl] at hj; cases hj
theorem tabN_tail {nm o n k : Nat} {f : Nat → N4} {w : World} (h : Holds ⟨nm, false, o, tabN n f⟩ w) (hk : k ≤ n) : Holds ⟨nm, false, o + k * 4, tabN (n - k) fun i => f (i + k)⟩ w := by
  have key : ∀ j v, (tabN (n - k) fun i => f (i + k)).get j = some v → (tabN n f).get (k * 4 + j) = some v := fun j v hj => by
    by_cases hl : j < (n - k) * 4
    · rw [Cont.get_tab hl] at hj
      rw [Cont.get_tab (by omega), show (k * 4 + j) / 4 = j / 4 + k by omega, show (k * 4 + j) % 4 = j % 4 by omega]; exact hj
    · rw [Cont.get_tab_out hl] at hj; cases hj
  refine ⟨h.lt, fun j v hj => ?_, (fun hb => by cases hb), obj_not rfl⟩
  have := h.cell (k * 4 + j) v (key j v hj)
  show w.cell? ⟨nm, o + k * 4 + j, none⟩ = some v
  rw [Nat.add_assoc]; exact this
def FamH (F : Blk → Prop) (w : World) : Prop := ∀ b, F b → Holds b w ∧ b.own = false
theorem hold_own {nm n c : Nat} {f : Nat → N4} {w : World} (h : Holds ⟨nm, false, 0, tabN n f⟩ w) : FamH (famN (ownN nm n c f)) w := fun b hb => by
  obtain ⟨_, rfl⟩ := hb
  exact ⟨h, rfl⟩
theorem hold_nil {w : World} : FamH (famN nilN) w := fun b hb => absurd hb.1 (Nat.lt_irrefl 0)
theorem hold_two {x y : NumL} {w : World} (hx : FamH (famN x) w) (hy : FamH (famN y) w) : FamH (fam2 x y) w := fun b hb => by
  rcases hb with hb | hb
  · exact hx b hb
  · exact hy b hb
theorem hold_x {x y : NumL} {w : World} (h : FamH (fam2 x y) w) : FamH (famN x) w := fun b hb => h b (.inl hb)
theorem hold_y {x y : NumL} {w : World} (h : FamH (fam2 x y) w) : FamH (famN y) w := fun b hb => h b (.inr hb)
theorem hold_to {x : NumL} {k : Nat} {w : World} (hk : k ≤ x.ln) (h : FamH (famN x) w) : FamH (famN (cutT x k)) w := fun b hb => by
  obtain ⟨h0, rfl⟩ := hb
  have h1 : 0 < k := h0
  obtain ⟨h2, _⟩ := h (numB x) ⟨by omega, rfl⟩
  refine ⟨tabN_less h2 hk, rfl⟩
theorem hold_from {x : NumL} {k : Nat} {w : World} (hk : k ≤ x.ln) (h : FamH (famN x) w) : FamH (famN (cutF x k)) w := fun b hb => by
  obtain ⟨h0, rfl⟩ := hb
  have h1 : 0 < x.ln - k := h0
  obtain ⟨h2, _⟩ := h (numB x) ⟨by omega, rfl⟩
  refine ⟨tabN_tail h2 hk, rfl⟩
/-- A call that only reads: blocks are lent, and a family that follows from what is known. -/
theorem RunsF.lendS {F F' : Blk → Prop} {P : Program} {f : FuncId} {args : List Value} {bs cs : List Blk} {v : Value} (h : RunsF F P f args bs 0 (fun _ => v) (fun _ => bs.map some))
    (hF : ∀ w : World, FamH F' w → (∀ b ∈ cs, Holds b w) → FamH F w) (hb : ∀ b ∈ bs ++ cs, b.own = false) : RunsF F' P f args (bs ++ cs) 0 (fun _ => v) (fun _ => noneL (bs ++ cs)) := by
  intro w hm ha hF'
  have hno : ∀ (l : List Blk) k, (∀ b ∈ l, b.own = false) → ¬ Owns (listMem (l.map some)) k := fun l k hl ⟨p, b, h1, h2, _⟩ => by
    have := hl b (List.mem_of_getElem? (listMem_some.1 h1))
    rw [h2] at this; cases this
  have hbs : ∀ b ∈ bs, b.own = false := fun b hb' => hb b (by simp [hb'])
  have hw := hF w (fun b hb' => ⟨(hF' b hb').1, (hF' b hb').2.1⟩) (fun b hb' => hm b (by simp [hb']))
  refine Calls.mono (h w (fun b hb' => hm b (by simp [hb'])) (fun p q b c _ hpb _ ho => ?_) (fun b hFb => ⟨(hw b hFb).1, (hw b hFb).2, hno bs _ hbs⟩)) ?_
  · have := hbs b (List.mem_of_getElem? (listMem_some.1 hpb))
    rw [ho] at this; cases this
  · rintro e w' ⟨ns, hns, he, hp⟩
    refine ⟨ns, hns, he, ⟨fun p b hpb => absurd hpb (noneL_get _ _ _), fun p q b c _ hpb _ _ => absurd hpb (noneL_get _ _ _), ⟨hp.adv.os, hp.adv.output, hp.adv.tape, hp.adv.size, fun k hk _ => hp.adv.heap k hk (hno bs k hbs), fun k ⟨p, b, h1, _, _⟩ => absurd h1 (noneL_get _ _ _), fun p b hpb _ => absurd hpb (noneL_get _ _ _)⟩⟩⟩
/- Products. -/
def prodG (f : Nat → Nat) : Nat → Nat
  | 0 => 1
  | k + 1 => prodG f k * f k
theorem prodG_split (f : Nat → Nat) (a : Nat) : ∀ b, prodG f (a + b) = prodG f a * prodG (fun i => f (i + a)) b
  | 0 => by simp [prodG]
  | b + 1 => by
    show prodG f (a + b) * f (a + b) = prodG f a * (prodG (fun i => f (i + a)) b * f (b + a))
    rw [prodG_split f a b, Nat.mul_assoc, Nat.add_comm a b]
theorem prodG_congr {f g : Nat → Nat} : ∀ {n : Nat}, (∀ i, i < n → f i = g i) → prodG f n = prodG g n
  | 0, _ => rfl
  | n + 1, h => by rw [prodG, prodG, prodG_congr (fun i hi => h i (by omega)), h n (by omega)]
theorem prodG_rev (f : Nat → Nat) : ∀ n, prodG (fun i => f (n - 1 - i)) n = prodG f n
  | 0 => rfl
  | n + 1 => by
    rw [show n + 1 = 1 + n by omega, prodG_split, show prodG f (1 + n) = prodG f n * f n by rw [Nat.add_comm]; rfl]
    rw [← prodG_rev f n, Nat.mul_comm]
    congr 1
    · exact prodG_congr fun i hi => by congr 1; omega
    · show 1 * f (1 + n - 1 - 0) = f n
      rw [Nat.one_mul]; congr 1; omega
theorem mulL_val {P : N4} (hP : OddM P) {l n : Nat → N4} : ∀ k, (mulL P l n k).val = prodG (fun i => (l i).val ^ (n i).val) k % P.val
  | 0 => by show (N4.mk 1 0 0 0).val = 1 % P.val; rw [Nat.mod_eq_of_lt hP.big]; rfl
  | k + 1 => by
    rw [mulL, timesM_val hP, mulL_val hP k, powM_val hP, ← Nat.mul_mod]; rfl
theorem mulL_rev {P : N4} (hP : OddM P) {l n : Nat → N4} (k : Nat) : mulL P (revN l k) (revN n k) k = mulL P l n k := N4.ext_val (by
  rw [mulL_val hP, mulL_val hP]
  exact congrArg (· % P.val) (prodG_rev (fun i => (l i).val ^ (n i).val) k))
theorem mulL_cut {P : N4} (hP : OddM P) {l n : Nat → N4} {k m : Nat} (h : k ≤ m) : timesM P (mulL P l n k) (mulL P (fun i => l (i + k)) (fun i => n (i + k)) (m - k)) = mulL P l n m := N4.ext_val (by
  rw [timesM_val hP, mulL_val hP, mulL_val hP, mulL_val hP, ← Nat.mul_mod]
  have := prodG_split (fun i => (l i).val ^ (n i).val) k (m - k)
  rw [show k + (m - k) = m by omega] at this
  rw [this])
theorem allM_iff {P Q : N4} {l : Nat → N4} : ∀ {n : Nat}, allM P Q l n = true ↔ ∀ i, i < n → memB P Q (l i) = true
  | 0 => ⟨fun _ i hi => absurd hi (by omega), fun _ => rfl⟩
  | n + 1 => by
    rw [allM, selB_and, Bool.and_eq_true, allM_iff (n := n)]
    constructor
    · rintro ⟨h1, h2⟩ i hi
      rcases (show i < n ∨ i = n by omega) with h | rfl
      · exact h1 i h
      · exact h2
    · intro h
      exact ⟨fun i hi => h i (by omega), h n (by omega)⟩
theorem allM_rev {P Q : N4} {l : Nat → N4} {n : Nat} : allM P Q (revN l n) n = allM P Q l n := by
  refine bool_iff ?_
  rw [allM_iff, allM_iff]
  constructor
  · intro h i hi
    have := h (n - 1 - i) (by omega)
    unfold revN at this
    rwa [show n - 1 - (n - 1 - i) = i by omega] at this
  · intro h i hi
    exact h _ (by omega)
theorem allM_cut {P Q : N4} {l : Nat → N4} {k m : Nat} (h : k ≤ m) : allM P Q l m = (allM P Q l k && allM P Q (fun i => l (i + k)) (m - k)) := by
  refine bool_iff ?_
  rw [Bool.and_eq_true, allM_iff, allM_iff, allM_iff]
  constructor
  · intro h1
    exact ⟨fun i hi => h1 i (by omega), fun i hi => h1 _ (by omega)⟩
  · rintro ⟨h1, h2⟩ i hi
    rcases Nat.lt_or_ge i k with h3 | h3
    · exact h1 i h3
    · have := h2 (i - k) (by omega)
      rwa [show i - k + k = i by omega] at this
theorem mem_one {P Q : N4} (hP : OddM P) : memB P Q (N4.mk 1 0 0 0) = true := by
  rw [memB_iff hP, one_v, Nat.one_pow]
  exact ⟨⟨by omega, hP.big⟩, Nat.mod_eq_of_lt hP.big⟩
theorem mem_times {P Q a b : N4} (hP : OddM P) (hQ : 0 < Q.val) (ha : memB P Q a = true) (hb : memB P Q b = true) : memB P Q (timesM P a b) = true := by
  obtain ⟨_, h1⟩ := (memB_iff hP).1 ha
  obtain ⟨_, h2⟩ := (memB_iff hP).1 hb
  have h3 : (a.val * b.val) ^ Q.val % P.val = 1 := by
    rw [Nat.mul_pow, Nat.mul_mod, h1, h2, Nat.one_mul, Nat.mod_eq_of_lt hP.big]
  rw [memB_iff hP, timesM_val hP]
  refine ⟨⟨?_, Nat.mod_lt _ hP.pos⟩, ?_⟩
  · have := pow_pos_mod hP.big hQ h3 1
    rwa [Nat.pow_one] at this
  · rw [← Nat.pow_mod]; exact h3
theorem mem_mulL {P Q : N4} (hP : OddM P) (hQ : 0 < Q.val) {l n : Nat → N4} : ∀ {k : Nat}, allM P Q l k = true → memB P Q (mulL P l n k) = true
  | 0, _ => mem_one hP
  | k + 1, h => by
    have h1 := allM_iff.1 h
    exact mem_times hP hQ (mem_mulL hP hQ (allM_iff.2 fun i hi => h1 i (by omega))) (pow_mem hP hQ (h1 k (by omega)) _)
theorem multi_e {P Q : N4} {l n : Nat → N4} {m : Nat} (h : m ≤ 40) : multiV P Q l n m m = (if allM P Q l m = true then mulL P l n m else N4.mk 0 0 0 0) ∧ multiE P Q l m m = if allM P Q l m = true then 0 else 22 := by
  unfold multiV multiE
  have : ¬ (m ≠ m ∨ 40 < m) := by omega
  rw [if_neg this, if_neg this]; exact ⟨rfl, rfl⟩
theorem turnedG_no {P Q G : N4} {x y : NumL} {k : Nat} (hk : k ≤ x.ln) (h6 : x.ln ≤ 6) (hy : y.ln = x.ln) (h : (multiE P Q x.lf x.ln y.ln != 0) = true) :
    (selB (selB true ((multiE P Q (revN x.lf x.ln) x.ln x.ln) == (multiE P Q x.lf x.ln y.ln)) false) (selB ((multiE P Q x.lf k k) == (multiE P Q x.lf x.ln y.ln)) true ((multiE P Q (fun i => x.lf (i + k)) (x.ln - k) (y.ln - k)) == (multiE P Q x.lf x.ln y.ln))) false) = true := by
  rw [hy] at h ⊢
  rw [(multi_e (l := x.lf) (n := x.lf) (show x.ln ≤ 40 by omega)).2] at h ⊢
  rw [(multi_e (l := revN x.lf x.ln) (n := x.lf) (show x.ln ≤ 40 by omega)).2, (multi_e (l := x.lf) (n := x.lf) (show k ≤ 40 by omega)).2, (multi_e (l := fun i => x.lf (i + k)) (n := x.lf) (show x.ln - k ≤ 40 by omega)).2, allM_rev]
  have hc := allM_cut (P := P) (Q := Q) (l := x.lf) hk
  cases h1 : allM P Q x.lf x.ln with
  | true => rw [h1] at h; exact absurd h (by decide)
  | false =>
    rw [h1] at hc
    cases h2 : allM P Q x.lf k with
    | false => rfl
    | true =>
      rw [h2, Bool.true_and] at hc
      rw [← hc]; rfl
theorem turnedG_yes {P Q G : N4} {x y : NumL} {k : Nat} (hG : GoodG P Q G) (hk : k ≤ x.ln) (h6 : x.ln ≤ 6) (hy : y.ln = x.ln) (h : (multiE P Q x.lf x.ln y.ln != 0) = false) :
    (selB (selB (selB (selB (selB (selB true ((multiE P Q (revN x.lf x.ln) x.ln x.ln) == 0) false) (eq4 (multiV P Q x.lf y.lf x.ln y.ln) (multiV P Q (revN x.lf x.ln) (revN y.lf x.ln) x.ln x.ln)) false) ((multiE P Q x.lf k k) == 0) false) ((multiE P Q (fun i => x.lf (i + k)) (x.ln - k) (y.ln - k)) == 0) false)
      ((multiE P Q (nrow2 (multiV P Q x.lf y.lf k k) (multiV P Q (fun i => x.lf (i + k)) (fun i => y.lf (i + k)) (x.ln - k) (y.ln - k))) 2 2) == 0) false)
      (eq4 (multiV P Q (nrow2 (multiV P Q x.lf y.lf k k) (multiV P Q (fun i => x.lf (i + k)) (fun i => y.lf (i + k)) (x.ln - k) (y.ln - k))) (nrow2 (N4.mk 1 0 0 0) (N4.mk 1 0 0 0)) 2 2) (multiV P Q x.lf y.lf x.ln y.ln)) false) = true := by
  rw [hy] at h ⊢
  obtain ⟨a1, a2⟩ := multi_e (P := P) (Q := Q) (l := x.lf) (n := y.lf) (show x.ln ≤ 40 by omega)
  obtain ⟨b1, b2⟩ := multi_e (P := P) (Q := Q) (l := revN x.lf x.ln) (n := revN y.lf x.ln) (show x.ln ≤ 40 by omega)
  obtain ⟨c1, c2⟩ := multi_e (P := P) (Q := Q) (l := x.lf) (n := y.lf) (show k ≤ 40 by omega)
  obtain ⟨d1, d2⟩ := multi_e (P := P) (Q := Q) (l := fun i => x.lf (i + k)) (n := fun i => y.lf (i + k)) (show x.ln - k ≤ 40 by omega)
  rw [a2] at h
  cases h1 : allM P Q x.lf x.ln with
  | false => rw [h1] at h; exact absurd h (by decide)
  | true =>
    have hc := allM_cut (P := P) (Q := Q) (l := x.lf) hk
    rw [h1] at hc
    have hc' := (Bool.and_eq_true _ _).mp hc.symm
    obtain ⟨h2, h3⟩ := hc'
    rw [allM_rev, h1, if_pos rfl] at b1 b2
    rw [h1, if_pos rfl] at a1
    rw [h2, if_pos rfl] at c1 c2
    rw [h3, if_pos rfl] at d1 d2
    obtain ⟨e1, e2⟩ := times_ok (P := P) (Q := Q) hG.op (mem_mulL hG.op hG.oq.pos (n := y.lf) h2) (mem_mulL hG.op hG.oq.pos (n := fun i => y.lf (i + k)) h3)
    rw [a1, b1, b2, c1, c2, d1, d2, e1, e2, mulL_rev hG.op, mulL_cut hG.op hk, eq4_self']
    rfl
theorem nil_e {P Q : N4} {x : NumL} (h : x.ln = 0) : multiE P Q (fun _ => N4.mk 0 0 0 0) 0 0 = multiE P Q (revN x.lf x.ln) x.ln x.ln := by
  rw [h, (multi_e (l := fun _ => N4.mk 0 0 0 0) (n := x.lf) (by decide)).2, (multi_e (l := revN x.lf 0) (n := x.lf) (by decide)).2]; rfl
theorem nil_v {P Q : N4} {x y : NumL} (h : x.ln = 0) : multiV P Q (fun _ => N4.mk 0 0 0 0) (fun _ => N4.mk 0 0 0 0) 0 0 = multiV P Q (revN x.lf x.ln) (revN y.lf x.ln) x.ln x.ln := by
  rw [h, (multi_e (by decide)).1, (multi_e (by decide)).1]; rfl
theorem turnedN_no {P Q G : N4} {x y : NumL} {k : Nat} (h0 : x.ln = 0) (hk : k ≤ x.ln) (h6 : x.ln ≤ 6) (hy : y.ln = x.ln) (h : (multiE P Q x.lf x.ln y.ln != 0) = true) :
    (selB (selB true ((multiE P Q (fun _ => N4.mk 0 0 0 0) 0 0) == (multiE P Q x.lf x.ln y.ln)) false) (selB ((multiE P Q x.lf k k) == (multiE P Q x.lf x.ln y.ln)) true ((multiE P Q (fun i => x.lf (i + k)) (x.ln - k) (y.ln - k)) == (multiE P Q x.lf x.ln y.ln))) false) = true := by
  rw [nil_e (x := x) h0]; exact turnedG_no (G := G) hk h6 hy h
theorem turnedN_yes {P Q G : N4} {x y : NumL} {k : Nat} (hG : GoodG P Q G) (h0 : x.ln = 0) (hk : k ≤ x.ln) (h6 : x.ln ≤ 6) (hy : y.ln = x.ln) (h : (multiE P Q x.lf x.ln y.ln != 0) = false) :
    (selB (selB (selB (selB (selB (selB true ((multiE P Q (fun _ => N4.mk 0 0 0 0) 0 0) == 0) false) (eq4 (multiV P Q x.lf y.lf x.ln y.ln) (multiV P Q (fun _ => N4.mk 0 0 0 0) (fun _ => N4.mk 0 0 0 0) 0 0)) false) ((multiE P Q x.lf k k) == 0) false) ((multiE P Q (fun i => x.lf (i + k)) (x.ln - k) (y.ln - k)) == 0) false)
      ((multiE P Q (nrow2 (multiV P Q x.lf y.lf k k) (multiV P Q (fun i => x.lf (i + k)) (fun i => y.lf (i + k)) (x.ln - k) (y.ln - k))) 2 2) == 0) false)
      (eq4 (multiV P Q (nrow2 (multiV P Q x.lf y.lf k k) (multiV P Q (fun i => x.lf (i + k)) (fun i => y.lf (i + k)) (x.ln - k) (y.ln - k))) (nrow2 (N4.mk 1 0 0 0) (N4.mk 1 0 0 0)) 2 2) (multiV P Q x.lf y.lf x.ln y.ln)) false) = true := by
  rw [nil_e (x := x) h0, nil_v (x := x) (y := y) h0]; exact turnedG_yes hG hk h6 hy h
end Go.Eng
