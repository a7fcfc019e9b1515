/-
  An engine for walks, seventh part: a statement whose operations may come in any order.
-/
import Derived.Test.YtfeepilncjplmaaEngF
namespace Go.Eng

/-! ### any order, by what always holds -/
def unl (l : Array Bool) : Nat := l.toList.count false

theorem count_set : ∀ (l : List Bool) (i : Nat), l[i]? = some false → (l.set i true).count false + 1 = l.count false
  | [], i, h => by simp at h
  | b :: r, 0, h => by simp at h; subst h; simp
  | b :: r, i + 1, h => by
    have := count_set r i (by simpa using h)
    simp only [List.set_cons_succ, List.count_cons]
    omega

theorem getD_false {l : Array Bool} {i : Nat} (h : l.getD i true = false) : l[i]? = some false := by
  cases hi : l[i]? with
  | none => simp [Array.getD_eq_getD_getElem?, hi] at h
  | some b => simp [Array.getD_eq_getD_getElem?, hi] at h; subst h; rfl

theorem unl_set {l : Array Bool} {i : Nat} (h : l.getD i true = false) : unl (l.setIfInBounds i true) + 1 = unl l := by
  unfold unl
  rw [Array.toList_setIfInBounds]
  exact count_set _ _ (by simpa using getD_false h)

theorem wpAny_inv {P : Program} {ops : Array Oper} {Q : Exit → Act → World → Prop} (Inv : Array Bool → Act → World → Prop)
    (h1 : ∀ l a w, Inv l a w → Region.ready .any ops l = [] → Q .normal a w)
    (h2 : ∀ l a w i, Inv l a w → i ∈ Region.ready .any ops l → wpOp P ops Q i (Inv (l.setIfInBounds i true)) a w) :
    ∀ (fuel : Nat) (l : Array Bool) (a : Act) (w : World), unl l ≤ fuel → Inv l a w → wpAny P .any ops Q fuel l a w
  | 0, l, a, w, hu, hi => by
    have : Region.ready .any ops l = [] := by
      cases hr : Region.ready .any ops l with
      | nil => rfl
      | cons j r =>
        have hj : j ∈ Region.ready .any ops l := by rw [hr]; simp
        have := unl_set (mem_ready.1 hj).1
        omega
    exact ⟨this, h1 l a w hi this⟩
  | n + 1, l, a, w, hu, hi => ⟨h1 l a w hi, fun i hr => wpOp_mono (fun a' w' h => wpAny_inv Inv h1 h2 n _ a' w' (by have := unl_set (mem_ready.1 hr).1; omega) h) (h2 l a w i hi hr)⟩

/-! ### which operation must be ahead of which -/
def maskOf (o : Oper) (acc : List (Nat × Nat)) : Nat := o.after.toList.foldl (fun m e => match Region.binds .any e with
  | true => m ||| 2 ^ e.on ||| (match look acc e.on with
    | some x => x
    | none => 0)
  | false => m) 0

def ancs (ops : Array Oper) : (List (Nat × OpH)) → List (Nat × Nat) → List (Nat × Nat)
  | [], acc => acc
  | (i, _) :: r, acc => match ops[i]? with
    | some o => ancs ops r ((i, maskOf o acc) :: acc)
    | none => acc

def before (masks : List (Nat × Nat)) (i j : Nat) : Bool := match look masks j with
  | some m => m.testBit i
  | none => false

def Preds (D : Nat → Bool) (o : Oper) : Prop := ∀ e ∈ o.after.toList, Region.binds .any e = true → D e.on = true
def Closed (ops : Array Oper) (D : Nat → Bool) : Prop := ∀ j o, ops[j]? = some o → D j = true → Preds D o
def MaskOk (ops : Array Oper) (masks : List (Nat × Nat)) : Prop :=
  ∀ D, Closed ops D → ∀ j o m, look masks j = some m → ops[j]? = some o → Preds D o → ∀ i, m.testBit i = true → D i = true

theorem fold_bit (acc : List (Nat × Nat)) (i : Nat) : ∀ (l : List Edge) (m0 : Nat), (l.foldl (fun m e => match Region.binds .any e with
      | true => m ||| 2 ^ e.on ||| (match look acc e.on with
        | some x => x
        | none => 0)
      | false => m) m0).testBit i = true →
    m0.testBit i = true ∨ ∃ e ∈ l, Region.binds .any e = true ∧ (i = e.on ∨ ∃ x, look acc e.on = some x ∧ x.testBit i = true)
  | [], m0, h => .inl h
  | e :: l, m0, h => by
    rw [List.foldl_cons] at h
    rcases fold_bit acc i l _ h with h | ⟨e', he', h⟩
    · cases hb : Region.binds .any e with
      | false => simp only [hb] at h; exact .inl h
      | true =>
        simp only [hb, Nat.testBit_or, Bool.or_eq_true] at h
        rcases h with (h | h) | h
        · exact .inl h
        · refine .inr ⟨e, by simp, hb, .inl ?_⟩
          rw [Nat.testBit_two_pow] at h
          have := of_decide_eq_true h
          exact this.symm
        · refine .inr ⟨e, by simp, hb, .inr ?_⟩
          cases hl : look acc e.on with
          | none => simp only [hl] at h; simp at h
          | some x => simp only [hl] at h; exact ⟨x, rfl, h⟩
    · exact .inr ⟨e', by simp [he'], h⟩

theorem maskOk_cons {ops : Array Oper} {acc : List (Nat × Nat)} (h : MaskOk ops acc) (hin : ∀ j m, look acc j = some m → ∃ o, ops[j]? = some o) {i : Nat} {o : Oper} (ho : ops[i]? = some o) :
    MaskOk ops ((i, maskOf o acc) :: acc) := by
  intro D hD j o' m hl ho' hp k hk
  rw [look_cons] at hl
  split at hl
  · rename_i hij
    subst hij
    injection hl with hl; subst hl
    rw [ho] at ho'; injection ho' with ho'; subst ho'
    rcases fold_bit acc k _ _ hk with h0 | ⟨e, he, hb, h1 | ⟨x, hx, hxk⟩⟩
    · simp at h0
    · rw [h1]; exact hp e he hb
    · obtain ⟨oe, hoe⟩ := hin _ _ hx
      exact h D hD e.on oe x hx hoe (hD _ _ hoe (hp e he hb)) k hxk
  · exact h D hD j o' m hl ho' hp k hk

theorem ancs_ok {ops : Array Oper} : ∀ (ks : (List (Nat × OpH))) (acc : List (Nat × Nat)), MaskOk ops acc → (∀ j m, look acc j = some m → ∃ o, ops[j]? = some o) → MaskOk ops (ancs ops ks acc)
  | [], acc, h, _ => h
  | (i, _) :: r, acc, h, hin => by
    simp only [ancs]
    split
    · rename_i o ho
      refine ancs_ok r _ (maskOk_cons h hin ho) (fun j m hl => ?_)
      rw [look_cons] at hl
      split at hl
      · rename_i hij; subst hij; exact ⟨o, ho⟩
      · exact hin j m hl
    · exact h

theorem maskOk_nil (ops : Array Oper) : MaskOk ops [] := fun D _ j o m h => by cases h

/-! ### the checks -/

def annot : (List (Nat × OpH)) → Nat → List (Nat × OpH × Nat)
  | [], _ => []
  | (i, h) :: r, nx => (i, h, nx) :: annot r (nx + h.nb)

def indep (ops : Array Oper) (x y : (Nat × OpH × Nat)) : Bool := match ops[x.1]?, ops[y.1]? with
  | some ox, some oy => ox.apart ops oy && (x.2.1.wrs x.2.2).all (fun p => !(y.2.1.tch y.2.2).contains p) && (y.2.1.wrs y.2.2).all (fun p => !(x.2.1.tch x.2.2).contains p)
  | _, _ => false

def pairsOk (ops : Array Oper) (masks : List (Nat × Nat)) : List (Nat × OpH × Nat) → Bool
  | [] => true
  | x :: r => r.all (fun y => before masks x.1 y.1 || indep ops x y) && pairsOk ops masks r

def permOk (ops : Array Oper) : (List (Nat × OpH)) → List Nat → Bool
  | [], seen => (List.range ops.size).all (fun i => seen.contains i)
  | (i, _) :: r, seen => !seen.contains i && (match ops[i]? with
    | some o => o.after.toList.all (fun e => !Region.binds .any e || seen.contains e.on)
    | none => false) && permOk ops r (i :: seen)

def drawOk (ops : Array Oper) (ks : (List (Nat × OpH))) (nx : Nat) : Bool := permOk ops ks [] && pairsOk ops (ancs ops ks []) (annot ks nx)

theorem pairs_split {ops : Array Oper} {masks : List (Nat × Nat)} : ∀ (a : List (Nat × OpH × Nat)) (x : (Nat × OpH × Nat)) (b : List (Nat × OpH × Nat)), pairsOk ops masks (a ++ x :: b) = true →
    (∀ y ∈ a, before masks y.1 x.1 = true ∨ indep ops y x = true) ∧ (∀ y ∈ b, before masks x.1 y.1 = true ∨ indep ops x y = true)
  | [], x, b, h => by
    simp only [List.nil_append, pairsOk, Bool.and_eq_true, List.all_eq_true, Bool.or_eq_true] at h
    exact ⟨by simp, fun y hy => h.1 y hy⟩
  | y :: a, x, b, h => by
    simp only [List.cons_append, pairsOk, Bool.and_eq_true, List.all_eq_true, Bool.or_eq_true] at h
    obtain ⟨h1, h2⟩ := pairs_split a x b h.2
    refine ⟨fun z hz => ?_, h2⟩
    rcases List.mem_cons.1 hz with rfl | hz
    · exact h.1 x (by simp)
    · exact h1 z hz

theorem perm_nodup {ops : Array Oper} : ∀ (ks : (List (Nat × OpH))) (seen : List Nat), permOk ops ks seen = true → (ks.map (·.1)).Nodup ∧ ∀ i ∈ ks.map (·.1), i ∉ seen
  | [], seen, _ => ⟨List.nodup_nil, by simp⟩
  | (i, h) :: r, seen, hp => by
    simp only [permOk, Bool.and_eq_true, Bool.not_eq_true'] at hp
    obtain ⟨h1, h2⟩ := perm_nodup r (i :: seen) hp.2
    refine ⟨?_, ?_⟩
    · simp only [List.map_cons, List.nodup_cons]
      exact ⟨fun hi => h2 i hi (by simp), h1⟩
    · intro j hj
      simp only [List.map_cons, List.mem_cons] at hj
      rcases hj with rfl | hj
      · have := hp.1.1; simpa using this
      · exact fun hs => h2 j hj (by simp [hs])

theorem perm_cover {ops : Array Oper} : ∀ (ks : (List (Nat × OpH))) (seen : List Nat), permOk ops ks seen = true → ∀ i, i < ops.size → i ∈ ks.map (·.1) ∨ i ∈ seen
  | [], seen, hp, i, hi => by
    simp only [permOk, List.all_eq_true] at hp
    exact .inr (by simpa using hp i (List.mem_range.2 hi))
  | (j, h) :: r, seen, hp, i, hi => by
    simp only [permOk, Bool.and_eq_true] at hp
    rcases perm_cover r (j :: seen) hp.2 i hi with h1 | h1
    · exact .inl (by simp [h1])
    · rcases List.mem_cons.1 h1 with rfl | h1
      · exact .inl (by simp)
      · exact .inr h1

/-- If nothing is ready all is done. -/
theorem perm_all {ops : Array Oper} {l : Array Bool} (hl : l.size = ops.size) (hr : Region.ready .any ops l = []) : ∀ (ks : (List (Nat × OpH))) (seen : List Nat), permOk ops ks seen = true →
    (∀ i ∈ seen, l.getD i false = true) → ∀ i ∈ ks.map (·.1), l.getD i false = true
  | [], _, _, _, i, hi => by simp at hi
  | (j, h) :: r, seen, hp, hs, i, hi => by
    simp only [permOk, Bool.and_eq_true] at hp
    have hj : l.getD j false = true := by
      cases ho : ops[j]? with
      | none => simp [ho] at hp
      | some o =>
        simp only [ho, List.all_eq_true] at hp
        by_cases hd : l.getD j true = false
        · have : j ∈ Region.ready .any ops l := mem_ready.2 ⟨hd, o, ho, fun e he hb => by
            have := hp.1.2 e (by simpa using he)
            simp only [hb, Bool.not_true, Bool.false_or] at this
            exact hs _ (by simpa using this)⟩
          rw [hr] at this; cases this
        · have hj : j < l.size := by rw [hl]; exact (Array.getElem?_eq_some_iff.1 ho).1
          simp [Array.getD, hj] at hd ⊢
          exact hd
    simp only [List.map_cons, List.mem_cons] at hi
    rcases hi with rfl | hi
    · exact hj
    · refine perm_all hl hr r (j :: seen) hp.2 (fun k hk => ?_) i hi
      rcases List.mem_cons.1 hk with rfl | hk
      · exact hj
      · exact hs k hk

/-! ### what was done so far, in the text's order -/
structure T where
  i : Nat
  dst : Option Tmp
  e : Got

theorem apply_env (s : FSt) (dst : Option Tmp) (e : Got) (x : Nat) : (s.apply dst e).env x = if dst = some x then some e.val else s.env x := by
  cases dst with
  | none => simp [FSt.apply]
  | some d =>
    simp only [FSt.apply]
    by_cases h : d = x
    · subst h; simp
    · cases hb : Nat.beq d x with
      | true => exact absurd (Nat.eq_of_beq_eq_true hb) h
      | false => simp [h]

theorem apply_mem (s : FSt) (dst : Option Tmp) (e : Got) (p : Nat) : (s.apply dst e).mem p = match look e.upd p with
  | some ob => ob
  | none => s.mem p := rfl

def disj (t u : T) : Prop := (∀ x, t.dst = some x → u.dst ≠ some x) ∧ ∀ p, look t.e.upd p = none ∨ look u.e.upd p = none

theorem apply_comm {t u : T} (h : disj t u) (s : FSt) : (s.apply t.dst t.e).apply u.dst u.e = (s.apply u.dst u.e).apply t.dst t.e := by
  have he : ∀ x, ((s.apply t.dst t.e).apply u.dst u.e).env x = ((s.apply u.dst u.e).apply t.dst t.e).env x := fun x => by
    simp only [apply_env]
    by_cases h1 : t.dst = some x
    · simp [h1, h.1 x h1]
    · simp [h1]
  have hm : ∀ p, ((s.apply t.dst t.e).apply u.dst u.e).mem p = ((s.apply u.dst u.e).apply t.dst t.e).mem p := fun p => by
    simp only [apply_mem]
    rcases h.2 p with h1 | h1
    · simp [h1]
    · rw [h1]
  have ext : ∀ a b : FSt, (∀ x, a.env x = b.env x) → (∀ p, a.mem p = b.mem p) → a = b := fun a b h1 h2 => by
    cases a; cases b
    congr
    · funext x; exact h1 x
    · funext p; exact h2 p
  exact ext _ _ he hm

theorem annot_append : ∀ (a b : (List (Nat × OpH))) (nx : Nat), annot (a ++ b) nx = annot a nx ++ annot b (nx + nbL a)
  | [], b, nx => by simp [annot, nbL]
  | (i, h) :: a, b, nx => by simp only [List.cons_append, annot, annot_append a b, nbL, Nat.add_assoc]

theorem annot_idx : ∀ (ks : (List (Nat × OpH))) (nx : Nat), (annot ks nx).map (·.1) = ks.map (·.1)
  | [], _ => rfl
  | (i, h) :: r, nx => by simp only [annot, List.map_cons, annot_idx r]

end Go.Eng
