/-
  Layer 14: what is cancelled never comes.
-/
import Derived.Test.YthapokgokbfibaaTimer3
namespace Go.Eng
set_option linter.unusedVariables false
set_option linter.unusedSimpArgs false
set_option maxRecDepth 100000
/-- All of the first k, and those that aren't of the id. -/
def adM (f : Nat → UInt64) : Nat → List TmR
  | 0 => []
  | k + 1 => insT (TmR.mk (f k) ((k % 5 : Nat) : Int) (UInt64.ofNat k)) (adM f k)
def jcnt (id : Int) : Nat → Nat
  | 0 => 0
  | k + 1 => jcnt id k + if ((k % 5 : Nat) : Int) = id then 0 else 1
def adP (f : Nat → UInt64) (id : Int) : Nat → List TmR
  | 0 => []
  | k + 1 => if ((k % 5 : Nat) : Int) = id then adP f id k else insT (TmR.mk (f k) ((k % 5 : Nat) : Int) (UInt64.ofNat (jcnt id k))) (adP f id k)
theorem jcnt_le (id : Int) : ∀ k, jcnt id k ≤ k
  | 0 => Nat.le_refl 0
  | k + 1 => by have := jcnt_le id k; unfold jcnt; split <;> omega
theorem adM_lt (f : Nat → UInt64) : ∀ {k : Nat}, k < 1000 → ∀ y ∈ adM f k, y.n.toNat < k
  | 0, _, y, hy => by cases hy
  | k + 1, h, y, hy => by
    rw [adM] at hy
    rcases (insT_mem _ _ _).1 hy with hy | rfl
    · have := adM_lt f (k := k) (by omega) y hy; omega
    · show (UInt64.ofNat k).toNat < k + 1
      rw [ofNat_nat (by omega)]; omega
theorem adP_lt (f : Nat → UInt64) (id : Int) : ∀ {k : Nat}, k < 1000 → ∀ y ∈ adP f id k, y.n.toNat < jcnt id k
  | 0, _, y, hy => by cases hy
  | k + 1, h, y, hy => by
    have ih := adP_lt f id (k := k) (by omega)
    have hj := jcnt_le id k
    unfold adP at hy
    by_cases e : ((k % 5 : Nat) : Int) = id
    · rw [if_pos e] at hy
      rw [jcnt, if_pos e]; exact ih y hy
    · rw [if_neg e] at hy
      rw [jcnt, if_neg e]
      rcases (insT_mem _ _ _).1 hy with hy | rfl
      · have := ih y hy; omega
      · show (UInt64.ofNat (jcnt id k)).toNat < _
        rw [ofNat_nat (by omega)]; omega
theorem adM_up (f : Nat → UInt64) : ∀ {k : Nat}, k < 1000 → (adM f k).Pairwise fun x y => ltT x y = true
  | 0, _ => List.Pairwise.nil
  | k + 1, h => insT_up _ _ (adM_up f (by omega)) fun y hy => by
    show y.n.toNat < (UInt64.ofNat k).toNat
    rw [ofNat_nat (by omega)]; exact adM_lt f (by omega) y hy
/-! ### in with one, then out with the id -/
theorem keep_cons {id : Int} {x : TmR} {L : List TmR} : keepL id (x :: L) = if x.i = id then keepL id L else x :: keepL id L := by
  unfold keepL
  rw [List.filter_cons]
  by_cases h : x.i = id
  · rw [if_pos h, if_neg (by simp [h])]
  · rw [if_neg h, if_pos (by simp [h])]
theorem insT_first {x : TmR} : ∀ {L : List TmR}, (∀ y ∈ L, x.a.toNat < y.a.toNat) → insT x L = x :: L
  | [], _ => rfl
  | y :: L, h => by
    have := h y (by simp)
    rw [insT, if_neg (by omega)]
theorem keep_ins_same {id : Int} {x : TmR} (h : x.i = id) : ∀ L, keepL id (insT x L) = keepL id L
  | [] => by rw [insT, keep_cons, if_pos h]
  | y :: L => by
    unfold insT
    split
    · rw [keep_cons, keep_cons, keep_ins_same h L]
    · rw [keep_cons, if_pos h]
theorem keep_ins {id : Int} {x : TmR} (h : ¬ x.i = id) : ∀ {L : List TmR}, (L.Pairwise fun x y => ltT x y = true) → keepL id (insT x L) = insT x (keepL id L)
  | [], _ => by rw [insT, keep_cons, if_neg h]; rfl
  | y :: L, hu => by
    have h1 := List.pairwise_cons.1 hu
    by_cases e : y.a.toNat ≤ x.a.toNat
    · rw [insT, if_pos e, keep_cons, keep_cons, keep_ins h h1.2]
      by_cases e2 : y.i = id
      · rw [if_pos e2, if_pos e2]
      · rw [if_neg e2, if_neg e2, insT, if_pos e]
    · rw [insT, if_neg e, keep_cons, if_neg h]
      refine (insT_first fun z hz => ?_).symm
      unfold keepL at hz
      rcases List.mem_cons.1 (List.mem_filter.1 hz).1 with rfl | hz
      · omega
      · have := h1.1 z hz; rw [ltT_iff] at this; omega
def insI (x : ItR) : List ItR → List ItR
  | [] => [x]
  | y :: L => if y.a.toNat ≤ x.a.toNat then y :: insI x L else x :: y :: L
theorem map_ins (x : TmR) : ∀ L, (insT x L).map itm = insI (itm x) (L.map itm)
  | [] => rfl
  | y :: L => by
    show (if y.a.toNat ≤ x.a.toNat then y :: insT x L else x :: y :: L).map itm = if y.a.toNat ≤ x.a.toNat then itm y :: insI (itm x) (L.map itm) else itm x :: itm y :: L.map itm
    split
    · rw [List.map_cons, map_ins x L]
    · rfl
theorem keep_rel (f : Nat → UInt64) (id : Int) : ∀ {k : Nat}, k < 1000 → (keepL id (adM f k)).map itm = (adP f id k).map itm
  | 0, _ => rfl
  | k + 1, h => by
    have ih := keep_rel f id (k := k) (by omega)
    by_cases e : ((k % 5 : Nat) : Int) = id
    · rw [adM, adP, if_pos e, keep_ins_same e, ih]
    · rw [adM, adP, if_neg e, keep_ins e (adM_up f (by omega)), map_ins, map_ins, ih]
      rfl
/-! ### the laws' loop -/
section
variable {f : Nat → UInt64} {F G : Nat → TmR} {id : Int} {i j k n b nm x : Nat} {q u : UInt64}
theorem c_first : Std (upF ltT (pshG (fun _ => tmZ) 0 (TmR.mk (f 0) 0 0) tmZ 0 0) 0) 1 (adM f 1) := Std.add0 _
theorem c_step (hi : i < 999) (hq : q = UInt64.ofNat i) (h : Std F i (adM f i)) :
    Std (upF ltT (pshG F i (TmR.mk (f i) ((i % 5 : Nat) : Int) q) tmZ b nm) (i + 1 - 1)) (i + 1) (adM f (i + 1)) := by
  subst hq
  exact Std.add h fun y hy => by
    show y.n.toNat < (UInt64.ofNat i).toNat
    rw [ofNat_nat (by omega)]; exact adM_lt f (by omega) y hy
theorem p_first (h : ¬ (0 : Int) = id) : Std (upF ltT (pshG (fun _ => tmZ) 0 (TmR.mk (f 0) 0 0) tmZ 0 0) 0) 1 (adP f id 1) ∧ 1 = jcnt id 1 := by
  have e : adP f id 1 = insT (TmR.mk (f 0) 0 0) [] := by
    have h : ¬ ((0 % 5 : Nat) : Int) = id := h
    rw [adP, if_neg h]; rfl
  have e2 : jcnt id 1 = 1 := by
    have h : ¬ ((0 % 5 : Nat) : Int) = id := h
    rw [jcnt, if_neg h]; rfl
  rw [e, e2]
  exact ⟨Std.add0 _, rfl⟩
theorem p_first0 : Std (upF ltT (pshG (fun _ => tmZ) 0 (TmR.mk (f 1) 1 0) tmZ 0 0) 0) 1 (adP f 0 2) ∧ 1 = jcnt 0 2 := ⟨Std.add0 _, rfl⟩
theorem p_keep (hi : i < 999) (hne : (((i % 5 : Nat) : Int) == id) = false) (hj : j = jcnt id i) (hu : u = UInt64.ofNat j) (h : Std G j (adP f id i)) :
    Std (upF ltT (pshG G j (TmR.mk (f i) ((i % 5 : Nat) : Int) u) tmZ b nm) (j + 1 - 1)) (j + 1) (adP f id (i + 1)) ∧ j + 1 = jcnt id (i + 1) := by
  have e : ¬ ((i % 5 : Nat) : Int) = id := fun e => by rw [e] at hne; simp at hne
  subst hu
  subst hj
  have hle := jcnt_le id i
  rw [adP, if_neg e, jcnt, if_neg e]
  exact ⟨Std.add h fun y hy => by
    show y.n.toNat < (UInt64.ofNat (jcnt id i)).toNat
    rw [ofNat_nat (by omega)]; exact adP_lt f id (by omega) y hy, rfl⟩
theorem p_drop (heq : (((i % 5 : Nat) : Int) == id) = true) (hj : j = jcnt id i) (h : Std G j (adP f id i)) : Std G j (adP f id (i + 1)) ∧ j = jcnt id (i + 1) := by
  have e : ((i % 5 : Nat) : Int) = id := by simpa using heq
  rw [adP, if_pos e, jcnt, if_pos e]
  exact ⟨h, hj⟩
theorem can_kc (h : Std F k (adM f k)) (hG : Std G j (adP f id k)) (hk : k < 1000) (e : k = n) : kc F id n = j := by
  subst e
  have h1 := congrArg List.length (keep_rel f id hk)
  rw [List.length_map, List.length_map, hG.len] at h1
  rw [h.gone id, h1]
theorem map_getD (L : List TmR) (x : Nat) : itm (L.getD x tmZ) = (L.map itm).getD x (itm tmZ) := by
  rw [List.getD_eq_getElem?_getD, List.getD_eq_getElem?_getD, List.getElem?_map]
  cases L[x]? <;> rfl
theorem can_item (h : Std F k (adM f k)) (hG : Std G j (adP f id k)) (hk : k < 1000) (e : k = n) (hx : x < j) : itF (clnF (canF F id n) (kc F id n) tmZ) (kc F id n) x = itF (clnF G j tmZ) j x := by
  have hc := can_kc h hG hk e
  subst e
  have h1 := (h.cancel id).clone.item (k := x) (by omega)
  have h2 := hG.clone.item (k := x) hx
  rw [h1, h2, map_getD, map_getD, keep_rel f id hk]
theorem eqI_cond {x y : ItR} (h : x = y) : (!eqI x y) = false := by rw [h, eqI_self]; rfl
theorem can_one : kc (upF ltT (pshG (fun _ => tmZ) 0 (TmR.mk (f 0) 0 0) tmZ 0 0) 0) 0 1 = 0 := (c_first (f := f)).gone 0
end
theorem two_cond {a b c d : Nat} (h1 : a = b) (h2 : c = d) : selB (!decide (a = b)) true (!decide (c = d)) = false := by
  rw [decide_eq_true h1, decide_eq_true h2]; rfl
end Go.Eng
