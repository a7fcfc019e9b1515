/-
  Layer 14: what the laws add, and what comes of it.
-/
import Derived.Test.YthapokgokbfibaaTimer2
namespace Go.Eng
open Go.RowKit Go.WideShapes Go.ChangeShapes Go.ChangeAt Go.Deep
set_option linter.unusedVariables false
set_option linter.unusedSimpArgs false
set_option maxRecDepth 100000
/-! ### '==' of structs of two numbers -/
def pairB (P : Program) (t : TypeId) (k1 k2 : IntKind) : Bool := match P.underlying t with
  | some (.struct fs) => (match fs.toList with
    | [f1, f2] => !(f1.name == "_") && (!(f2.name == "_") && (Nat.beq f1.offset 0 && (Nat.beq f2.offset 1 && ((match P.underlying f1.type with
      | some (.int k) => decide (k = k1)
      | _ => false) && ((match P.underlying f2.type with
      | some (.int k) => decide (k = k2)
      | _ => false) && (!P.stoodInHeld t && !P.eqGuardType P.depth t))))))
    | _ => false)
  | _ => false
theorem pureRun_equal_pair {P : Program} {t : TypeId} {k1 k2 : IntKind} (h : pairB P t k1 k2 = true) (a1 a2 b1 b2 : Int) :
    pureRun P (Op.equal t (.agg #[.int k1 a1, .int k2 b1]) (.agg #[.int k1 a2, .int k2 b2])) = some ((a1 == a2) && (b1 == b2)) := by
  unfold pairB at h
  split at h
  · rename_i fs ht
    split at h
    · rename_i f1 f2 hfs
      simp only [Bool.and_eq_true, Bool.not_eq_true'] at h
      obtain ⟨n1, n2, o1, o2, t1, t2, hst, hg⟩ := h
      have o1 := Nat.eq_of_beq_eq_true o1
      have o2 := Nat.eq_of_beq_eq_true o2
      have t1 : P.underlying f1.type = some (.int k1) := by
        split at t1
        · rename_i k hk; rw [hk, of_decide_eq_true t1]
        · cases t1
      have t2 : P.underlying f2.type = some (.int k2) := by
        split at t2
        · rename_i k hk; rw [hk, of_decide_eq_true t2]
        · cases t2
      have n1 : f1.name ≠ "_" := fun e => by rw [e] at n1; simp at n1
      have n2 : f2.name ≠ "_" := fun e => by rw [e] at n2; simp at n2
      have p1 : ∀ (x y : Int), pureRun P (part f1.type #[.int k1 x, .int k2 y] f1.offset) = some (.int k1 x) := fun x y => pureRun_part t1 (by rw [o1]; rfl)
      have p2 : ∀ (x y : Int), pureRun P (part f2.type #[.int k1 x, .int k2 y] f2.offset) = some (.int k2 y) := fun x y => pureRun_part t2 (by rw [o2]; rfl)
      have hprog : pureRun P program = some P := rfl
      show pureRun P (Op.equalIn (9998 + 2) t _ _) = _
      rw [Op.equalIn, pureRun_bind', pureRun_underlying ht]
      simp only
      rw [pureRun_bind', hprog]
      simp only [hst, Bool.false_eq_true, if_false]
      rw [pureRun_bind', ← Array.forIn_toList, hfs, List.forIn_cons, pureRun_bind']
      simp only [n1, n2, ne_eq, not_false_eq_true, if_true, List.forIn_cons, List.forIn_nil, pureRun_bind', p1, p2, pureRun_equalIn_int _ _ _ t1, pureRun_equalIn_int _ _ _ t2]
      have hpure : ∀ {α : Type} (a : α), pureRun P (pure a : Sem α) = some a := fun _ => rfl
      have e2 := pureRun_equalIn_int (P := P) 9998 b1 b2 t2
      cases h1 : (a1 == a2) with
      | false => rfl
      | true =>
        simp only [Bool.not_true, Bool.false_eq_true, if_false, hpure, pureRun_bind', p2, e2]
        cases h2 : (b1 == b2) <;> rfl
    · cases h
  · cases h
theorem pairB_guard {P : Program} {t : TypeId} {k1 k2 : IntKind} (h : pairB P t k1 k2 = true) : P.eqGuardType P.depth t = false := by
  unfold pairB at h
  split at h
  · split at h
    · simp only [Bool.and_eq_true, Bool.not_eq_true'] at h
      exact h.2.2.2.2.2.2.2
    · cases h
  · cases h
def eqI (x y : ItR) : Bool := (x.a == y.a) && (x.i == y.i)
theorem eqI_self (x : ItR) : eqI x x = true := by unfold eqI; simp
theorem is_neq_it {P : Program} {t t' : TypeId} {a b : Operand} (h : pairB P t .u64 .i64 = true) (x y : ItR) :
    IsOp P (.binOp .neq t a b t') [.agg #[u64 x.a, int x.i], .agg #[u64 y.a, int y.i]] (.bool (!eqI x y)) := isOp_bin (guard_arr (pairB_guard h)) (by
  show pureRun P (do pure (Value.bool (!(← Op.equal t (.agg #[u64 x.a, int x.i]) (.agg #[u64 y.a, int y.i]))))) = _
  have e := pureRun_equal_pair h x.a.toNat y.a.toNat x.i y.i
  rw [pureRun_bind', show pureRun P (Op.equal t (.agg #[u64 x.a, int x.i]) (.agg #[u64 y.a, int y.i])) = _ from e, beq64]; rfl)
theorem split_cond {x y : ItR} {b : UInt64} {r : ItR} (hx : x = r) (hy : y = r) (h : r.a ≤ b) : selB (!eqI x y) true (decide (b < x.a)) = false := by
  rw [hx, hy, eqI_self]
  have h2 : ¬ b < r.a := fun h3 => by
    have h4 : r.a.toNat ≤ b.toNat := h
    have h5 : b.toNat < r.a.toNat := h3
    omega
  simp [selB, h2]
theorem lens_cond {x y q r n : Nat} (h1 : x = y) (h2 : q = r) (h3 : x + q = n) : selB (selB (!decide (x = y)) true (!decide (q = r))) true (!decide (x + q = n)) = false := by
  rw [decide_eq_true h1, decide_eq_true h2, decide_eq_true h3]; rfl
theorem lens_cond0 {q r n : Nat} (h2 : q = r) (h3 : 0 + q = n) : selB (selB false true (!decide (q = r))) true (!decide (0 + q = n)) = false := by
  rw [decide_eq_true h2, decide_eq_true h3]; rfl
theorem ab_le {a b : UInt64} (h : decide (b < a) = false) : a.toNat ≤ b.toNat := by
  have h1 : ¬ b.toNat < a.toNat := of_decide_eq_false h
  omega
/-- The first k are added. -/
def addL (f : Nat → UInt64) : Nat → List TmR
  | 0 => []
  | k + 1 => insT (TmR.mk (f k) ((k : Nat) : Int) (UInt64.ofNat k)) (addL f k)
theorem addL_len (f : Nat → UInt64) : ∀ k, (addL f k).length = k
  | 0 => rfl
  | k + 1 => by rw [addL, insT_len, addL_len f k]
theorem ofNat_nat {k : Nat} (h : k < 1000) : (UInt64.ofNat k).toNat = k := by
  rw [UInt64.toNat_ofNat']; exact Nat.mod_eq_of_lt (by omega)
theorem addL_lt (f : Nat → UInt64) : ∀ {k : Nat}, k < 1000 → ∀ y ∈ addL f k, y.n.toNat < k
  | 0, _, y, hy => by cases hy
  | k + 1, h, y, hy => by
    rw [addL] at hy
    rcases (insT_mem _ _ _).1 hy with hy | rfl
    · have := addL_lt f (k := k) (by omega) y hy; omega
    · show (UInt64.ofNat k).toNat < k + 1
      rw [ofNat_nat (by omega)]; omega
theorem ofNat_next {k : Nat} {q : UInt64} (h : q = UInt64.ofNat k) (hk : k < 999) : q + 1 = UInt64.ofNat (k + 1) := by
  subst h
  apply UInt64.toNat_inj.1
  rw [UInt64.toNat_add, ofNat_nat (by omega), ofNat_nat (by omega)]
  show (k + 1) % 18446744073709551616 = k + 1
  exact Nat.mod_eq_of_lt (by omega)
theorem tm_first (f : Nat → UInt64) : Std (upF ltT (pshG (fun _ => tmZ) 0 (TmR.mk (f 0) 0 0) tmZ 0 0) 0) 1 (addL f 1) := Std.add0 _
theorem tm_step {f : Nat → UInt64} {F : Nat → TmR} {i b nm : Nat} {q : UInt64} (hi : i < 999) (hq : q = UInt64.ofNat i) (h : Std F i (addL f i)) :
    Std (upF ltT (pshG F i (TmR.mk (f i) ((i : Nat) : Int) q) tmZ b nm) (i + 1 - 1)) (i + 1) (addL f (i + 1)) := by
  subst hq
  exact Std.add h fun y hy => by
    show y.n.toNat < (UInt64.ofNat i).toNat
    rw [ofNat_nat (by omega)]; exact addL_lt f (by omega) y hy
/-! ### what is due, in parts -/
theorem due_split {a b : UInt64} (hab : a.toNat ≤ b.toNat) : ∀ L : List TmR, dueN b L = dueN a L + dueN b (L.drop (dueN a L))
  | [] => rfl
  | x :: L => by
    by_cases h : decide (x.a ≤ a) = true
    · have h1 : decide (x.a ≤ b) = true := by
        have h2 : x.a.toNat ≤ a.toNat := of_decide_eq_true h
        exact decide_eq_true (show x.a.toNat ≤ b.toNat by omega)
      have e1 : dueN a (x :: L) = dueN a L + 1 := by rw [dueN, if_pos h]
      have e2 : dueN b (x :: L) = dueN b L + 1 := by rw [dueN, if_pos h1]
      rw [e1, e2, due_split hab L]
      show _ = _ + dueN b (L.drop (dueN a L))
      omega
    · have e1 : dueN a (x :: L) = 0 := by rw [dueN, if_neg h]
      rw [e1]; show _ = 0 + dueN b (x :: L); omega
section
variable {f : Nat → UInt64} {F G : Nat → TmR} {n k d1 d2 : Nat} {a b : UInt64}
theorem sp_due (h : Std F k (addL f k)) (e : k = n) (hd : dueN a (addL f n) = d1) : IsDue F n a d1 := by subst e; subst hd; exact h.due a
theorem sp_due2 (h : Std F k (addL f k)) (e : k = n) (ha : dueN a (addL f n) = d1) (hb : dueN b ((addL f n).drop d1) = d2) : IsDue (popN F n d1) (n - d1) b d2 := by
  subst e; subst ha; subst hb; exact (h.left a).due b
theorem sp_dueB (hab : a.toNat ≤ b.toNat) (h : Std F k (addL f k)) (e : k = n) (ha : dueN a (addL f n) = d1) (hb : dueN b ((addL f n).drop d1) = d2) : IsDue F n b (d1 + d2) := by
  have := sp_due h e (a := b) rfl
  rw [due_split hab, ha, hb] at this; exact this
theorem sp_le (ha : dueN a (addL f n) = d1) (hb : dueN b ((addL f n).drop d1) = d2) : d1 + d2 ≤ n := by
  have h1 := dueN_le a (addL f n)
  have h2 := dueN_le b ((addL f n).drop d1)
  rw [List.length_drop, addL_len] at h2
  rw [addL_len] at h1
  omega
theorem sp_item (h : Std F k (addL f k)) (e : k = n) {j : Nat} (hj : j < n) : itF F n j = itm ((addL f n).getD j tmZ) := by subst e; exact h.item hj
theorem sp_item2 (h : Std F k (addL f k)) (e : k = n) (ha : dueN a (addL f n) = d1) {j : Nat} (hj : j < n - d1) : itF (popN F n d1) (n - d1) j = itm ((addL f n).getD (d1 + j) tmZ) := by
  subst e; subst ha
  rw [(h.left a).item hj]
  congr 1
  rw [List.getD_eq_getElem?_getD, List.getD_eq_getElem?_getD, List.getElem?_drop]
theorem sp_cat (h : Std F k (addL f k)) (e : k = n) (ha : dueN a (addL f n) = d1) (hb : dueN b ((addL f n).drop d1) = d2) {j : Nat} (hj : j < d1 + d2) : catU (itF F n) d1 (itF (popN F n d1) (n - d1)) j = itm ((addL f n).getD j tmZ) := by
  have := sp_le ha hb
  unfold catU
  by_cases h1 : j < d1
  · rw [if_pos h1]; exact sp_item h e (by omega)
  · rw [if_neg h1, sp_item2 h e ha (by omega), show d1 + (j - d1) = j by omega]
theorem sp_at (hab : a.toNat ≤ b.toNat) (ha : dueN a (addL f n) = d1) (hb : dueN b ((addL f n).drop d1) = d2) {j : Nat} (hj : j < d1 + d2) : (itm ((addL f n).getD j tmZ)).a ≤ b := by
  have h := dueN_lt b (addL f n) j (by rw [due_split hab, ha, hb]; exact hj)
  exact of_decide_eq_true h
end
section bytesin
variable {H : Type} {enc : TypeId × Value → H} {P : Program}
theorem open_slice64 {r : Reach} {b0 : Nat} {W : World} {base : Nat} {sp : Nat → Bool} {held : Bool} {t e : TypeId} {v : Value} {d : DataW H} {ps : List MemPlace} (ht : P.underlying t = some (.slice e)) (he : P.underlying e = some (.int .u64))
    (hc : P.cellsOf e = 1) (hval : Value.okWide P W r b0 t v) (hd : DataW.Trod enc P W base sp held t v d ps) :
    (∃ ao c, v = .slice ao 0 c) ∨ ∃ (b o n c : Nat) (f : Nat → UInt64), v = .slice (some ⟨b, o, none⟩) n c ∧ 0 < n ∧ n ≤ 9223372036854775807 ∧ Holds ⟨b, false, o, tabF n fun k => u64 (f k)⟩ W := by
  obtain ⟨a1, len, cap, rfl⟩ := okWide_slice ht hval
  obtain ⟨fuel, hf⟩ := hd
  by_cases h0 : len = 0
  · subst h0; exact .inl ⟨_, _, rfl⟩
  rcases open_slice1 ht hc hf with ⟨hcs, _⟩ | ⟨a, len', cap', m, n, V, D, Pl, hcs, _, hl, hm, hmm, _, hx⟩
  · simp [Value.cells] at hcs
    exact absurd hcs.2.1 h0
  · simp [Value.cells] at hcs
    obtain ⟨rfl, rfl, rfl⟩ := hcs
    have hlm : len ≤ m := by rw [hmm]; split <;> omega
    have hspot : a.spot = none := World.cell?_spot (by
      have := (hx 0 (by omega)).1
      rwa [show a.add 0 = a from by cases a; simp [Addr.add]] at this)
    obtain ⟨ab, ao, spot⟩ := a
    simp only at hspot
    subst hspot
    have hV : ∀ i, i < len → ∃ x : UInt64, V i = u64 x := fun i hi => by
      obtain ⟨_, h2⟩ := hx i (by omega)
      obtain ⟨x0, e0, _, w0⟩ := DataW.trod_int he h2
      simp at e0
      rw [e0]
      exact u64_of w0
    obtain ⟨f, hfV⟩ := choose_lt (α := UInt64) (p := fun i x => V i = u64 x) hV
    refine .inr ⟨ab, ao, len, cap, f, rfl, by omega, by unfold maxLen at hm; omega, ⟨lt_of_cell (hx 0 (by omega)).1, fun o v ho => ?_, (fun h => by cases h), obj_not rfl⟩⟩
    by_cases hol : o < len
    · rw [tabF_in hol] at ho
      injection ho with ho
      have := (hx o (by omega)).1
      rw [add_none] at this
      rw [this, hfV o hol, ho]
    · rw [tabF_out hol] at ho; cases ho
end bytesin
end Go.Eng
