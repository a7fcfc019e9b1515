/-
  An engine for walks, tenth part: functions.
-/
import Derived.Test.YthapokgokbfibaaEngI
namespace Go.Eng

/-- What is known at a function's beginning. -/
def argEnv : List Value → Nat → List (Nat × EV)
  | [], _ => []
  | v :: r, i => (i, .v v) :: argEnv r (i + 1)

def blkMem : List Blk → Nat → List (Nat × Option Blk)
  | [], _ => []
  | b :: r, i => (i, some b) :: blkMem r (i + 1)

def start (args : List Value) (bs : List Blk) : St := ⟨argEnv args 0, blkMem bs 0, bs.length⟩

/-- What a function hands back: where in memory what lies in a cell stands is told by a hint. -/
def resVal (P : Program) (s : St) : List ResultVar → List (Nat × Nat) → Option (Prop × List Value)
  | [], _ => some (True, [])
  | .tmp t :: r, hs => match look s.env t with
    | some (.v v) => match resVal P s r hs with
      | some (vc, vs) => some (vc, v :: vs)
      | none => none
    | _ => none
  | .cell x t :: r, (p, o) :: hs => match look s.env x with
    | some (.v ad) => match memOf s.mem p with
      | some b => match sizeB P t with
        | some n => match b.cont.load (.lit o) n with
          | some cs => match aggB P t with
            | some true => match resVal P s r hs with
              | some (vc, vs) => some (ad = .pointer (some ⟨b.name, b.base + o, none⟩) ∧ vc, .agg cs.toArray :: vs)
              | none => none
            | some false => match cs with
              | [v] => match resVal P s r hs with
                | some (vc, vs) => some (ad = .pointer (some ⟨b.name, b.base + o, none⟩) ∧ vc, v :: vs)
                | none => none
              | _ => none
            | none => none
          | none => none
        | none => none
      | none => none
    | _ => none
  | .cell _ _ :: _, [] => none

def oneOf : List Value → Value
  | [v] => v
  | vs => .tuple vs.toArray

/-- What a function leaves behind: the blocks that it was told of, and some new ones. -/
def outOf (s : St) (ps : List Nat) : List (Option Blk) := ps.map (memOf s.mem)

/-- What is to be shown at a function's end. -/
def fin (P : Program) (fn : Func) (hs : List (Nat × Nat)) (ps : List Nat) (k : Nat) (v : List Nat → Value) (out : List Nat → List (Option Blk)) (nb : Nat) : Exit → St → Prop := fun e s => match e with
  | .ret | .normal => match resVal P s fn.results.toList hs with
    | some (vc, vs) => vc ∧ ∃ ns, ns.length = k ∧ oneOf vs = v ns ∧ outOf s (List.range nb ++ ps) = out ns
    | none => False
  | _ => False

theorem start_sat {args : List Value} {bs : List Blk} {fn : Func} {w : World} (hm : ∀ b ∈ bs, Holds b w) (ha : Apart (listMem (bs.map some))) (hn : args.length ≤ fn.ntmps) :
    Sat fn.ntmps (start args bs).fs { tmps := args.toArray ++ Array.replicate (fn.ntmps - args.toArray.size) undef, defers := [] } w ∧ (start args bs).fs.mem = listMem (bs.map some) := by
  have henv : ∀ (l : List Value) (i t : Nat) (e : EV), look (argEnv l i) t = some e → ∃ v, e = .v v ∧ i ≤ t ∧ l[t - i]? = some v := by
    intro l
    induction l with
    | nil => intro i t e h; cases h
    | cons v r ih =>
      intro i t e h
      simp only [argEnv, look_cons] at h
      split at h
      · rename_i hit
        injection h with h
        exact ⟨v, h.symm, by omega, by subst hit; simp⟩
      · obtain ⟨v', h1, h2, h3⟩ := ih _ _ _ h
        refine ⟨v', h1, by omega, ?_⟩
        rw [show t - i = (t - (i + 1)) + 1 by omega]
        simpa using h3
  have hmem : ∀ (l : List Blk) (i p : Nat), memOf (blkMem l i) p = if i ≤ p then (l[p - i]?) else none := by
    intro l
    induction l with
    | nil => intro i p; simp [blkMem, memOf, look]
    | cons b r ih =>
      intro i p
      have := ih (i + 1) p
      simp only [memOf] at this
      simp only [blkMem, memOf, look_cons]
      by_cases hip : i = p
      · subst hip; simp
      · simp only [hip, if_false]
        rw [this]
        by_cases hle : i ≤ p
        · rw [if_pos hle, if_pos (by omega), show p - i = (p - (i + 1)) + 1 by omega]; simp
        · rw [if_neg hle, if_neg (by omega)]
  have hfs : (start args bs).fs.mem = listMem (bs.map some) := by
    funext p
    show memOf (blkMem bs 0) p = _
    rw [hmem]
    simp only [Nat.zero_le, if_true, Nat.sub_zero, listMem, List.getElem?_map]
    cases bs[p]? <;> rfl
  refine ⟨⟨rfl, by simp; omega, fun t e ht => ?_, fun p b hb => ?_, by rw [hfs]; exact ha⟩, hfs⟩
  · obtain ⟨v, rfl, _, hv⟩ := henv args 0 t e ht
    have hlt : t < args.length := by
      have := (List.getElem?_eq_some_iff.1 hv).1; omega
    rw [Nat.sub_zero] at hv
    simp only [EV.den]
    rw [Array.getElem?_append_left (by simpa using hlt)]
    simpa using hv
  · rw [hfs, listMem_some] at hb
    exact hm b (List.mem_of_getElem? hb)

theorem run_mapM_results {P : Program} {nt : Nat} {s : St} {a : Act} {w : World} (hs : Sat nt s.fs a w) : ∀ (l : List ResultVar) (hs' : List (Nat × Nat)) (vc : Prop) (vs : List Value),
    resVal P s l hs' = some (vc, vs) → vc → (l.mapM (m := Go.Sem) fun
      | .tmp t => pure (a.tmps.getD t undef)
      | .cell x t => do loadVar t (← asAddr (a.tmps.getD x undef))).run P w = .ok vs w
  | [], _, vc, vs, h, _ => by
    simp only [resVal] at h
    injection h with h; injection h with h1 h2; subst h2
    simp
  | .tmp t :: r, hs', vc, vs, h, hvc => by
    simp only [resVal] at h
    split at h
    · rename_i v hv
      split at h
      · rename_i vc' vs' hr
        injection h with h; injection h with h1 h2; subst h1; subst h2
        have ih := run_mapM_results hs r hs' _ _ hr hvc
        have : a.tmps[t]? = some v := hs.env t (.v v) hv
        simp only [List.mapM_cons, Sem.run_bind, Sem.run_pure, Result.andThen_ok]
        rw [ih]
        simp [this]
      · cases h
    · cases h
  | .cell x t :: r, [], vc, vs, h, hvc => by simp only [resVal] at h; cases h
  | .cell x t :: r, (p, o) :: hs', vc, vs, h, hvc => by
    simp only [resVal] at h
    split at h
    · rename_i ad had
      have hx : a.tmps[x]? = some ad := hs.env x (.v ad) had
      split at h
      · rename_i b hb
        split at h
        · rename_i n hn
          split at h
          · rename_i cs hcs
            have hH := hs.mem p b hb
            obtain ⟨g1, g2⟩ := Cont.load_get hcs (by cases b.cont <;> trivial)
            split at h
            · rename_i hag
              split at h
              · rename_i vc' vs' hr
                injection h with h; injection h with h1 h2; subst h1; subst h2
                have ih := run_mapM_results hs r hs' _ _ hr hvc.2
                have hl := run_loadAt_agg (P := P) (w := w) (b := b.name) (o := b.base + o) hn hag g1 (fun k v hk => by
                  have hkn : k < n := by rw [← g1]; exact (List.getElem?_eq_some_iff.1 hk).1
                  rw [Nat.add_assoc]; exact hH.cell _ v (by have := g2 k hkn; simp only [Cont.off] at this; rw [this, hk]))
                have hl' : (loadVar t ⟨b.name, b.base + o, none⟩).run P w = .ok (.agg cs.toArray) w := by
                  simpa [Instr.loadAt, Instr.sureAddr] using hl
                have hxa : a.tmps.getD x undef = .pointer (some ⟨b.name, b.base + o, none⟩) := by
                  simp [hx, hvc.1]
                have had' : (asAddr (.pointer (some ⟨b.name, b.base + o, none⟩))).run P w = .ok ⟨b.name, b.base + o, none⟩ w := rfl
                simp only [List.mapM_cons, Sem.run_bind, hxa, had', Result.andThen_ok, hl', ih, Sem.run_pure]
              · cases h
            · rename_i hag
              split at h
              · rename_i v
                split at h
                · rename_i vc' vs' hr
                  injection h with h; injection h with h1 h2; subst h1; subst h2
                  have ih := run_mapM_results hs r hs' _ _ hr hvc.2
                  have hl := run_loadAt_one (P := P) (w := w) (b := b.name) (o := b.base + o) (v := v) hag
                    (hH.cell _ v (by have := g2 0 (by rw [← g1]; simp); simpa [Cont.off] using this))
                  have hl' : (loadVar t ⟨b.name, b.base + o, none⟩).run P w = .ok v w := by
                    simpa [Instr.loadAt, Instr.sureAddr] using hl
                  have hxa : a.tmps.getD x undef = .pointer (some ⟨b.name, b.base + o, none⟩) := by
                    simp [hx, hvc.1]
                  have had' : (asAddr (.pointer (some ⟨b.name, b.base + o, none⟩))).run P w = .ok ⟨b.name, b.base + o, none⟩ w := rfl
                  simp only [List.mapM_cons, Sem.run_bind, hxa, had', Result.andThen_ok, hl', ih, Sem.run_pure]
                · cases h
              · cases h
            · cases h
          · cases h
        · cases h
      · cases h
    · cases h

theorem run_results {P : Program} {fn : Func} {nt : Nat} {s : St} {a : Act} {w : World} (hs : Sat nt s.fs a w) {hs' : List (Nat × Nat)} {vc : Prop} {vs : List Value}
    (h : resVal P s fn.results.toList hs' = some (vc, vs)) (hvc : vc) : (results fn a.tmps).run P w = .ok (oneOf vs) w := by
  have h1 := run_mapM_results hs fn.results.toList hs' vc vs h hvc
  unfold results
  rw [Array.mapM_eq_mapM_toList]
  simp only [Sem.run_bind, Sem.run_map]
  erw [h1]
  simp only [Result.andThen_ok, Sem.run_pure]
  congr 1
  match vs with
  | [] => rfl
  | [v] => rfl
  | v :: u :: r => simp [oneOf]

def nodupL : List Nat → Bool
  | [] => true
  | x :: r => r.all (fun y => !Nat.beq y x) && nodupL r

theorem nodupL_get : ∀ {l : List Nat}, nodupL l = true → ∀ (i j p q : Nat), l[i]? = some p → l[j]? = some q → i ≠ j → p ≠ q
  | [], _, i, j, p, q, hi, _, _ => by simp at hi
  | x :: r, h, i, j, p, q, hi, hj, hij => by
    simp only [nodupL, Bool.and_eq_true, List.all_eq_true] at h
    have key : ∀ (k : Nat) (y : Nat), r[k]? = some y → y ≠ x := fun k y hk => by
      have := h.1 y (List.mem_of_getElem? hk)
      intro e; subst e; simp at this
    cases i with
    | zero =>
      cases j with
      | zero => exact absurd rfl hij
      | succ j => simp at hi; subst hi; exact (key j q (by simpa using hj)).symm
    | succ i =>
      cases j with
      | zero => simp at hj; subst hj; exact key i p (by simpa using hi)
      | succ j => exact nodupL_get h.2 i j p q (by simpa using hi) (by simpa using hj) (by omega)

theorem outOf_get {s : St} {l : List Nat} {i : Nat} {b : Blk} (h : listMem (outOf s l) i = some b) : ∃ p, l[i]? = some p ∧ s.fs.mem p = some b := by
  simp only [listMem, outOf, List.getElem?_map] at h
  cases hl : l[i]? with
  | none => rw [hl] at h; simp at h
  | some p => rw [hl] at h; simp at h; exact ⟨p, rfl, h⟩

theorem runsF_of_ev {F : Blk → Prop} {P : Program} {f : FuncId} {fn : Func} {c : Code} {args : List Value} {bs : List Blk} {k : Nat} {v : List Nat → Value} {out : List Nat → List (Option Blk)}
    (hmix : P.follows .mixedOrders = true) (hf : P.funcs[f]? = some fn) (hb : fn.body = some c) (hn : Nat.ble args.length fn.ntmps = true) (n : Nat) (h : H) (hs : List (Nat × Nat)) (ps : List Nat)
    (hps : (nodupL (List.range bs.length ++ ps) && ps.all (fun p => Nat.ble bs.length p)) = true)
    (hev : evF F P fn.ntmps n false c (start args bs) h fun e s _ => fin P fn hs ps k v out bs.length e s) : RunsF F P f args bs k v out := by
  intro w hm ha hF
  obtain ⟨hsat, hmem⟩ := start_sat (fn := fn) (args := args) hm ha (Nat.le_of_ble_eq_true hn)
  simp only [Bool.and_eq_true, List.all_eq_true] at hps
  refine calls_of_wp hf hb (wp_mono (evF_sound hmix n false c _ h _ _ w hev hsat (by rw [hmem]; exact hF)) ?_)
  rintro e a' w' ⟨s', h', hK, hS, hA⟩
  have key : fin P fn hs ps k v out bs.length .ret s' → a'.defers = [] ∧ ∃ u, (results fn a'.tmps).run P w' = .ok u w' ∧
      ∃ ns, ns.length = k ∧ Ending.returned u = .returned (v ns) ∧ Post (listMem (bs.map some)) w (listMem (out ns)) w' := fun hfin => by
    simp only [fin] at hfin
    split at hfin
    · rename_i vc vs hr
      obtain ⟨hvc, ns, hns, hv, hout⟩ := hfin
      refine ⟨hS.defers, oneOf vs, run_results hS hr hvc, ns, hns, by rw [hv], ?_⟩
      rw [← hout]
      rw [hmem] at hA
      have hpos : ∀ i p, (List.range bs.length ++ ps)[i]? = some p → i < bs.length ∧ p = i ∨ bs.length ≤ i ∧ bs.length ≤ p := fun i p hip => by
        by_cases hi : i < bs.length
        · rw [List.getElem?_append_left (by simpa using hi), List.getElem?_range hi] at hip
          injection hip with hip
          exact .inl ⟨hi, hip.symm⟩
        · rw [List.getElem?_append_right (by simp; omega)] at hip
          exact .inr ⟨by omega, Nat.le_of_ble_eq_true (hps.2 p (List.mem_of_getElem? hip))⟩
      refine ⟨fun i b hb => ?_, fun i j b d hij hb hd ho => ?_, ⟨hA.os, hA.output, hA.tape, hA.size, hA.heap, fun q hq => ?_, fun i b hb ho => ?_⟩⟩
      · obtain ⟨p, _, hp⟩ := outOf_get hb
        exact hS.mem p b hp
      · obtain ⟨p, hp1, hp2⟩ := outOf_get hb
        obtain ⟨q, hq1, hq2⟩ := outOf_get hd
        exact hS.apart p q b d (nodupL_get hps.1 i j p q hp1 hq1 hij) hp2 hq2 ho
      · obtain ⟨i, b, hb, ho, rfl⟩ := hq
        obtain ⟨p, _, hp⟩ := outOf_get hb
        exact hA.names _ ⟨p, b, hp, ho, rfl⟩
      · obtain ⟨p, hp1, hp2⟩ := outOf_get hb
        have hro := hA.ro p b hp2 ho
        rcases hpos i p hp1 with ⟨_, rfl⟩ | ⟨_, h2⟩
        · exact hro
        · rw [listMem_some] at hro
          have := (List.getElem?_eq_some_iff.1 hro).1
          omega
    · exact hfin.elim
  cases e with
  | normal => exact key hK
  | ret => exact key hK
  | _ => exact hK.elim

theorem runs_of_ev {P : Program} {f : FuncId} {fn : Func} {c : Code} {args : List Value} {bs : List Blk} {k : Nat} {v : List Nat → Value} {out : List Nat → List (Option Blk)}
    (hmix : P.follows .mixedOrders = true) (hf : P.funcs[f]? = some fn) (hb : fn.body = some c) (hn : Nat.ble args.length fn.ntmps = true) (n : Nat) (h : H) (hs : List (Nat × Nat)) (ps : List Nat)
    (hps : (nodupL (List.range bs.length ++ ps) && ps.all (fun p => Nat.ble bs.length p)) = true)
    (hev : ev P fn.ntmps n false c (start args bs) h fun e s _ => fin P fn hs ps k v out bs.length e s) : Runs P f args bs k v out :=
  fun w hm ha => runsF_of_ev hmix hf hb hn n h hs ps hps hev w hm ha fam_none

end Go.Eng
