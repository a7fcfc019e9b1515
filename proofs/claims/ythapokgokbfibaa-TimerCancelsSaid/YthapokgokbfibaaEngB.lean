/-
  An engine for walks, second part: what one operation does, told by a hint; and that it does.
-/
import Derived.Test.YthapokgokbfibaaEngA
namespace Go.Eng

def look {β : Type} : List (Nat × β) → Nat → Option β
  | [], _ => none
  | (k, v) :: r, t => match Nat.beq k t with
    | true => some v
    | false => look r t

def memApply (m : Nat → Option Blk) (upd : List (Nat × Option Blk)) : Nat → Option Blk :=
  fun p => match look upd p with
    | some ob => ob
    | none => m p

def listMem (l : List (Option Blk)) : Nat → Option Blk := fun p => match l[p]? with
  | some ob => ob
  | none => none

structure Post (m : Nat → Option Blk) (w : World) (m' : Nat → Option Blk) (w' : World) : Prop where
  holds : ∀ p b, m' p = some b → Holds b w'
  apart : Apart m'
  adv : Adv m w m' w'

theorem Post.refl {m : Nat → Option Blk} {w : World} (h : ∀ p b, m p = some b → Holds b w) (ha : Apart m) : Post m w m w :=
  ⟨h, ha, .refl m w⟩

/-- A function's call, of what it is told of memory: it hands back, and leaves behind. -/
def Runs (P : Program) (f : FuncId) (args : List Value) (bs : List Blk) (k : Nat) (v : List Nat → Value) (out : List Nat → List (Option Blk)) : Prop :=
  ∀ w, (∀ b ∈ bs, Holds b w) → Apart (listMem (bs.map some)) → Calls P f args.toArray w fun e w' =>
    ∃ ns, ns.length = k ∧ e = .returned (v ns) ∧ Post (listMem (bs.map some)) w (listMem (out ns)) w'

/-- The same of an operation that is no call. -/
def SRuns (P : Program) (s : Sem Next) (bs : List Blk) (k : Nat) (v : List Nat → Value) (out : List Nat → List (Option Blk)) : Prop :=
  ∀ w, (∀ b ∈ bs, Holds b w) → Apart (listMem (bs.map some)) → ∃ ns w', ns.length = k ∧
    (s.run P w = .ok (.value (v ns)) w' ∨ (s.run P w = .ok .skip w' ∧ v ns = undef)) ∧ Post (listMem (bs.map some)) w (listMem (out ns)) w'

/-- Blocks that are only read, as many as there are: none of them is one's own. -/
def Fam (F : Blk → Prop) (m : Nat → Option Blk) (w : World) : Prop := ∀ b, F b → Holds b w ∧ b.own = false ∧ ¬ Owns m b.name
theorem Fam.adv {F : Blk → Prop} {m m' : Nat → Option Blk} {w w' : World} (h : Fam F m w) (ha : Adv m w m' w') : Fam F m' w' := fun b hb => by
  obtain ⟨h1, h2, h3⟩ := h b hb
  have h4 := ha.heap b.name h1.lt h3
  refine ⟨⟨Nat.lt_of_lt_of_le h1.lt ha.size, fun o v ho => ?_, (fun h => by rw [h2] at h; cases h), fun es c hc => by rw [h4]; exact h1.obj es c hc⟩, h2, fun ho => ?_⟩
  · rw [← h1.cell o v ho]
    unfold World.cell?
    simp only [h4]
  · rcases ha.names _ ho with h5 | h5
    · exact h3 h5
    · have := h1.lt; omega
/-- A function's call, where there are blocks beside those that it is told of. -/
def RunsF (F : Blk → Prop) (P : Program) (f : FuncId) (args : List Value) (bs : List Blk) (k : Nat) (v : List Nat → Value) (out : List Nat → List (Option Blk)) : Prop :=
  ∀ w, (∀ b ∈ bs, Holds b w) → Apart (listMem (bs.map some)) → Fam F (listMem (bs.map some)) w → Calls P f args.toArray w fun e w' =>
    ∃ ns, ns.length = k ∧ e = .returned (v ns) ∧ Post (listMem (bs.map some)) w (listMem (out ns)) w'

/-- The same of a call whose function is found by looking at the world. -/
def MRuns (F : Blk → Prop) (P : Program) (s : Sem Next) (bs : List Blk) (k : Nat) (v : List Nat → Value) (out : List Nat → List (Option Blk)) : Prop :=
  ∀ w, (∀ b ∈ bs, Holds b w) → Apart (listMem (bs.map some)) → Fam F (listMem (bs.map some)) w → ∃ f args, s.run P w = .ok (.enter f args) w ∧ Calls P f args w fun e w' =>
    ∃ ns, ns.length = k ∧ e = .returned (v ns) ∧ Post (listMem (bs.map some)) w (listMem (out ns)) w'

def bsCells (z : Value) (size len : Nat) (parts : Array (Nat × Value)) : Option (Array Value) :=
  Instr.fill (fun i => some (i * size, size)) ((Array.range (len * size)).map (z.cells[· % z.cells.size]!)) parts.toList
inductive OpH where
  | g
  | as (v : Value)
  | asf (f : List Value → Value)
  | ld (p : Nat) (l : Loc)
  | st (p : Nat) (l : Loc)
  | stc (p : Nat) (l : Loc) (c : Cont)
  | upd (p : Nat) (c : Cont)
  | bsl
  | new
  | call (ps : List (Nat × Bool)) (k nb : Nat) (v : List Nat → Value) (out : List Nat → List (Option Blk))
  | callF (ps : List (Nat × Bool)) (k nb : Nat) (v : List Nat → Value) (out : List Nat → List (Option Blk))
  | callM (ps : List (Nat × Bool)) (k nb : Nat) (v : List Nat → Value) (out : List Nat → List (Option Blk))
  | pk
  | oth (ps : List (Nat × Bool)) (k nb : Nat) (v : List Nat → Value) (out : List Nat → List (Option Blk))
  | run (h : OpH)
  | skip
  | opt (h : OpH)

/-- How many names are new. -/
def OpH.nn : OpH → Nat
  | .new => 1
  | .bsl => 1
  | .call _ k _ _ _ | .callF _ k _ _ _ | .callM _ k _ _ _ | .oth _ k _ _ _ => k
  | .run h | .opt h => h.nn
  | _ => 0

/-- How many places in memory are new. -/
def OpH.nb : OpH → Nat
  | .new => 1
  | .bsl => 1
  | .call _ _ nb _ _ | .callF _ _ nb _ _ | .callM _ _ nb _ _ | .oth _ _ nb _ _ => nb
  | .run h | .opt h => h.nb
  | _ => 0

/-- The places that are looked at: 'true': they are not written. -/
def OpH.ps : OpH → List (Nat × Bool)
  | .ld p _ => [(p, true)]
  | .st p _ => [(p, false)]
  | .stc p _ _ => [(p, false)]
  | .upd p _ => [(p, false)]
  | .call ps _ _ _ _ | .callF ps _ _ _ _ | .callM ps _ _ _ _ | .oth ps _ _ _ _ => ps
  | .run h | .opt h => h.ps
  | _ => []

structure Eff where
  val : Value
  upd : List (Nat × Option Blk)

def lendL (m : Nat → Option Blk) : List (Nat × Bool) → Option (List Blk)
  | [] => some []
  | (p, ro) :: r => match m p with
    | some b => match lendL m r with
      | some l => some ((match ro with | true => { b with own := false } | false => b) :: l)
      | none => none
    | none => none

def outUpd : List (Nat × Bool) → Nat → List (Option Blk) → List (Nat × Option Blk)
  | _, _, [] => []
  | [], nx, b :: out => (nx, b) :: outUpd [] (nx + 1) out
  | (p, ro) :: r, nx, b :: out => match ro with
    | true => outUpd r nx out
    | false => (p, b) :: outUpd r nx out

def nodupPs : List (Nat × Bool) → Bool
  | [] => true
  | (p, _) :: r => r.all (fun x => !Nat.beq x.1 p) && nodupPs r

def sizeB (P : Program) (t : TypeId) : Option Nat := (P.info? t).map (·.size)
def aggB (P : Program) (t : TypeId) : Option Bool := match P.underlying t with
  | some (.struct _) => some true
  | some (.array _ _) => some true
  | some _ => some false
  | none => none

/-- How many blocks behind those handed in. -/
def newIn (ps : List (Nat × Bool)) (nb : Nat) (out : List (Option Blk)) : Bool := Nat.beq out.length (ps.length + nb)

/-- An operation's value, of its operands' values, whatever the world. -/
def IsOp (P : Program) (op : Op) (vals : List Value) (v : Value) : Prop :=
  ∀ (ρ : Operand → Value) (o : Oper), o.op = op → o.op.operands.toList.map ρ = vals → pureRun P (execOp ρ o) = some (.value v)

/-- The cells of a slice that is built. -/
def bslB (P : Program) (o : Oper) (ρ : Operand → Value) : Option (Nat × List Value) := match o.op with
  | .buildSlice t len parts => match P.underlying t with
    | some (.slice e) => match P.info? e with
      | some i => match i.zero with
        | some z => match bsCells z i.size len (parts.map fun (k, x) => (k, ρ x)) with
          | some cs => some (len, cs.toList)
          | none => none
        | none => none
      | none => none
    | _ => none
  | _ => none

def evCore (F : Blk → Prop) (P : Program) (o : Oper) (ρ : Operand → Value) (m : Nat → Option Blk) (nx : Nat) (ns : List Nat) : OpH → Option (Prop × Eff)
  | .g => match pureRun P (execOp ρ o) with
    | some (.value v) => some (True, ⟨v, []⟩)
    | some .skip => some (True, ⟨undef, []⟩)
    | _ => none
  | .as v => some (IsOp P o.op (o.op.operands.toList.map ρ) v, ⟨v, []⟩)
  | .asf f => some (IsOp P o.op (o.op.operands.toList.map ρ) (f (o.op.operands.toList.map ρ)), ⟨f (o.op.operands.toList.map ρ), []⟩)
  | .ld p l => match o.op with
    | .load t x => match m p with
      | some b => match sizeB P t with
        | some n => match b.cont.load l n with
          | some cs => match aggB P t with
            | some true => some (b.cont.cond l ∧ ρ x = .pointer (some ⟨b.name, b.base + b.cont.off l, none⟩), ⟨.agg cs.toArray, []⟩)
            | some false => match cs with
              | [v] => some (b.cont.cond l ∧ ρ x = .pointer (some ⟨b.name, b.base + b.cont.off l, none⟩), ⟨v, []⟩)
              | _ => none
            | none => none
          | none => none
        | none => none
      | none => none
    | _ => none
  | .st p l => match o.op with
    | .store t x y => match m p with
      | some b => match sizeB P t with
        | some n => match Nat.beq (ρ y).cells.toList.length n && (ρ y).cells.toList.all Value.oneCell' && b.own with
          | true => match b.cont.store l (ρ y).cells.toList with
            | some c => some (b.cont.cond l ∧ ρ x = .pointer (some ⟨b.name, b.base + b.cont.off l, none⟩), ⟨undef, [(p, some { b with cont := c })]⟩)
            | none => none
          | false => none
        | none => none
      | none => none
    | _ => none
  | .stc p l c => match o.op with
    | .store t x y => match m p with
      | some b => match sizeB P t with
        | some n => match Nat.beq (ρ y).cells.toList.length n && (ρ y).cells.toList.all Value.oneCell' && b.own with
          | true => some (b.cont.cond l ∧ ρ x = .pointer (some ⟨b.name, b.base + b.cont.off l, none⟩) ∧ b.cont.store l (ρ y).cells.toList = some c, ⟨undef, [(p, some { b with cont := c })]⟩)
          | false => none
        | none => none
      | none => none
    | _ => none
  | .upd p c => match m p with
    | some b => match b.own with
      | true => some (SRuns P (execOp ρ o) [b] 0 (fun _ => undef) (fun _ => [some { b with cont := c }]), ⟨undef, [(p, some { b with cont := c })]⟩)
      | false => none
    | none => none
  | .bsl => match bslB P o ρ with
    | some (len, cs) => some (SRuns P (execOp ρ o) [] 1 (fun ns => .slice (some ⟨ns.getD 0 0, 0, none⟩) len len) (fun ns => [some ⟨ns.getD 0 0, true, 0, .lit cs⟩]),
        ⟨.slice (some ⟨ns.getD 0 0, 0, none⟩) len len, [(nx, some ⟨ns.getD 0 0, true, 0, .lit cs⟩)]⟩)
    | none => none
  | .new => match ns with
    | [n] => match o.op with
      | .alloc t => match (P.info? t).bind (·.zero) with
        | some z => some (True, ⟨.pointer (some ⟨n, 0, none⟩), [(nx, some ⟨n, true, 0, .lit z.cells.toList⟩)]⟩)
        | none => none
      | .box _ x => some (True, ⟨.pointer (some ⟨n, 0, none⟩), [(nx, some ⟨n, true, 0, .lit (ρ x).cells.toList⟩)]⟩)
      | _ => none
    | _ => none
  | .call ps k nb v out => match pureRun P (execOp ρ o) with
    | some (.enter f args) => match lendL m ps with
      | some bs => match nodupPs ps && newIn ps nb (out ns) with
        | true => some (Runs P f args.toList bs k v out, ⟨v ns, outUpd ps nx (out ns)⟩)
        | false => none
      | none => none
    | _ => none
  | .callF ps k nb v out => match pureRun P (execOp ρ o) with
    | some (.enter f args) => match lendL m ps with
      | some bs => match nodupPs ps && newIn ps nb (out ns) with
        | true => some (RunsF F P f args.toList bs k v out, ⟨v ns, outUpd ps nx (out ns)⟩)
        | false => none
      | none => none
    | _ => none
  | .callM ps k nb v out => match lendL m ps with
    | some bs => match nodupPs ps && newIn ps nb (out ns) with
      | true => some (MRuns F P (execOp ρ o) bs k v out, ⟨v ns, outUpd ps nx (out ns)⟩)
      | false => none
    | none => none
  | .oth ps k nb v out => match lendL m ps with
    | some bs => match nodupPs ps && newIn ps nb (out ns) with
      | true => some (SRuns P (execOp ρ o) bs k v out, ⟨v ns, outUpd ps nx (out ns)⟩)
      | false => none
    | none => none
  | _ => none

/-! ### that it does so -/
theorem look_nil {β : Type} (t : Nat) : look ([] : List (Nat × β)) t = none := rfl
theorem look_cons {β : Type} (k : Nat) (v : β) (r : List (Nat × β)) (t : Nat) : look ((k, v) :: r) t = if k = t then some v else look r t := by
  simp only [look]
  by_cases h : k = t
  · subst h; simp
  · cases hb : Nat.beq k t with
    | true => exact absurd (Nat.eq_of_beq_eq_true hb) h
    | false => simp [h]

theorem memApply_nil (m : Nat → Option Blk) : memApply m [] = m := rfl

theorem outUpd_look (ps : List (Nat × Bool)) : ∀ (nx : Nat) (out : List (Option Blk)) (q : Nat) (ob : Option Blk), look (outUpd ps nx out) q = some ob →
    ∃ i, out[i]? = some ob ∧ (ps[i]? = some (q, false) ∨ (ps.length ≤ i ∧ q = nx + (i - ps.length))) := by
  induction ps with
  | nil =>
    intro nx out q ob
    induction out generalizing nx with
    | nil => intro h; simp [outUpd, look] at h
    | cons b out ih =>
      intro h
      simp only [outUpd, look_cons] at h
      split at h
      · rename_i hq
        injection h with h; subst h; subst hq
        exact ⟨0, rfl, .inr ⟨Nat.le_refl _, by simp⟩⟩
      · obtain ⟨i, h1, h2⟩ := ih _ h
        refine ⟨i + 1, by simpa using h1, .inr ⟨Nat.zero_le _, ?_⟩⟩
        rcases h2 with h2 | ⟨_, h2⟩
        · simp at h2
        · simp at h2 ⊢; omega
  | cons x r ih =>
    obtain ⟨p, ro⟩ := x
    intro nx out q ob h
    cases out with
    | nil => simp [outUpd, look] at h
    | cons b out =>
      cases ro with
      | true =>
        simp only [outUpd] at h
        obtain ⟨i, h1, h2⟩ := ih _ _ _ _ h
        refine ⟨i + 1, by simpa using h1, ?_⟩
        rcases h2 with h2 | ⟨h2, h3⟩
        · exact .inl (by simpa using h2)
        · exact .inr ⟨by simp; omega, by simp; omega⟩
      | false =>
        simp only [outUpd, look_cons] at h
        split at h
        · rename_i hq
          injection h with h; subst h; subst hq
          exact ⟨0, rfl, .inl rfl⟩
        · obtain ⟨i, h1, h2⟩ := ih _ _ _ _ h
          refine ⟨i + 1, by simpa using h1, ?_⟩
          rcases h2 with h2 | ⟨h2, h3⟩
          · exact .inl (by simpa using h2)
          · exact .inr ⟨by simp; omega, by simp; omega⟩

theorem outUpd_some (ps : List (Nat × Bool)) : ∀ (nx : Nat) (out : List (Option Blk)) (i q : Nat), ps[i]? = some (q, false) → ps.length ≤ out.length →
    look (outUpd ps nx out) q ≠ none := by
  induction ps with
  | nil => intro nx out i q h; simp at h
  | cons x r ih =>
    obtain ⟨p, ro⟩ := x
    intro nx out i q h hl
    cases out with
    | nil => simp at hl
    | cons b out =>
      have hl' : r.length ≤ out.length := by simpa using hl
      cases i with
      | zero =>
        simp at h
        obtain ⟨rfl, rfl⟩ := h
        simp [outUpd, look_cons]
      | succ i =>
        have h' : r[i]? = some (q, false) := by simpa using h
        cases ro with
        | true => simp only [outUpd]; exact ih nx out i q h' hl'
        | false =>
          simp only [outUpd, look_cons]
          split
          · simp
          · exact ih nx out i q h' hl'

theorem lendL_get {m : Nat → Option Blk} : ∀ {ps : List (Nat × Bool)} {bs : List Blk}, lendL m ps = some bs →
    bs.length = ps.length ∧ ∀ (i : Nat) (p : Nat) (ro : Bool), ps[i]? = some (p, ro) → ∃ b, m p = some b ∧ bs[i]? = some (match ro with | true => { b with own := false } | false => b)
  | [], bs, h => by
    simp [lendL] at h; subst h
    exact ⟨rfl, fun i p ro h => by simp at h⟩
  | (p, ro) :: r, bs, h => by
    simp only [lendL] at h
    split at h
    · rename_i b hb
      split at h
      · rename_i l hl
        injection h with h; subst h
        obtain ⟨h1, h2⟩ := lendL_get hl
        refine ⟨by simp [h1], fun i q ro' hi => ?_⟩
        cases i with
        | zero =>
          simp at hi
          obtain ⟨rfl, rfl⟩ := hi
          exact ⟨b, hb, rfl⟩
        | succ i =>
          obtain ⟨c, hc1, hc2⟩ := h2 i q ro' (by simpa using hi)
          exact ⟨c, hc1, by simpa using hc2⟩
      · cases h
    · cases h

theorem nodupPs_get : ∀ {ps : List (Nat × Bool)}, nodupPs ps = true → ∀ (i j : Nat) (p q : Nat) (a b : Bool), ps[i]? = some (p, a) → ps[j]? = some (q, b) → i ≠ j → p ≠ q
  | [], _, i, j, p, q, a, b, hi, _, _ => by simp at hi
  | (x, ro) :: r, h, i, j, p, q, a, b, hi, hj, hij => by
    simp only [nodupPs, Bool.and_eq_true, List.all_eq_true] at h
    have key : ∀ (k : Nat) (y : Nat) (c : Bool), r[k]? = some (y, c) → y ≠ x := fun k y c hk => by
      have := h.1 (y, c) (List.mem_of_getElem? hk)
      intro e; subst e; simp at this
    cases i with
    | zero =>
      cases j with
      | zero => exact absurd rfl hij
      | succ j =>
        simp at hi
        obtain ⟨rfl, rfl⟩ := hi
        exact (key j q b (by simpa using hj)).symm
    | succ i =>
      cases j with
      | zero =>
        simp at hj
        obtain ⟨rfl, rfl⟩ := hj
        exact key i p a (by simpa using hi)
      | succ j => exact nodupPs_get h.2 i j p q a b (by simpa using hi) (by simpa using hj) (by omega)

theorem listMem_some {l : List Blk} {i : Nat} {b : Blk} : listMem (l.map some) i = some b ↔ l[i]? = some b := by
  simp only [listMem, List.getElem?_map]
  cases l[i]? <;> simp

theorem lend_owns {m : Nat → Option Blk} {ps : List (Nat × Bool)} {bs : List Blk} (hl : lendL m ps = some bs) {k : Nat} (h : Owns (listMem (bs.map some)) k) :
    ∃ (i p : Nat) (b : Blk), ps[i]? = some (p, false) ∧ m p = some b ∧ b.own = true ∧ b.name = k := by
  obtain ⟨i, b, hb, ho, hk⟩ := h
  rw [listMem_some] at hb
  obtain ⟨h1, h2⟩ := lendL_get hl
  have hi : i < ps.length := by rw [← h1]; exact (List.getElem?_eq_some_iff.1 hb).1
  rcases hp : ps[i] with ⟨p, ro⟩
  have hpi : ps[i]? = some (p, ro) := by rw [List.getElem?_eq_getElem hi, hp]
  obtain ⟨c, hc1, hc2⟩ := h2 i p ro hpi
  rw [hb] at hc2
  cases ro with
  | true => injection hc2 with hc2; subst hc2; cases ho
  | false => injection hc2 with hc2; subst hc2; exact ⟨i, p, b, hpi, hc1, ho, hk⟩

theorem lend_holds {m : Nat → Option Blk} {w : World} (hm : ∀ p b, m p = some b → Holds b w) {ps : List (Nat × Bool)} {bs : List Blk} (hl : lendL m ps = some bs) : ∀ b ∈ bs, Holds b w := by
  intro b hb
  obtain ⟨i, hi⟩ := List.getElem?_of_mem hb
  obtain ⟨h1, h2⟩ := lendL_get hl
  have hi' : i < ps.length := by rw [← h1]; exact (List.getElem?_eq_some_iff.1 hi).1
  rcases hp : ps[i] with ⟨p, ro⟩
  have hpi : ps[i]? = some (p, ro) := by rw [List.getElem?_eq_getElem hi', hp]
  obtain ⟨c, hc1, hc2⟩ := h2 i p ro hpi
  rw [hi] at hc2
  have := hm p c hc1
  cases ro with
  | true => injection hc2 with hc2; subst hc2; exact ⟨this.lt, this.cell, (fun h => by cases h), this.obj⟩
  | false => injection hc2 with hc2; subst hc2; exact this

theorem lend_apart {m : Nat → Option Blk} (ha : Apart m) {ps : List (Nat × Bool)} {bs : List Blk} (hl : lendL m ps = some bs) (hn : nodupPs ps = true) : Apart (listMem (bs.map some)) := by
  intro i j b c hij hb hc ho
  rw [listMem_some] at hb hc
  obtain ⟨h1, h2⟩ := lendL_get hl
  have hi' : i < ps.length := by rw [← h1]; exact (List.getElem?_eq_some_iff.1 hb).1
  have hj' : j < ps.length := by rw [← h1]; exact (List.getElem?_eq_some_iff.1 hc).1
  rcases hp : ps[i] with ⟨p, ro⟩
  rcases hq : ps[j] with ⟨q, ro'⟩
  have hpi : ps[i]? = some (p, ro) := by rw [List.getElem?_eq_getElem hi', hp]
  have hqj : ps[j]? = some (q, ro') := by rw [List.getElem?_eq_getElem hj', hq]
  obtain ⟨x, hx1, hx2⟩ := h2 i p ro hpi
  obtain ⟨y, hy1, hy2⟩ := h2 j q ro' hqj
  rw [hb] at hx2
  rw [hc] at hy2
  have hpq := nodupPs_get hn i j p q ro ro' hpi hqj hij
  have hyn : c.name = y.name := by cases ro' <;> (injection hy2 with hy2; subst hy2; rfl)
  cases ro with
  | true => injection hx2 with hx2; subst hx2; cases ho
  | false => injection hx2 with hx2; subst hx2; rw [hyn]; exact ha p q b y hpq hx1 hy1 ho

theorem post_frame {m : Nat → Option Blk} {w w' : World} (hm : ∀ p b, m p = some b → Holds b w) (ha : Apart m) {ps : List (Nat × Bool)} {bs : List Blk}
    (hl : lendL m ps = some bs) {nx : Nat} {out : List (Option Blk)} (hlen : ps.length ≤ out.length)
    (h : Post (listMem (bs.map some)) w (listMem out) w') : Post m w (memApply m (outUpd ps nx out)) w' := by
  obtain ⟨hh, hap, hadv⟩ := h
  have hro := hadv.ro
  obtain ⟨h1, h2⟩ := lendL_get hl
  have hget : ∀ (i : Nat) (ob : Option Blk), out[i]? = some ob → listMem out i = ob := fun i ob hi => by simp [listMem, hi]
  -- a block that is not written over is where it was
  have hstay : ∀ q c, look (outUpd ps nx out) q = none → m q = some c → ¬ Owns (listMem (bs.map some)) c.name := fun q c hq hc ho => by
    obtain ⟨i, p, b, hpi, hmb, hown, hname⟩ := lend_owns hl ho
    have hpq : p ≠ q := fun e => by subst e; exact outUpd_some ps nx out i p hpi hlen hq
    exact ha p q b c hpq hmb hc hown hname
  have hsub : ∀ k, Owns (listMem (bs.map some)) k → Owns m k := fun k hk => by
    obtain ⟨i, p, b, _, hmb, hown, hname⟩ := lend_owns hl hk
    exact ⟨p, b, hmb, hown, hname⟩
  have hcase : ∀ q c, memApply m (outUpd ps nx out) q = some c →
      (∃ i, listMem out i = some c ∧ look (outUpd ps nx out) q ≠ none ∧ (ps[i]? = some (q, false) ∨ (ps.length ≤ i ∧ q = nx + (i - ps.length)))) ∨
      (look (outUpd ps nx out) q = none ∧ m q = some c) := fun q c hq => by
    unfold memApply at hq
    cases hlk : look (outUpd ps nx out) q with
    | none => rw [hlk] at hq; exact .inr ⟨rfl, hq⟩
    | some ob =>
      rw [hlk] at hq
      simp only at hq
      obtain ⟨i, hi, hpos⟩ := outUpd_look ps nx out q ob hlk
      exact .inl ⟨i, by rw [hget i ob hi, hq], by simp, hpos⟩
  have hnon : ∀ i p c, listMem out i = some c → c.own = false → (ps[i]? = some (p, false) ∨ (ps.length ≤ i ∧ p = nx + (i - ps.length))) → m p = some c := fun i p c hc ho' hpos => by
    have hb := hro i c hc ho'
    rw [listMem_some] at hb
    have hi' : i < ps.length := by rw [← h1]; exact (List.getElem?_eq_some_iff.1 hb).1
    rcases hpos with hpi | ⟨hle, _⟩
    · obtain ⟨x, hx1, hx2⟩ := h2 i p false hpi
      rw [hb] at hx2
      injection hx2 with hx2; subst hx2; exact hx1
    · omega
  -- a block that the call was not told of does not bear a name that it left
  have hother : ∀ i p c q d, listMem out i = some c → look (outUpd ps nx out) p ≠ none → (ps[i]? = some (p, false) ∨ (ps.length ≤ i ∧ p = nx + (i - ps.length))) →
      look (outUpd ps nx out) q = none → m q = some d → (c.own = true ∨ d.own = true) → c.name ≠ d.name := fun i p c q d hc hp hpos hq hd hown heq => by
    by_cases ho : c.own = true
    · rcases hadv.names c.name ⟨i, c, hc, ho, rfl⟩ with hn | hn
      · rw [heq] at hn; exact hstay q d hq hd hn
      · have := (hm q d hd).lt
        omega
    · have ho' : c.own = false := by simpa using ho
      have hd' : d.own = true := hown.resolve_left ho
      have hmp := hnon i p c hc ho' hpos
      have hpq : q ≠ p := fun e => by subst e; exact hp hq
      exact ha q p d c hpq hd hmp hd' heq.symm
  refine ⟨fun q c hq => ?_, fun p q b c hpq hb hc ho => ?_, ⟨hadv.os, hadv.output, hadv.tape, hadv.size, fun k hk hn => hadv.heap k hk (fun h => hn (hsub k h)), fun k hk => ?_, fun q c hq ho => ?_⟩⟩
  · rcases hcase q c hq with ⟨i, hi, _, _⟩ | ⟨hn, hmq⟩
    · exact hh i c hi
    · exact (hm q c hmq).of_heap hadv.size (hadv.heap _ (hm q c hmq).lt (hstay q c hn hmq))
  · rcases hcase p b hb with ⟨i, hi, hip, hipos⟩ | ⟨hn, hmp⟩
    · rcases hcase q c hc with ⟨j, hj, hjq, hjpos⟩ | ⟨hn', hmq⟩
      · refine hap i j b c (fun e => hpq ?_) hi hj ho
        subst e
        rcases hipos with h3 | ⟨h3, h4⟩ <;> rcases hjpos with h5 | ⟨h5, h6⟩
        · rw [h3] at h5; injection h5 with h5; injection h5
        · have := (List.getElem?_eq_some_iff.1 h3).1; omega
        · have := (List.getElem?_eq_some_iff.1 h5).1; omega
        · omega
      · exact hother i p b q c hi hip hipos hn' hmq (.inl ho)
    · rcases hcase q c hc with ⟨j, hj, hjq, hjpos⟩ | ⟨hn', hmq⟩
      · exact (hother j q c p b hj hjq hjpos hn hmp (.inr ho)).symm
      · exact ha p q b c hpq hmp hmq ho
  · obtain ⟨q, c, hq, ho, rfl⟩ := hk
    rcases hcase q c hq with ⟨i, hi, _, _⟩ | ⟨_, hmq⟩
    · rcases hadv.names c.name ⟨i, c, hi, ho, rfl⟩ with h3 | h3
      · exact .inl (hsub _ h3)
      · exact .inr h3
    · exact .inl ⟨q, c, hmq, ho, rfl⟩
  · rcases hcase q c hq with ⟨i, hi, _, hpos⟩ | ⟨_, hmq⟩
    · exact hnon i q c hi ho hpos
    · exact hmq

end Go.Eng
