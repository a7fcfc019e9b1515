/-
  Many in one: Maps, Fams, Byt, Grow, PurFair, PurSum, PurFns, Opt, BytIn.
-/
import Derived.Test.YtpjllbgipcfedaaZVotesTurned8
import Derived.MapKept
import Derived.WideKeyRuns
section
namespace Go.Eng
open Go.WideShapes
set_option linter.unusedSimpArgs false
set_option linter.unusedVariables false
theorem run_gm {P : Program} {w : World} {r : Nat} {es : Array MapEntry} {clock : Nat} (hb : w.heap[r]? = some (.map es clock)) : (getObj r).run P w = .ok (.map es clock) w := by
  simp [getObj, Sem.run, hb]
theorem run_sm {P : Program} {w : World} {r : Nat} {es : Array MapEntry} {clock : Nat} (o : Obj) (hb : w.heap[r]? = some (.map es clock)) : (setObj r o).run P w = .ok () { w with heap := w.heap.setIfInBounds r o } := by
  simp [setObj, Sem.run, hb]
theorem heap_set' {w : World} {r : Nat} {o o' : Obj} (hb : w.heap[r]? = some o) : (w.heap.setIfInBounds r o')[r]? = some o' ∧ ∀ r', r' ≠ r → (w.heap.setIfInBounds r o')[r']? = w.heap[r']? := by
  have hlt : r < w.heap.size := (Array.getElem?_eq_some_iff.1 hb).1
  exact ⟨by simp [hlt], fun r' hne => by simp [Ne.symm hne]⟩
theorem heap_alloc' (w : World) (o : Obj) : (w.alloc o).heap[w.heap.size]? = some o ∧ ∀ r', r' < w.heap.size → (w.alloc o).heap[r']? = w.heap[r']? := by
  have e : (w.alloc o).heap = w.heap.push o := rfl
  rw [e]
  exact ⟨by simp, fun r' h => by simp [Array.getElem?_push, Nat.ne_of_lt h]⟩
def entsL {α β : Type} (kv : α → Value) (ev : β → Value) : List (α × β) → Nat → List MapEntry
  | [], _ => []
  | (k, x) :: r, i => ⟨kv k, ev x, i⟩ :: entsL kv ev r (i + 1)
def mapC {α β : Type} (kv : α → Value) (ev : β → Value) (l : List (α × β)) : Cont := .map (entsL kv ev l 0).toArray l.length
def findE {α β : Type} (eqb : α → α → Bool) (k : α) : List (α × β) → Option β
  | [] => none
  | (h, x) :: r => if eqb k h = true then some x else findE eqb k r
def putE {α β : Type} (eqb : α → α → Bool) (k : α) (x : β) : List (α × β) → List (α × β)
  | [] => [(k, x)]
  | (h, y) :: r => if eqb k h = true then (k, x) :: r else (h, y) :: putE eqb k x r
def findI {α β : Type} (eqb : α → α → Bool) (k : α) : List (α × β) → Nat → Option (Nat × β)
  | [], _ => none
  | (h, x) :: r, i => if eqb k h = true then some (i, x) else findI eqb k r (i + 1)
structure MapT {α β : Type} (P : Program) (mt kt et : TypeId) (kv : α → Value) (ev : β → Value) (z : β) (eqb : α → α → Bool) : Prop where
  hm : P.underlying mt = some (.map kt et)
  chk : ∀ em k w, (Instr.checkKey em 10000 kt (kv k)).run P w = .ok () w
  fnd : ∀ k (l : List (α × β)) n w, (Instr.findKey kt (kv k) (entsL kv ev l n)).run P w = .ok ((findI eqb k l 0).map fun p => (p.1, ev p.2)) w
  eqr : ∀ k h w, (Op.equal kt (kv k) (kv h)).run P w = .ok (eqb k h) w
  eqv : ∀ k h, eqb k h = true → Instr.sameBits 10000 (kv h) (kv k) = true
  zer : ∀ w, (zeroValue et).run P w = .ok (ev z) w
section
variable {α β : Type} {P : Program} {mt kt et : TypeId} {kv : α → Value} {ev : β → Value} {z : β} {eqb : α → α → Bool}
theorem run_asking (eqr : ∀ (k h : α) w, (Op.equal kt (kv k) (kv h)).run P w = .ok (eqb k h) w) (k : α) (w : World) : ∀ (l : List (α × β)) (n i : Nat), (Instr.findAsking kt (kv k) (entsL kv ev l n) i).run P w = .ok ((findI eqb k l i).map fun p => (p.1, ev p.2)) w
  | [], _, _ => rfl
  | (h, x) :: r, n, i => by
    simp only [entsL, Instr.findAsking, Sem.run_bind, eqr, Result.andThen_ok, findI]
    by_cases e : eqb k h = true
    · rw [if_pos e, if_pos e]; rfl
    · rw [if_neg e, if_neg e]; exact run_asking eqr k w r (n + 1) (i + 1)
theorem run_findKeyM (M : MapT P mt kt et kv ev z eqb) (k : α) (w : World) (l : List (α × β)) : (Instr.findKey kt (kv k) (entsL kv ev l 0)).run P w = .ok ((findI eqb k l 0).map fun p => (p.1, ev p.2)) w := by
  exact M.fnd k l 0 w
theorem findI_E (k : α) : ∀ (l : List (α × β)) (i : Nat), (findI eqb k l i).map (·.2) = findE eqb k l
  | [], _ => rfl
  | (h, x) :: r, i => by
    simp only [findI, findE]
    split
    · rfl
    · exact findI_E k r (i + 1)
theorem findI_spec (k : α) : ∀ (l : List (α × β)) (i j : Nat) (x : β), findI eqb k l i = some (j, x) → ∃ h, i ≤ j ∧ l[j - i]? = some (h, x) ∧ eqb k h = true
  | [], _, _, _, e => by cases e
  | (h, y) :: r, i, j, x, e => by
    simp only [findI] at e
    split at e
    · rename_i he
      injection e with e; injection e with e1 e2; subst e1; subst e2
      exact ⟨h, Nat.le_refl _, by simp, he⟩
    · obtain ⟨h', h1, h2, h3⟩ := findI_spec k r (i + 1) j x e
      exact ⟨h', by omega, by rw [show j - i = (j - (i + 1)) + 1 by omega]; simpa using h2, h3⟩
theorem entsL_get : ∀ (l : List (α × β)) (n j : Nat) (h : α) (x : β), l[j]? = some (h, x) → (entsL kv ev l n)[j]? = some ⟨kv h, ev x, n + j⟩
  | [], _, _, _, _, e => by simp at e
  | (h0, x0) :: r, n, 0, h, x, e => by
    simp at e; obtain ⟨rfl, rfl⟩ := e; simp [entsL]
  | (h0, x0) :: r, n, j + 1, h, x, e => by
    simp only [List.getElem?_cons_succ] at e
    simp only [entsL, List.getElem?_cons_succ]
    rw [entsL_get r (n + 1) j h x e, show n + 1 + j = n + (j + 1) by omega]
theorem entsL_len : ∀ (l : List (α × β)) (n : Nat), (entsL kv ev l n).length = l.length
  | [], _ => rfl
  | _ :: r, n => by simp [entsL, entsL_len r]
theorem entsL_put (k : α) (x : β) : ∀ (l : List (α × β)) (n i : Nat) (j : Nat) (y : β), findI eqb k l i = some (j, y) →
    (entsL kv ev l n).modify (j - i) (fun e => { e with key := kv k, val := ev x }) = entsL kv ev (putE eqb k x l) n ∧ (putE eqb k x l).length = l.length
  | [], _, _, _, _, e => by cases e
  | (h, y0) :: r, n, i, j, y, e => by
    simp only [findI] at e
    split at e
    · rename_i he
      injection e with e; injection e with e1 e2; subst e1
      simp [putE, he, entsL]
    · rename_i he
      obtain ⟨_, h1, _, _⟩ := findI_spec k r (i + 1) j y e
      obtain ⟨i1, i2⟩ := entsL_put k x r (n + 1) (i + 1) j y e
      rw [show j - i = (j - (i + 1)) + 1 by omega]
      simp only [putE, he, entsL]
      simp [i1, i2, entsL]
theorem entsL_new (k : α) (x : β) : ∀ (l : List (α × β)) (n i : Nat), findI eqb k l i = none →
    entsL kv ev l n ++ [⟨kv k, ev x, n + l.length⟩] = entsL kv ev (putE eqb k x l) n ∧ (putE eqb k x l).length = l.length + 1
  | [], n, i, e => by simp [putE, entsL]
  | (h, y0) :: r, n, i, e => by
    simp only [findI] at e
    split at e
    · cases e
    · rename_i he
      obtain ⟨i1, i2⟩ := entsL_new k x r (n + 1) (i + 1) e
      simp only [putE, he, entsL]
      simp only [Bool.false_eq_true, if_false, entsL, List.cons_append, List.length_cons]
      refine ⟨?_, by simp [i2]⟩
      rw [← i1, show n + (r.length + 1) = n + 1 + r.length by omega]
def lookSem (t : TypeId) (x k : Value) (ok : Bool) : Sem Next := do pure (.value (← Instr.lookup t x k ok))
theorem srun_look (M : MapT P mt kt et kv ev z eqb) (b : Nat) (own : Bool) (l : List (α × β)) (k : α) :
    SRuns P (lookSem mt (.map (some b)) (kv k) true) [⟨b, own, 0, mapC kv ev l⟩] 0 (fun _ => .tuple #[ev ((findE eqb k l).getD z), .bool (findE eqb k l).isSome]) (fun _ => [none]) := by
  intro w hall ha
  have hb := (hall _ (List.mem_singleton.2 rfl)).obj _ _ rfl
  refine ⟨[], w, rfl, .inl (run_value ?_), ⟨fun p c hpc => ?_, fun p p' c d hpp hc hd ho => ?_, ⟨rfl, rfl, rfl, Nat.le_refl _, fun _ _ _ => rfl, fun j hj => ?_, fun p c hpc ho => ?_⟩⟩⟩
  · simp only at hb
    unfold Instr.lookup
    simp only [Sem.run_bind, run_underlying M.hm, Result.andThen_ok, run_gm hb, Sem.run_pure, M.chk, run_findKeyM M]
    have hE := findI_E (eqb := eqb) k l 0
    cases hf : findI eqb k l 0 with
    | none =>
      rw [hf] at hE; simp only [Option.map_none] at hE
      rw [← hE]
      simp [M.zer]
    | some q =>
      rw [hf] at hE; simp only [Option.map_some] at hE
      rw [← hE]
      simp
  · rcases p with _ | p <;> simp [listMem] at hpc
  · rcases p with _ | p <;> simp [listMem] at hc
  · obtain ⟨p, c, hpc, _, _⟩ := hj
    rcases p with _ | p <;> simp [listMem] at hpc
  · rcases p with _ | p <;> simp [listMem] at hpc
def updSem (t : TypeId) (x k v : Value) : Sem Next := do Instr.mapUpdate t x k v; pure .skip
theorem post_map {b : Nat} {es es' : Array MapEntry} {c c' : Nat} {w : World} (h : Holds ⟨b, true, 0, .map es c⟩ w) :
    Post (listMem ([⟨b, true, 0, .map es c⟩].map some)) w (listMem [some ⟨b, true, 0, .map es' c'⟩]) { w with heap := w.heap.setIfInBounds b (.map es' c') } := by
  have hb := h.obj _ _ rfl
  obtain ⟨h1, h2⟩ := heap_set' (o' := .map es' c') hb
  refine ⟨fun p q hpq => ?_, fun p p' q d hpp hc hd ho => ?_, ⟨rfl, rfl, rfl, by simp, fun j hj hn => h2 j fun e => ?_, fun j hj => ?_, fun p q hpq ho => ?_⟩⟩
  · rcases p with _ | p
    · injection hpq with hpq; subst hpq
      exact ⟨by simpa using h.lt, (fun o v ho => by cases ho), (fun _ o v ho => by cases ho), fun es2 c2 e2 => by injection e2 with e2 e3; subst e2; subst e3; exact h1⟩
    · simp [listMem] at hpq
  · rcases p with _ | p
    · rcases p' with _ | p'
      · exact absurd rfl hpp
      · simp [listMem] at hd
    · simp [listMem] at hc
  · subst e
    exact hn ⟨0, _, rfl, rfl, rfl⟩
  · obtain ⟨p, q, hpq, ho, rfl⟩ := hj
    rcases p with _ | p
    · injection hpq with hpq; subst hpq; exact .inl ⟨0, _, rfl, rfl, rfl⟩
    · simp [listMem] at hpq
  · rcases p with _ | p
    · injection hpq with hpq; subst hpq; cases ho
    · simp [listMem] at hpq
theorem srun_upd (M : MapT P mt kt et kv ev z eqb) (b : Nat) (l : List (α × β)) (k : α) (x : β) :
    SRuns P (updSem mt (.map (some b)) (kv k) (ev x)) [⟨b, true, 0, mapC kv ev l⟩] 0 (fun _ => undef) (fun _ => [some ⟨b, true, 0, mapC kv ev (putE eqb k x l)⟩]) := by
  intro w hall ha
  have hH := hall _ (List.mem_singleton.2 rfl)
  have hb := hH.obj _ _ rfl
  simp only at hb
  refine ⟨[], _, rfl, .inr ⟨?_, rfl⟩, post_map hH⟩
  unfold updSem Instr.mapUpdate
  simp only [Sem.run_bind, run_underlying M.hm, Result.andThen_ok, run_gm hb, M.chk, run_findKeyM M]
  cases hf : findI eqb k l 0 with
  | none =>
    obtain ⟨i1, i2⟩ := entsL_new (kv := kv) (ev := ev) k x l 0 0 hf
    simp only [Option.map_none, run_sm _ hb, Sem.run_pure, Result.andThen_ok]
    congr 4
    · rw [← i1]; simp
    · exact i2.symm
  | some q =>
    obtain ⟨j, y⟩ := q
    obtain ⟨h, _, h2, h3⟩ := findI_spec k l 0 j y hf
    obtain ⟨i1, i2⟩ := entsL_put (kv := kv) (ev := ev) k x l 0 0 j y hf
    have hj := entsL_get (kv := kv) (ev := ev) l 0 j h y (by simpa using h2)
    have hs := M.eqv k h h3
    simp only [Option.map_some, List.getElem?_toArray, hj, Option.getD_some, Instr.keyThatStays, hs, if_true, Sem.run_pure, Result.andThen_ok, run_sm _ hb]
    rw [i2, ← i1]
    simp [run_sm _ hb]
def mkmSem (t : TypeId) : Sem Next := do pure (.value (← Instr.makeMap t none))
theorem srun_mkm (t : TypeId) : SRuns P (mkmSem t) [] 1 (fun ns => .map (some (ns.getD 0 0))) (fun ns => [some ⟨ns.getD 0 0, true, 0, mapC kv ev []⟩]) := by
  intro w hall ha
  obtain ⟨h1, h2⟩ := heap_alloc' w (.map #[] 0)
  refine ⟨[w.heap.size], w.alloc (.map #[] 0), rfl, .inl (run_value rfl), ⟨fun p c hpc => ?_, fun p p' c d hpp hc hd ho => ?_, ⟨rfl, rfl, rfl, by simp, fun j hj _ => h2 j hj, fun j hj => ?_, fun p c hpc ho => ?_⟩⟩⟩
  · rcases p with _ | p
    · injection hpc with hpc; subst hpc
      exact ⟨by simp, (fun o v ho => by cases ho), (fun _ o v ho => by cases ho), fun es2 c2 e2 => by injection e2 with e2 e3; subst e2; subst e3; exact h1⟩
    · simp [listMem] at hpc
  · rcases p with _ | p
    · rcases p' with _ | p'
      · exact absurd rfl hpp
      · simp [listMem] at hd
    · simp [listMem] at hc
  · obtain ⟨p, c, hpc, ho, rfl⟩ := hj
    rcases p with _ | p
    · injection hpc with hpc; subst hpc; exact .inr (Nat.le_refl _)
    · simp [listMem] at hpc
  · rcases p with _ | p
    · injection hpc with hpc; subst hpc; cases ho
    · simp [listMem] at hpc
end
def ev0 (_ : Unit) : Value := .agg #[]
theorem run_part_int {P : Program} {e : TypeId} {k : IntKind} {cs : Array Value} {i : Nat} {v : Value} (w : World) (he : P.underlying e = some (.int k)) (hv : cs[i]? = some v) : (part e cs i).run P w = .ok v w := pureRun_run (pureRun_part he hv) w
end Go.Eng
end
section
namespace Go.Eng
open Go.RowKit Go.WideShapes Go.ChangeShapes Go.ChangeAt Go.Deep
set_option linter.unusedSimpArgs false
set_option linter.unusedVariables false
set_option maxRecDepth 100000
theorem Runs.toF {F : Blk → Prop} {P : Program} {f : FuncId} {args : List Value} {bs : List Blk} {k : Nat} {v : List Nat → Value} {out : List Nat → List (Option Blk)} (h : Runs P f args bs k v out) : RunsF F P f args bs k v out :=
  fun w hb ha _ => h w hb ha
theorem RunsF.mono {F F' : Blk → Prop} {P : Program} {f : FuncId} {args : List Value} {bs : List Blk} {k : Nat} {v : List Nat → Value} {out : List Nat → List (Option Blk)} (hs : ∀ b, F b → F' b) (h : RunsF F P f args bs k v out) : RunsF F' P f args bs k v out :=
  fun w hb ha hF => h w hb ha fun b hb' => hF b (hs b hb')
def noneL : List Blk → List (Option Blk)
  | [] => []
  | _ :: r => none :: noneL r
theorem noneL_get : ∀ (l : List Blk) (p : Nat) (b : Blk), listMem (noneL l) p ≠ some b
  | [], p, b => by simp [noneL, listMem]
  | _ :: r, 0, b => by simp [noneL, listMem]
  | _ :: r, p + 1, b => noneL_get r p b
theorem RunsF.read {F : Blk → Prop} {P : Program} {f : FuncId} {args : List Value} {cs : List Blk} {v : Value} (h : RunsF F P f args [] 0 (fun _ => v) (fun _ => []))
    (hF : ∀ w : World, (∀ b ∈ cs, Holds b w) → ∀ b, F b → Holds b w ∧ b.own = false) (hb : ∀ b ∈ cs, b.own = false) : Runs P f args cs 0 (fun _ => v) (fun _ => noneL cs) := by
  intro w hm ha
  have hno : ∀ k, ¬ Owns (listMem (([] : List Blk).map some)) k := fun k ⟨p, b, h1, h2, _⟩ => by cases h1
  refine Calls.mono (h w (fun b hb' => by cases hb') (fun p q b c _ hpb _ ho => by cases hpb) (fun b hFb => ⟨(hF w hm b hFb).1, (hF w hm b hFb).2, hno _⟩)) ?_
  rintro e w' ⟨ns, hns, he, hp⟩
  refine ⟨ns, hns, he, ⟨fun p b hpb => absurd hpb (noneL_get _ _ _), fun p q b c _ hpb _ _ => absurd hpb (noneL_get _ _ _), ⟨hp.adv.os, hp.adv.output, hp.adv.tape, hp.adv.size, fun k hk _ => hp.adv.heap k hk (hno k), fun k ⟨p, b, h1, _, _⟩ => absurd h1 (noneL_get _ _ _), fun p b hpb _ => absurd hpb (noneL_get _ _ _)⟩⟩⟩
section
variable {P : Program} {t e : TypeId} {x ix : Operand}
end
theorem RunsF.over {F F' : Blk → Prop} {P : Program} {f : FuncId} {args : List Value} {bs : List Blk} {k : Nat} {v : List Nat → Value} {out : List Nat → List (Option Blk)} (hs : ∀ b, F b → ∃ b', F' b' ∧ b.name = b'.name ∧ b.own = b'.own ∧ ∀ w : World, Holds b' w → Holds b w) (h : RunsF F P f args bs k v out) : RunsF F' P f args bs k v out :=
  fun w hb ha hF => h w hb ha fun b hb' => by
    obtain ⟨b', h1, h2, h3, h4⟩ := hs b hb'
    obtain ⟨k1, k2, k3⟩ := hF b' h1
    exact ⟨h4 w k1, h3.trans k2, by rw [h2]; exact k3⟩
end Go.Eng
end
section
set_option linter.unusedSimpArgs false
set_option linter.unusedVariables false
set_option maxRecDepth 100000
namespace Go.Eng
structure BytL where
  wa : Option Addr
  wn : Nat
  wc : Nat
  wb : Nat
  wo : Nat
  wf : Nat → UInt8
def bytZ (a : Option Addr) (c : Nat) : BytL := ⟨a, 0, c, 0, 0, fun _ => 0⟩
section
variable {P : Program} {t e t' : TypeId} {x y z : Operand}
end
section
variable {P : Program} {t ty e : TypeId}
theorem mk_build0 {B : Nat} {z : Value} (ht : P.underlying t = some (.slice e)) (h1 : OneC P e z B) {α : Type} (K : α → Value) (g : Nat → α) :
    SRuns P (buildSem t 0 #[]) [] 1 (fun ns => .slice (some ⟨ns.getD 0 0, 0, none⟩) 0 0) (fun ns => [some ⟨ns.getD 0 0, true, 0, spr (0 + 0) 0 (fun k => K (g k)) z⟩]) := by
  obtain ⟨i, hi, hz, hsz, hB, hzc⟩ := h1
  have h0 : SRuns P (buildSem t 0 #[]) [] 1 (fun ns => .slice (some ⟨ns.getD 0 0, 0, none⟩) 0 0) (fun ns => [some ⟨ns.getD 0 0, true, 0, .lit (#[] : Array Value).toList⟩]) := srun_made (e := e) fun w => by
    refine run_value ?_
    simp [Instr.buildSlice, run_underlying ht, sizeOf, typeInfo, hi, newRow, Instr.fill]
    exact congrArg (fun a => w.alloc (Obj.cells a e)) (Array.eq_empty_of_size_eq_zero (by simp))
  exact h0.recont (C' := fun _ => spr (0 + 0) 0 (fun k => K (g k)) z) (fun _ => rfl) fun ns o v ho => by
    rw [spr, tabF_out (by omega)] at ho; cases ho
end
end Go.Eng
namespace Go.Eng
end Go.Eng
namespace Go.Eng
theorem listMem_left {a b : List (Option Blk)} {p : Nat} (hp : p < a.length) : listMem (a ++ b) p = listMem a p := by
  unfold listMem; rw [List.getElem?_append_left hp]
end Go.Eng
namespace Go.Eng
theorem Runs.fam {F : Blk → Prop} {P : Program} {f : FuncId} {args : List Value} {B : Blk} {v : Value} {o : List (Option Blk)} (h : Runs P f args [B] 0 (fun _ => v) (fun _ => o)) (hB : F B) : RunsF F P f args [] 0 (fun _ => v) (fun _ => []) := by
  intro w hm ha hF
  obtain ⟨h1, h2, _⟩ := hF B hB
  have hno : ∀ k, ¬ Owns (listMem ([B].map some)) k := fun k ⟨p, b, hp, ho, _⟩ => by
    rcases p with _ | p
    · cases hp; rw [h2] at ho; cases ho
    · simp [listMem] at hp
  refine Calls.mono (h w (fun b hb => by simp at hb; subst hb; exact h1) (fun p q b c _ hb _ ho => by
    rcases p with _ | p
    · cases hb; rw [h2] at ho; cases ho
    · simp [listMem] at hb)) ?_
  rintro e w' ⟨ns, hns, he, hp⟩
  have hnil : ∀ p b, listMem ([] : List (Option Blk)) p ≠ some b := fun p b => by simp [listMem]
  exact ⟨ns, hns, he, ⟨fun p b hpb => absurd hpb (hnil p b), fun p q b c _ hpb => absurd hpb (hnil p b), ⟨hp.adv.os, hp.adv.output, hp.adv.tape, hp.adv.size, fun k hk _ => hp.adv.heap k hk (hno k), fun k ⟨p, b, hpb, _⟩ => absurd hpb (hnil p b), fun p b hpb => absurd hpb (hnil p b)⟩⟩⟩
section
variable {P : Program} {t e t' : TypeId} {x y z : Operand}
end
section
variable {P : Program} {t t' : TypeId} {x y : Operand} (a b : UInt8)
end
end Go.Eng
namespace Go.Eng
end Go.Eng
namespace Go.Eng
end Go.Eng
namespace Go.Eng
section
variable {P : Program} {t t' : TypeId} {x y : Operand}
end
end Go.Eng
namespace Go.Eng
end Go.Eng
namespace Go.Eng
theorem RunsF.drop {F : Blk → Prop} {P : Program} {f : FuncId} {args : List Value} {bs : List Blk} {k : Nat} {v : List Nat → Value} {o nw : List Nat → List (Option Blk)} (h : RunsF F P f args bs k v (fun ns => o ns ++ nw ns)) : RunsF F P f args bs k v o := fun w hb ha hF =>
  Calls.mono (h w hb ha hF) fun e w' ⟨ns, h1, h2, hp⟩ => by
    have hs : ∀ p b, listMem (o ns) p = some b → listMem (o ns ++ nw ns) p = some b := fun p b h => by
      have hl : p < (o ns).length := (List.getElem?_eq_some_iff.1 (show (o ns)[p]? = some (some b) by
        unfold listMem at h
        cases h3 : (o ns)[p]? with
        | none => rw [h3] at h; cases h
        | some x => rw [h3] at h; simp at h; rw [h])).1
      rw [listMem_left hl]; exact h
    exact ⟨ns, h1, h2, ⟨fun p b h => hp.holds p b (hs p b h), fun p q b c hpq hb hc => hp.apart p q b c hpq (hs p b hb) (hs q c hc), hp.adv.weak hs⟩⟩
end Go.Eng
end
section
set_option linter.unusedSimpArgs false
set_option linter.unusedVariables false
set_option maxRecDepth 100000
namespace Go.Eng
structure Grw (α : Type) where
  z : Bool
  nm : Nat
  n : Nat
  r : Nat
  f : Nat → α
section
variable {α : Type} {K : α → Value} {zv : Value} {A : Grw α}
end
section
variable {P : Program} {t ty e : TypeId}
end
end Go.Eng
namespace Go.Eng
section
variable {P : Program} {t ty e : TypeId}
end
end Go.Eng
end
section
namespace Go.Eng
open Go.RowKit Go.WideShapes Go.ChangeShapes Go.ChangeAt Go.Deep
set_option linter.unusedSimpArgs false
set_option linter.unusedVariables false
set_option maxRecDepth 100000
theorem N4.a_of_lt {q : N4} (h : q.val < 2 ^ 64) : q.a.toNat = q.val := by
  have hb := q.b.toNat_lt
  unfold N4.val at h ⊢
  omega
section
variable {n : Nat} {w : Nat → UInt64} {pot : UInt64}
end
end Go.Eng
end
section
namespace Go.Eng
open Go.RowKit Go.WideShapes Go.ChangeShapes Go.ChangeAt Go.Deep
set_option linter.unusedSimpArgs false
set_option linter.unusedVariables false
set_option maxRecDepth 100000
end Go.Eng
end
section
namespace Go.Proofs.Ytpjllbgipcfedaa
open Go Go.Eng
set_option linter.unusedVariables false
set_option linter.unusedSimpArgs false
set_option maxRecDepth 100000
theorem one26 : OneC Try.prog 26 (u64 0) 8 := oneC_of (by kernel_rfl) rfl
def total_runs_S1 (p : Nat) (o : Nat) (n : Nat) (c : Nat) (f : Nat → UInt64) (n1 : Nat) (n2 : Nat) (x1 : Nat × N4) : St := ⟨[(2, .v (ptr n1 0)), (3, .v (ptr n2 0)), (6, .v (Value.slice (some ⟨p, o, none⟩) n c)), (7, .v (nat n)), (8, .v (nat x1.1))], [(0, some ⟨p, false, o, (tabF n (fun k => u64 (f k)))⟩), (1, some ⟨n1, true, 0, (.lit [(u64 0), (u64 0), (u64 0), (u64 0)])⟩), (2, some ⟨n2, true, 0, (.lit [(u64 x1.2.a), (u64 x1.2.b), (u64 x1.2.c), (u64 x1.2.d)])⟩)], 3⟩
def total_runs_R1 (p : Nat) (o : Nat) (n : Nat) (c : Nat) (f : Nat → UInt64) (n1 : Nat) (n2 : Nat) (x1 : Nat × N4) : Prop := (x1.1 ≤ n) ∧ (x1.2 = totN f x1.1)
def total_runs_mu1 (p : Nat) (o : Nat) (n : Nat) (c : Nat) (f : Nat → UInt64) (n1 : Nat) (n2 : Nat) (x1 : Nat × N4) : Nat := n - x1.1
theorem total_runs (p o n c : Nat) (f : Nat → UInt64) (hn : n ≤ 9223372036854775807) : Runs Try.prog 35 [(Value.slice (some ⟨p, o, none⟩) n c)] [⟨p, false, o, (tabF n (fun k => u64 (f k)))⟩] 0 (fun (_ : List Nat) => nat4 (totN f n)) (fun (_ : List Nat) => [some ⟨p, false, o, (tabF n (fun k => u64 (f k)))⟩]) :=
  runs_of_ev mix Try.func35 rfl rfl 400 (.regn [(0, .new)] (more (fun n1 => fun _ => (.regn [(0, .new)] (more (fun n2 => fun _ => (.reg [(0, .g), (1, (.as (nat n))), (2, .g)] (.inv [2, 3, 6, 7, 8] [0, 1, 2] 3 (total_runs_R1 p o n c f n1 n2) (total_runs_S1 p o n c f n1 n2) (total_runs_mu1 p o n c f n1 n2) ((0, (N4.mk 0 0 0 0)) : Nat × N4) (fun (x1 : Nat × N4) => (.reg [(0, (.as (Value.bool (decide (x1.1 < n)))))] (.br (.reg [(0, (.as (ptr p (o + x1.1 * 1)))), (1, (.ld 0 (.tab x1.1 0))), (2, .g)] (.reg [(0, (.ld 2 (.lit 0))), (1, .g), (2, (.call [] 0 0 (fun _ => (Value.agg #[(u64 (f x1.1)), (u64 0), (u64 0), (u64 0)])) (fun _ => []))), (3, (.call [] 0 0 (fun _ => (Value.tuple #[(nat4 (add4 x1.2 (N4.mk (f x1.1) 0 0 0))), (u64 (b2u (add4c x1.2 (N4.mk (f x1.1) 0 0 0))))])) (fun _ => []))), (4, .g), (5, .g), (6, .g), (7, (.st 2 (.lit 0)))] (.reg [(0, (.as (nat (x1.1 + 1)))), (1, .g)] .done))) (.reg [(0, (.ld 2 (.lit 0))), (1, (.st 1 (.lit 0)))] .done)))))))))))) [(1, 0)] [] rfl
    (have f0 : n ≤ 9223372036854775807 := hn; Eq.mp (by kernel_rfl) (fun (n1 : Nat) => And.intro (sk trivial) (fun (n2 : Nat) => And.intro (sk trivial) (And.intro (sk (And.intro (And.intro trivial (@is_len Try.prog 22 26 (.tmp 6) (by kernel_rfl) (some ⟨p, o, none⟩) n c)) (sk trivial))) (And.intro (show (total_runs_R1 p o n c f n1 n2) ((0, (N4.mk 0 0 0 0)) : Nat × N4) from (show (0 ≤ n) ∧ ((N4.mk 0 0 0 0) = totN f 0) from by exact ⟨by omega, rfl⟩)) (And.intro (@rfl St ((total_runs_S1 p o n c f n1 n2) ((0, (N4.mk 0 0 0 0)) : Nat × N4))) (fun (x1 : Nat × N4) (hx1 : (total_runs_R1 p o n c f n1 n2) x1) => have B0 : x1.1 ≤ n := hx1.1; have B1 : x1.2 = totN f x1.1 := hx1.2; And.intro (And.intro (And.intro trivial (@is_lssn Try.prog 3 3 (.tmp 8) (.tmp 7)  x1.1 n)) trivial) (And.intro trivial (And.intro (fun (h1 : (decide (x1.1 < n)) = true) => have f3 : (x1.1 < n) := (of_decide_eq_true h1); And.intro (And.intro (And.intro trivial (@is_ixSl Try.prog 22 26 (.tmp 6) (.tmp 8) 1 (by kernel_rfl) (by kernel_rfl) p o n c x1.1 (show x1.1 < n from by omega))) (And.intro (And.intro trivial (And.intro (show x1.1 < n from by omega) (@rfl Value (ptr p (o + x1.1 * 1))))) (sk trivial))) (And.intro (And.intro (And.intro trivial (ad n2 0)) (sk (And.intro (And.intro trivial (small_pure (f x1.1))) (And.intro (And.intro trivial (add_pure x1.2 (N4.mk (f x1.1) 0 0 0))) (sk (sk (sk (And.intro (And.intro trivial (ad n2 0)) trivial)))))))) (And.intro (And.intro (And.intro trivial (@is_addn Try.prog 3 3 (.tmp 8) (.const (.int .i64 1))  x1.1 1 (show x1.1 + 1 ≤ 9223372036854775807 from by omega))) (sk trivial)) ((rnd (total_runs_R1 p o n c f n1 n2) (total_runs_S1 p o n c f n1 n2) (total_runs_mu1 p o n c f n1 n2) x1 ((x1.1 + 1, (add4 x1.2 (N4.mk (f x1.1) 0 0 0))) : Nat × N4) (show (total_runs_R1 p o n c f n1 n2) ((x1.1 + 1, (add4 x1.2 (N4.mk (f x1.1) 0 0 0))) : Nat × N4) ∧ (total_runs_mu1 p o n c f n1 n2) ((x1.1 + 1, (add4 x1.2 (N4.mk (f x1.1) 0 0 0))) : Nat × N4) < (total_runs_mu1 p o n c f n1 n2) x1 from (show (((x1.1 + 1) ≤ n) ∧ ((add4 x1.2 (N4.mk (f x1.1) 0 0 0)) = totN f (x1.1 + 1))) ∧ (n - (x1.1 + 1)) < (n - x1.1) from by exact ⟨⟨by omega, by rw [B1] <;> rfl⟩, by omega⟩))))))) (fun (h1 : (decide (x1.1 < n)) = false) => have f3 : ¬ (x1.1 < n) := (of_decide_eq_false h1); And.intro (And.intro (And.intro trivial (ad n2 0)) (And.intro (And.intro trivial (ad n1 0)) trivial)) (And.intro (And.intro (@rfl Value (ptr n1 0)) trivial) (@Exists.intro (List Nat) (fun (ns : List Nat) => ns.length = 0 ∧ ((nat4 x1.2) : Value) = (fun (_ : List Nat) => nat4 (totN f n)) ns ∧ ([some ⟨p, false, o, (tabF n (fun k => u64 (f k)))⟩] : List (Option Blk)) = (fun (_ : List Nat) => [some ⟨p, false, o, (tabF n (fun k => u64 (f k)))⟩]) ns) [] (And.intro (@rfl Nat 0) (And.intro ((show (nat4 x1.2) = nat4 (totN f n) from by have e : x1.1 = n := (by omega); rw [e] at B1; rw [← B1] <;> rfl)) (@rfl (List (Option Blk)) [some ⟨p, false, o, (tabF n (fun k => u64 (f k)))⟩])))))))))))))))
theorem clone_raw (p o n c : Nat) (f : Nat → UInt64) (hn : 0 < n ∧ n ≤ 40) : Runs Try.prog 37 [(Value.slice (some ⟨p, o, none⟩) n c)] [⟨p, false, o, (tabF n (fun k => u64 (f k)))⟩] 2 (fun (ns : List Nat) => (Value.slice (some ⟨(ns.getD 0 0), 0, none⟩) (0 + n) (0 + n + (ns.getD 1 0)))) (fun (ns : List Nat) => [some ⟨p, false, o, (tabF n (fun k => u64 (f k)))⟩, some ⟨(ns.getD 0 0), true, 0, (spr (0 + n + (ns.getD 1 0)) (0 + n) (fun k => u64 (catU (fun _ => 0) 0 f k)) (u64 0))⟩]) :=
  runs_of_ev mix Try.func37 rfl rfl 400 (.reg [(0, .g)] (.reg [(0, .g), (1, .g)] (.no (.regn [(0, (.oth [] 1 1 (fun ns => Value.slice (some ⟨ns.getD 0 0, 0, none⟩) 0 0) (fun ns => [some ⟨ns.getD 0 0, true, 0, (spr (0 + 0) 0 (fun k => u64 ((fun _ => 0) k)) (u64 0))⟩]))), (1, .g), (2, (.oth [(1, false), (0, true)] 2 0 (fun ns => Value.slice (some ⟨(ns.getD 0 0), 0, none⟩) (0 + n) (0 + n + (ns.getD 1 0))) (fun ns => [some ⟨(ns.getD 0 0), true, 0, (spr (0 + n + (ns.getD 1 0)) (0 + n) (fun k => u64 (catU (fun _ => 0) 0 f k)) (u64 0))⟩, none]))), (3, .g)] (more (fun n1 => more (fun n2 => more (fun n3 => fun _ => .done)))))))) [] [1] rfl
    (have f0 : 0 < n ∧ n ≤ 40 := hn; Eq.mp (by kernel_rfl) (And.intro (sk trivial) (And.intro (sk (sk trivial)) (And.intro trivial (And.intro (@rfl Bool false) (fun (n1 n2 n3 : Nat) => And.intro (And.intro (And.intro trivial (mk_build0 (P := Try.prog) (t := 22) (e := 26) (by kernel_rfl) one26 u64 (fun _ => 0))) (sk (And.intro (And.intro trivial (SRuns.dark [false, true] (mk_append (P := Try.prog) (t := 22) (ty := 22) (e := 26) (by kernel_rfl) one26 n1 0 0 p o 0 n c u64 (fun _ => 0) f (tabF n (fun k => u64 (f k))) (fun j hj => by rw [Nat.zero_add]; exact tabF_in hj) (fun _ => rfl) (show (0 + n) * 8 ≤ 140737488355328 ∧ 0 + n ≤ 9223372036854775807 from by omega)))) (sk trivial)))) (And.intro trivial (@Exists.intro (List Nat) (fun (ns : List Nat) => ns.length = 2 ∧ ((Value.slice (some ⟨n2, 0, none⟩) (0 + n) (0 + n + n3)) : Value) = (fun (ns : List Nat) => (Value.slice (some ⟨(ns.getD 0 0), 0, none⟩) (0 + n) (0 + n + (ns.getD 1 0)))) ns ∧ ([some ⟨p, false, o, (tabF n (fun k => u64 (f k)))⟩, some ⟨n2, true, 0, (spr (0 + n + n3) (0 + n) (fun k => u64 (catU (fun _ => 0) 0 f k)) (u64 0))⟩] : List (Option Blk)) = (fun (ns : List Nat) => [some ⟨p, false, o, (tabF n (fun k => u64 (f k)))⟩, some ⟨(ns.getD 0 0), true, 0, (spr (0 + n + (ns.getD 1 0)) (0 + n) (fun k => u64 (catU (fun _ => 0) 0 f k)) (u64 0))⟩]) ns) [n2, n3] (And.intro (@rfl Nat 2) (And.intro (@rfl Value (Value.slice (some ⟨n2, 0, none⟩) (0 + n) (0 + n + n3))) (@rfl (List (Option Blk)) [some ⟨p, false, o, (tabF n (fun k => u64 (f k)))⟩, some ⟨n2, true, 0, (spr (0 + n + n3) (0 + n) (fun k => u64 (catU (fun _ => 0) 0 f k)) (u64 0))⟩])))))))))))
theorem clone_runs (p o n c : Nat) (f : Nat → UInt64) (hn : 0 < n ∧ n ≤ 40) : Runs Try.prog 37 [.slice (some ⟨p, o, none⟩) n c] [⟨p, false, o, tabF n fun k => u64 (f k)⟩] 2 (fun ns => .slice (some ⟨ns.getD 0 0, 0, none⟩) n (n + ns.getD 1 0)) (fun ns => [some ⟨p, false, o, tabF n fun k => u64 (f k)⟩, some ⟨ns.getD 0 0, true, 0, tabF n fun k => u64 (f k)⟩]) := by
  have h := clone_raw p o n c f hn
  simp only [Nat.zero_add] at h
  exact h.weak fun ns q x hq => by
    rcases q with _ | _ | q
    · cases hq; exact ⟨_, rfl, rfl, rfl, rfl, fun _ => rfl, .inl rfl⟩
    · cases hq; exact ⟨_, rfl, rfl, rfl, rfl, (fun h => by cases h), .inr ⟨rfl, to_noroomK (g := f) (g' := catU (fun _ => 0) 0 f) (by omega) fun k _ => rfl⟩⟩
    · simp [listMem] at hq
end Go.Proofs.Ytpjllbgipcfedaa
end
section
set_option linter.unusedSimpArgs false
set_option linter.unusedVariables false
set_option maxRecDepth 100000
namespace Go.Eng
theorem Post.conv {m m' n n' : Nat → Option Blk} {w w' : World} (hp : Post m w m' w') (h0 : ∀ k, Owns m k → Owns n k) (π : Nat → Nat)
    (hπ : ∀ p q b c, n' p = some b → n' q = some c → π p = π q → p = q)
    (h2 : ∀ p b, n' p = some b → b.own = true ∧ ∃ b', m' (π p) = some b' ∧ b'.name = b.name ∧ b'.own = true ∧ ∀ w, Holds b' w → Holds b w) : Post n w n' w' where
  holds p b hb := by obtain ⟨_, b', h3, _, _, h6⟩ := h2 p b hb; exact h6 _ (hp.holds _ _ h3)
  apart p q b c hpq hb hc ho := by
    obtain ⟨_, b', h3, h4, h5, _⟩ := h2 p b hb
    obtain ⟨_, c', k3, k4, k5, _⟩ := h2 q c hc
    rw [← h4, ← k4]
    exact hp.apart _ _ b' c' (fun e => hpq (hπ p q b c hb hc e)) h3 k3 h5
  adv := ⟨hp.adv.os, hp.adv.output, hp.adv.tape, hp.adv.size, fun k hk hn => hp.adv.heap k hk fun ho => hn (h0 k ho), fun k ⟨p, b, hb, ho, hk⟩ => by
      obtain ⟨_, b', h3, h4, h5, _⟩ := h2 p b hb
      rcases hp.adv.names k ⟨π p, b', h3, h5, by rw [h4, hk]⟩ with h6 | h6
      · exact .inl (h0 k h6)
      · exact .inr h6, fun p b hb ho => by
      have := (h2 p b hb).1
      rw [ho] at this; cases this⟩
structure Suf (bs bs' : List (Option Blk)) (ρ : Nat → Nat) : Prop where
  inj : ∀ p q b c, listMem bs p = some b → listMem bs q = some c → ρ p = ρ q → p = q
  sub : ∀ p b, listMem bs p = some b → ∃ b', listMem bs' (ρ p) = some b' ∧ b'.name = b.name ∧ b'.own = b.own ∧ ∀ w, Holds b' w → Holds b w
theorem Suf.owns {bs bs' : List (Option Blk)} {ρ : Nat → Nat} (h : Suf bs bs' ρ) (k : Nat) : Owns (listMem bs) k → Owns (listMem bs') k := fun ⟨p, b, hb, ho, hk⟩ => by
  obtain ⟨b', h1, h2, h3, _⟩ := h.sub p b hb
  exact ⟨ρ p, b', h1, by rw [h3, ho], by rw [h2, hk]⟩
theorem Suf.holds {bs bs' : List (Option Blk)} {ρ : Nat → Nat} (h : Suf bs bs' ρ) {w : World} (hm : ∀ p b, listMem bs' p = some b → Holds b w) : ∀ p b, listMem bs p = some b → Holds b w := fun p b hb => by
  obtain ⟨b', h1, _, _, h4⟩ := h.sub p b hb
  exact h4 w (hm _ _ h1)
theorem Suf.apart {bs bs' : List (Option Blk)} {ρ : Nat → Nat} (h : Suf bs bs' ρ) (ha : Apart (listMem bs')) : Apart (listMem bs) := fun p q b c hpq hb hc ho => by
  obtain ⟨b', h1, h2, h3, _⟩ := h.sub p b hb
  obtain ⟨c', k1, k2, k3, _⟩ := h.sub q c hc
  rw [← h2, ← k2]
  exact ha _ _ b' c' (fun e => hpq (h.inj p q b c hb hc e)) h1 k1 (by rw [h3, ho])
theorem Suf.fam {F : Blk → Prop} {bs bs' : List (Option Blk)} {ρ : Nat → Nat} (h : Suf bs bs' ρ) {w : World} (hF : Fam F (listMem bs') w) : Fam F (listMem bs) w := fun b hb => by
  obtain ⟨h1, h2, h3⟩ := hF b hb
  exact ⟨h1, h2, fun ho => h3 (h.owns _ ho)⟩
def Leaves (out out' : List (Option Blk)) (π : Nat → Nat) : Prop :=
  (∀ p q b c, listMem out' p = some b → listMem out' q = some c → π p = π q → p = q) ∧
  ∀ p b, listMem out' p = some b → b.own = true ∧ ∃ b', listMem out (π p) = some b' ∧ b'.name = b.name ∧ b'.own = true ∧ ∀ w, Holds b' w → Holds b w
theorem RunsO.conv {F : Blk → Prop} {P : Program} {f : FuncId} {args : List Value} {bs bs' : List (Option Blk)} {k k' : Nat} {v v' : List Nat → Value} {out out' : List Nat → List (Option Blk)} (h : RunsO F P f args bs k v out)
    (ρ : Nat → Nat) (h1 : Suf bs bs' ρ) (π : Nat → Nat) (σ : List Nat → List Nat) (hσ : ∀ ns, ns.length = k → (σ ns).length = k' ∧ v' (σ ns) = v ns ∧ Leaves (out ns) (out' (σ ns)) π) : RunsO F P f args bs' k' v' out' := by
  intro w hm ha hF
  refine Calls.mono (h w (h1.holds hm) (h1.apart ha) (h1.fam hF)) ?_
  rintro e w' ⟨ns, hns, he, hp⟩
  obtain ⟨h3, h4, h5, h6⟩ := hσ ns hns
  exact ⟨σ ns, h3, by rw [h4, he], hp.conv h1.owns π h5 h6⟩
theorem SRunsO.conv {P : Program} {s : Sem Next} {bs bs' : List (Option Blk)} {k k' : Nat} {v v' : List Nat → Value} {out out' : List Nat → List (Option Blk)} (h : SRunsO P s bs k v out)
    (ρ : Nat → Nat) (h1 : Suf bs bs' ρ) (π : Nat → Nat) (σ : List Nat → List Nat) (hσ : ∀ ns, ns.length = k → (σ ns).length = k' ∧ v' (σ ns) = v ns ∧ Leaves (out ns) (out' (σ ns)) π) : SRunsO P s bs' k' v' out' := by
  intro w hm ha
  obtain ⟨ns, w', hns, he, hp⟩ := h w (h1.holds hm) (h1.apart ha)
  obtain ⟨h3, h4, h5, h6⟩ := hσ ns hns
  exact ⟨σ ns, w', h3, by rw [h4]; exact he, hp.conv h1.owns π h5 h6⟩
theorem RunsF.toO {F : Blk → Prop} {P : Program} {f : FuncId} {args : List Value} {bs : List Blk} {k : Nat} {v : List Nat → Value} {out : List Nat → List (Option Blk)} (h : RunsF F P f args bs k v out) : RunsO F P f args (bs.map some) k v out :=
  fun w hm ha hF => h w (fun b hb => by obtain ⟨i, hi⟩ := List.getElem?_of_mem hb; exact hm i b (listMem_some.2 hi)) ha hF
theorem Runs.toO {F : Blk → Prop} {P : Program} {f : FuncId} {args : List Value} {bs : List Blk} {k : Nat} {v : List Nat → Value} {out : List Nat → List (Option Blk)} (h : Runs P f args bs k v out) : RunsO F P f args (bs.map some) k v out := h.toF.toO
theorem SRuns.toO {P : Program} {s : Sem Next} {bs : List Blk} {k : Nat} {v : List Nat → Value} {out : List Nat → List (Option Blk)} (h : SRuns P s bs k v out) : SRunsO P s (bs.map some) k v out :=
  fun w hm ha => h w (fun b hb => by obtain ⟨i, hi⟩ := List.getElem?_of_mem hb; exact hm i b (listMem_some.2 hi)) ha
theorem RunsO.toF {F : Blk → Prop} {P : Program} {f : FuncId} {args : List Value} {bs : List Blk} {k : Nat} {v : List Nat → Value} {out : List Nat → List (Option Blk)} (h : RunsO F P f args (bs.map some) k v out) : RunsF F P f args bs k v out :=
  fun w hm ha hF => h w (fun i b hb => hm b (List.mem_of_getElem? (listMem_some.1 hb))) ha hF
theorem lm0 {o : Option Blk} {r : List (Option Blk)} : listMem (o :: r) 0 = o := rfl
theorem lm1 {o : Option Blk} {r : List (Option Blk)} (p : Nat) : listMem (o :: r) (p + 1) = listMem r p := by simp [listMem]
theorem lmN (p : Nat) : listMem ([] : List (Option Blk)) p = none := by simp [listMem]
inductive Sub : List (Option Blk) → List (Option Blk) → Prop where
  | zz (l : List (Option Blk)) : Sub [] l
  | dr {l l' : List (Option Blk)} (o : Option Blk) : Sub l l' → Sub (none :: l) (o :: l')
  | kp {l l' : List (Option Blk)} (b b' : Blk) (h : b'.name = b.name ∧ b'.own = b.own ∧ ∀ w, Holds b' w → Holds b w) : Sub l l' → Sub (some b :: l) (some b' :: l')
  | gp {l l' : List (Option Blk)} (o : Option Blk) : Sub l l' → Sub l (o :: l')
  | dn {l l' : List (Option Blk)} : Sub l l' → Sub (none :: l) l'
theorem Sub.at {l l' : List (Option Blk)} (h : Sub l l') : ∃ ρ, Suf l l' ρ := by
  induction h with
  | zz l => exact ⟨id, ⟨fun p q b c hb => (by rw [lmN] at hb; cases hb), fun p b hb => (by rw [lmN] at hb; cases hb)⟩⟩
  | @dr l l' o _ ih =>
    obtain ⟨ρ, h1, h2⟩ := ih
    refine ⟨fun p => match p with | 0 => 0 | p + 1 => ρ p + 1, ⟨fun p q b c hb hc e => ?_, fun p b hb => ?_⟩⟩
    · cases p with
      | zero => cases hb
      | succ p => cases q with
        | zero => cases hc
        | succ q => rw [lm1] at hb hc; simp only at e; have := h1 p q b c hb hc (by omega); omega
    · cases p with
      | zero => cases hb
      | succ p => rw [lm1] at hb; simp only [lm1]; exact h2 p b hb
  | @kp l l' b0 b0' h0 _ ih =>
    obtain ⟨ρ, h1, h2⟩ := ih
    refine ⟨fun p => match p with | 0 => 0 | p + 1 => ρ p + 1, ⟨fun p q b c hb hc e => ?_, fun p b hb => ?_⟩⟩
    · cases p with
      | zero => cases q with
        | zero => rfl
        | succ q => simp only at e; omega
      | succ p => cases q with
        | zero => simp only at e; omega
        | succ q => rw [lm1] at hb hc; simp only at e; have := h1 p q b c hb hc (by omega); omega
    · cases p with
      | zero => rw [lm0] at hb; injection hb with hb; subst hb; exact ⟨b0', rfl, h0⟩
      | succ p => rw [lm1] at hb; simp only [lm1]; exact h2 p b hb
  | dn _ ih =>
    obtain ⟨ρ, h1, h2⟩ := ih
    refine ⟨fun p => match p with | 0 => 0 | p + 1 => ρ p, ⟨fun p q b c hb hc e => ?_, fun p b hb => ?_⟩⟩
    · cases p with
      | zero => cases hb
      | succ p => cases q with
        | zero => cases hc
        | succ q => rw [lm1] at hb hc; simp only at e; have := h1 p q b c hb hc e; omega
    · cases p with
      | zero => cases hb
      | succ p => rw [lm1] at hb; simp only; exact h2 p b hb
  | gp _ _ ih =>
    obtain ⟨ρ, h1, h2⟩ := ih
    exact ⟨fun p => ρ p + 1, ⟨fun p q b c hb hc e => h1 p q b c hb hc (by omega), fun p b hb => by simp only [lm1]; exact h2 p b hb⟩⟩
def ownL : List (Option Blk) → Prop
  | [] => True
  | none :: r => ownL r
  | some b :: r => b.own = true ∧ ownL r
theorem ownL_at : ∀ {l : List (Option Blk)}, ownL l → ∀ p b, listMem l p = some b → b.own = true
  | [], _, p, b, hb => by rw [lmN] at hb; cases hb
  | none :: r, h, 0, b, hb => by cases hb
  | some c :: r, h, 0, b, hb => by rw [lm0] at hb; injection hb with hb; subst hb; exact h.1
  | none :: r, h, p + 1, b, hb => by rw [lm1] at hb; exact ownL_at (l := r) h p b hb
  | some c :: r, h, p + 1, b, hb => by rw [lm1] at hb; exact ownL_at h.2 p b hb
theorem Sub.leaves {l l' : List (Option Blk)} (h : Sub l' l) (ho : ownL l') : ∃ π, Leaves l l' π := by
  obtain ⟨ρ, h1, h2⟩ := h.at
  refine ⟨ρ, h1, fun p b hb => ?_⟩
  have hown := ownL_at ho p b hb
  obtain ⟨b', k1, k2, k3, k4⟩ := h2 p b hb
  exact ⟨hown, b', k1, k2, by rw [k3, hown], k4⟩
theorem RunsO.as {F : Blk → Prop} {P : Program} {f : FuncId} {args : List Value} {bs bs' : List (Option Blk)} {k k' : Nat} {v v' : List Nat → Value} {out out' : List Nat → List (Option Blk)} (h : RunsO F P f args bs k v out)
    (h1 : Sub bs bs') (σ : List Nat → List Nat) (hσ : ∀ ns, ns.length = k → (σ ns).length = k' ∧ v' (σ ns) = v ns ∧ Sub (out' (σ ns)) (out ns) ∧ ownL (out' (σ ns))) : RunsO F P f args bs' k' v' out' := by
  obtain ⟨ρ, hρ⟩ := h1.at
  intro w hm ha hF
  refine Calls.mono (h w (hρ.holds hm) (hρ.apart ha) (hρ.fam hF)) ?_
  rintro e w' ⟨ns, hns, he, hp⟩
  obtain ⟨h3, h4, h5, h6⟩ := hσ ns hns
  obtain ⟨π, h7, h8⟩ := h5.leaves h6
  exact ⟨σ ns, h3, by rw [h4, he], hp.conv hρ.owns π h7 h8⟩
theorem SRunsO.as {P : Program} {s : Sem Next} {bs bs' : List (Option Blk)} {k k' : Nat} {v v' : List Nat → Value} {out out' : List Nat → List (Option Blk)} (h : SRunsO P s bs k v out)
    (h1 : Sub bs bs') (σ : List Nat → List Nat) (hσ : ∀ ns, ns.length = k → (σ ns).length = k' ∧ v' (σ ns) = v ns ∧ Sub (out' (σ ns)) (out ns) ∧ ownL (out' (σ ns))) : SRunsO P s bs' k' v' out' := by
  obtain ⟨ρ, hρ⟩ := h1.at
  intro w hm ha
  obtain ⟨ns, w', hns, he, hp⟩ := h w (hρ.holds hm) (hρ.apart ha)
  obtain ⟨h3, h4, h5, h6⟩ := hσ ns hns
  obtain ⟨π, h7, h8⟩ := h5.leaves h6
  exact ⟨σ ns, w', h3, by rw [h4]; exact he, hp.conv hρ.owns π h7 h8⟩
theorem Sub.refl : ∀ (l : List (Option Blk)), Sub l l
  | [] => .zz _
  | none :: r => .dr _ (Sub.refl r)
  | some b :: r => .kp b b ⟨rfl, rfl, fun _ h => h⟩ (Sub.refl r)
theorem Sub.cons {l l' : List (Option Blk)} (o : Option Blk) (h : Sub l l') : Sub (o :: l) (o :: l') := match o with
  | none => .dr _ h
  | some b => .kp b b ⟨rfl, rfl, fun _ h => h⟩ h
theorem RunsO.mono {F F' : Blk → Prop} {P : Program} {f : FuncId} {args : List Value} {bs : List (Option Blk)} {k : Nat} {v : List Nat → Value} {out : List Nat → List (Option Blk)} (hs : ∀ b, F b → F' b) (h : RunsO F P f args bs k v out) : RunsO F' P f args bs k v out :=
  fun w hm ha hF => h w hm ha fun b hb => hF b (hs b hb)
theorem RunsO.frame {F : Blk → Prop} {P : Program} {f : FuncId} {args : List Value} {bs : List (Option Blk)} {ps : List (Nat × Bool)} {k k' : Nat} {v v' : List Nat → Value} {out out' : List Nat → List (Option Blk)}
    (h : RunsO F P f args (lendO (listMem bs) ps) k v out) (hn : nodupPs ps = true) (σ : List Nat → List Nat)
    (hσ : ∀ ns, ns.length = k → (σ ns).length = k' ∧ v' (σ ns) = v ns ∧ ps.length ≤ (out ns).length ∧ ∀ p b, listMem (out' (σ ns)) p = some b → memApply (listMem bs) (outUpd ps bs.length (out ns)) p = some b) : RunsO F P f args bs k' v' out' := by
  intro w hm ha hF
  refine Calls.mono (h w (lendO_holds hm) (lendO_apart ha hn) (fam_lendO hF)) ?_
  rintro e w' ⟨ns, hns, he, hp⟩
  obtain ⟨h1, h2, h3, h4⟩ := hσ ns hns
  exact ⟨σ ns, h1, by rw [h2, he], (post_frameO hm ha h3 hp).sub h4⟩
theorem RunsO.reads {F : Blk → Prop} {P : Program} {f : FuncId} {args : List Value} {bs : List (Option Blk)} (ps : List (Nat × Bool)) {k : Nat} {v0 : Value} {out : List Nat → List (Option Blk)}
    (h : RunsO F P f args (lendO (listMem bs) ps) 0 (fun _ => v0) out) (hn : nodupPs ps = true) (hr : ps.all (fun x => x.2) = true) : RunsO F P f args bs k (fun _ => v0) (fun _ => bs) := by
  have hout : ∀ (qs : List (Nat × Bool)) (nx : Nat) (m : Nat), qs.all (fun x => x.2) = true → outUpd qs nx (List.replicate qs.length none) = [] := by
    intro qs
    induction qs with
    | nil => intro nx m _; rfl
    | cons x r ih =>
      obtain ⟨p, ro⟩ := x
      intro nx m hx
      simp only [List.all_cons, Bool.and_eq_true] at hx
      have : ro = true := hx.1
      subst this
      simp only [List.length_cons, List.replicate_succ, outUpd]
      exact ih nx m hx.2
  have h' : RunsO F P f args (lendO (listMem bs) ps) 0 (fun _ => v0) (fun _ => List.replicate ps.length none) := fun w hm ha hF => Calls.mono (h w hm ha hF) fun e w' ⟨ns, h1, h2, h3⟩ => ⟨ns, h1, h2, h3.sub fun p b hb => by
    have : ∀ (n p : Nat), listMem (List.replicate n (none : Option Blk)) p = none := fun n p => by
      simp only [listMem, List.getElem?_replicate]
      split <;> simp_all
    rw [this] at hb; cases hb⟩
  refine h'.frame hn (fun _ => List.replicate k 0) fun ns _ => ⟨by simp, rfl, by simp, fun p b hb => ?_⟩
  rw [hout ps bs.length 0 hr]
  exact hb
section
variable {α : Type}
def Grw.ok (A : Grw α) : Prop := A.z = true → A.n = 0
variable {A : Grw α} {C : α → List Value} {zc : List Value} {sz : Nat} {K : α → Value} {zv : Value}
structure Prt (α : Type) where
  wa : Option Addr
  n : Nat
  c : Nat
  nm : Nat
  o : Nat
  f : Nat → α
def Prt.ok (D : Prt α) : Prop := (0 < D.n → D.wa = some ⟨D.nm, D.o, none⟩) ∧ D.n ≤ D.c
section
variable {P : Program} {t ty e : TypeId} {B : Nat}
end
end
section
variable {P : Program} {t ty e : TypeId}
end
section
end
end Go.Eng
end
section
namespace Go.Eng
set_option linter.unusedSimpArgs false
set_option linter.unusedVariables false
set_option maxRecDepth 100000
open Go.RowKit Go.WideShapes Go.ChangeShapes Go.ChangeAt Go.Deep
section
variable {H : Type} {enc : TypeId × Value → H} {P : Program}
instance : Inhabited BytL := ⟨bytZ none 0⟩
end
end Go.Eng
namespace Go.Eng
open Go.RowKit Go.WideShapes Go.ChangeShapes Go.ChangeAt Go.Deep
section
variable {H : Type} {enc : TypeId × Value → H} {P : Program}
end
end Go.Eng
end
