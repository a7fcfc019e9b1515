/-
  Base texts, many in one: Maps, Pratt, PratDef, PratMath, PratAw, PratGen, GroupDef, GroupLaw.
-/
import Derived.Test.YtikfnopccneijaaEngS
import Derived.MapKept
import Derived.WideKeyRuns
import Derived.Test.YtikfnopccneijaaEngZ
import Derived.Test.YtikfnopccneijaaEngY
import Derived.Test.YtikfnopccneijaaMontLaws
import Derived.Test.YtikfnopccneijaaMontRef
import Derived.KernelRfl
namespace Go.Eng
open Go.WideShapes
set_option linter.unusedSimpArgs false
set_option linter.unusedVariables false

theorem run_gm {P : Program} {w : World} {r : Nat} {es : Array MapEntry} {clock : Nat} (hb : w.heap[r]? = some (.map es clock)) : (getObj r).run P w = .ok (.map es clock) w := by
  simp [getObj, Sem.run, hb]
theorem run_sm {P : Program} {w : World} {r : Nat} {es : Array MapEntry} {clock : Nat} (o : Obj) (hb : w.heap[r]? = some (.map es clock)) : (setObj r o).run P w = .ok () { w with heap := w.heap.setIfInBounds r o } := by
  simp [setObj, Sem.run, hb]

theorem heap_set' {w : World} {r : Nat} {o o' : Obj} (hb : w.heap[r]? = some o) : (w.heap.setIfInBounds r o')[r]? = some o' ∧ ∀ r', r' ≠ r → (w.heap.setIfInBounds r o')[r']? = w.heap[r']? := by
  have hlt : r < w.heap.size := (Array.getElem?_eq_some_iff.1 hb).1
  exact ⟨by simp [hlt], fun r' hne => by simp [Ne.symm hne]⟩
theorem heap_alloc' (w : World) (o : Obj) : (w.alloc o).heap[w.heap.size]? = some o ∧ ∀ r', r' < w.heap.size → (w.alloc o).heap[r']? = w.heap[r']? := by
  have e : (w.alloc o).heap = w.heap.push o := rfl
  rw [e]
  exact ⟨by simp, fun r' h => by simp [Array.getElem?_push, Nat.ne_of_lt h]⟩
def entsL {α β : Type} (kv : α → Value) (ev : β → Value) : List (α × β) → Nat → List MapEntry
  | [], _ => []
  | (k, x) :: r, i => ⟨kv k, ev x, i⟩ :: entsL kv ev r (i + 1)
def mapC {α β : Type} (kv : α → Value) (ev : β → Value) (l : List (α × β)) : Cont := .map (entsL kv ev l 0).toArray l.length
def findE {α β : Type} (eqb : α → α → Bool) (k : α) : List (α × β) → Option β
  | [] => none
  | (h, x) :: r => if eqb k h = true then some x else findE eqb k r
def putE {α β : Type} (eqb : α → α → Bool) (k : α) (x : β) : List (α × β) → List (α × β)
  | [] => [(k, x)]
  | (h, y) :: r => if eqb k h = true then (k, x) :: r else (h, y) :: putE eqb k x r

/-- A type of maps, of which keys are told by 'kv' and elements by 'ev'. -/
structure MapT {α β : Type} (P : Program) (mt kt et : TypeId) (kv : α → Value) (ev : β → Value) (z : β) (eqb : α → α → Bool) : Prop where
  hm : P.underlying mt = some (.map kt et)
  chk : ∀ em k w, (Instr.checkKey em 10000 kt (kv k)).run P w = .ok () w
  fnd : ∀ k l i w, ∀ r : Option (Nat × Value), (Instr.findAsking kt (kv k) l i).run P w = .ok r w → (Instr.findKey kt (kv k) l).run P w = (Instr.findAsking kt (kv k) l 0).run P w
  eqr : ∀ k h w, (Op.equal kt (kv k) (kv h)).run P w = .ok (eqb k h) w
  eqv : ∀ k h, eqb k h = true → Instr.sameBits 10000 (kv h) (kv k) = true
  zer : ∀ w, (zeroValue et).run P w = .ok (ev z) w

def findI {α β : Type} (eqb : α → α → Bool) (k : α) : List (α × β) → Nat → Option (Nat × β)
  | [], _ => none
  | (h, x) :: r, i => if eqb k h = true then some (i, x) else findI eqb k r (i + 1)

section
variable {α β : Type} {P : Program} {mt kt et : TypeId} {kv : α → Value} {ev : β → Value} {z : β} {eqb : α → α → Bool}
theorem run_asking (M : MapT P mt kt et kv ev z eqb) (k : α) (w : World) : ∀ (l : List (α × β)) (n i : Nat), (Instr.findAsking kt (kv k) (entsL kv ev l n) i).run P w = .ok ((findI eqb k l i).map fun p => (p.1, ev p.2)) w
  | [], _, _ => rfl
  | (h, x) :: r, n, i => by
    simp only [entsL, Instr.findAsking, Sem.run_bind, M.eqr, Result.andThen_ok, findI]
    by_cases e : eqb k h = true
    · rw [if_pos e, if_pos e]; rfl
    · rw [if_neg e, if_neg e]; exact run_asking M k w r (n + 1) (i + 1)
theorem run_findKeyM (M : MapT P mt kt et kv ev z eqb) (k : α) (w : World) (l : List (α × β)) : (Instr.findKey kt (kv k) (entsL kv ev l 0)).run P w = .ok ((findI eqb k l 0).map fun p => (p.1, ev p.2)) w := by
  rw [M.fnd k _ 0 w _ (run_asking M k w l 0 0)]; exact run_asking M k w l 0 0
theorem findI_E (k : α) : ∀ (l : List (α × β)) (i : Nat), (findI eqb k l i).map (·.2) = findE eqb k l
  | [], _ => rfl
  | (h, x) :: r, i => by
    simp only [findI, findE]
    split
    · rfl
    · exact findI_E k r (i + 1)
theorem findI_spec (k : α) : ∀ (l : List (α × β)) (i j : Nat) (x : β), findI eqb k l i = some (j, x) → ∃ h, i ≤ j ∧ l[j - i]? = some (h, x) ∧ eqb k h = true
  | [], _, _, _, e => by cases e
  | (h, y) :: r, i, j, x, e => by
    simp only [findI] at e
    split at e
    · rename_i he
      injection e with e; injection e with e1 e2; subst e1; subst e2
      exact ⟨h, Nat.le_refl _, by simp, he⟩
    · obtain ⟨h', h1, h2, h3⟩ := findI_spec k r (i + 1) j x e
      exact ⟨h', by omega, by rw [show j - i = (j - (i + 1)) + 1 by omega]; simpa using h2, h3⟩
theorem entsL_get : ∀ (l : List (α × β)) (n j : Nat) (h : α) (x : β), l[j]? = some (h, x) → (entsL kv ev l n)[j]? = some ⟨kv h, ev x, n + j⟩
  | [], _, _, _, _, e => by simp at e
  | (h0, x0) :: r, n, 0, h, x, e => by
    simp at e; obtain ⟨rfl, rfl⟩ := e; simp [entsL]
  | (h0, x0) :: r, n, j + 1, h, x, e => by
    simp only [List.getElem?_cons_succ] at e
    simp only [entsL, List.getElem?_cons_succ]
    rw [entsL_get r (n + 1) j h x e, show n + 1 + j = n + (j + 1) by omega]
theorem entsL_put (k : α) (x : β) : ∀ (l : List (α × β)) (n i : Nat) (j : Nat) (y : β), findI eqb k l i = some (j, y) →
    (entsL kv ev l n).modify (j - i) (fun e => { e with key := kv k, val := ev x }) = entsL kv ev (putE eqb k x l) n ∧ (putE eqb k x l).length = l.length
  | [], _, _, _, _, e => by cases e
  | (h, y0) :: r, n, i, j, y, e => by
    simp only [findI] at e
    split at e
    · rename_i he
      injection e with e; injection e with e1 e2; subst e1
      simp [putE, he, entsL]
    · rename_i he
      obtain ⟨_, h1, _, _⟩ := findI_spec k r (i + 1) j y e
      obtain ⟨i1, i2⟩ := entsL_put k x r (n + 1) (i + 1) j y e
      rw [show j - i = (j - (i + 1)) + 1 by omega]
      simp only [putE, he, entsL]
      simp [i1, i2, entsL]
theorem entsL_new (k : α) (x : β) : ∀ (l : List (α × β)) (n i : Nat), findI eqb k l i = none →
    entsL kv ev l n ++ [⟨kv k, ev x, n + l.length⟩] = entsL kv ev (putE eqb k x l) n ∧ (putE eqb k x l).length = l.length + 1
  | [], n, i, e => by simp [putE, entsL]
  | (h, y0) :: r, n, i, e => by
    simp only [findI] at e
    split at e
    · cases e
    · rename_i he
      obtain ⟨i1, i2⟩ := entsL_new k x r (n + 1) (i + 1) e
      simp only [putE, he, entsL]
      simp only [Bool.false_eq_true, if_false, entsL, List.cons_append, List.length_cons]
      refine ⟨?_, by simp [i2]⟩
      rw [← i1, show n + (r.length + 1) = n + 1 + r.length by omega]

def lookSem (t : TypeId) (x k : Value) (ok : Bool) : Sem Next := do pure (.value (← Instr.lookup t x k ok))
theorem srun_look (M : MapT P mt kt et kv ev z eqb) (b : Nat) (own : Bool) (l : List (α × β)) (k : α) :
    SRuns P (lookSem mt (.map (some b)) (kv k) true) [⟨b, own, 0, mapC kv ev l⟩] 0 (fun _ => .tuple #[ev ((findE eqb k l).getD z), .bool (findE eqb k l).isSome]) (fun _ => [none]) := by
  intro w hall ha
  have hb := (hall _ (List.mem_singleton.2 rfl)).obj _ _ rfl
  refine ⟨[], w, rfl, .inl (run_value ?_), ⟨fun p c hpc => ?_, fun p p' c d hpp hc hd ho => ?_, ⟨rfl, rfl, rfl, Nat.le_refl _, fun _ _ _ => rfl, fun j hj => ?_, fun p c hpc ho => ?_⟩⟩⟩
  · simp only at hb
    unfold Instr.lookup
    simp only [Sem.run_bind, run_underlying M.hm, Result.andThen_ok, run_gm hb, Sem.run_pure, M.chk, run_findKeyM M]
    have hE := findI_E (eqb := eqb) k l 0
    cases hf : findI eqb k l 0 with
    | none =>
      rw [hf] at hE; simp only [Option.map_none] at hE
      rw [← hE]
      simp [M.zer]
    | some q =>
      rw [hf] at hE; simp only [Option.map_some] at hE
      rw [← hE]
      simp
  · rcases p with _ | p <;> simp [listMem] at hpc
  · rcases p with _ | p <;> simp [listMem] at hc
  · obtain ⟨p, c, hpc, _, _⟩ := hj
    rcases p with _ | p <;> simp [listMem] at hpc
  · rcases p with _ | p <;> simp [listMem] at hpc
def updSem (t : TypeId) (x k v : Value) : Sem Next := do Instr.mapUpdate t x k v; pure .skip
theorem post_map {b : Nat} {es es' : Array MapEntry} {c c' : Nat} {w : World} (h : Holds ⟨b, true, 0, .map es c⟩ w) :
    Post (listMem ([⟨b, true, 0, .map es c⟩].map some)) w (listMem [some ⟨b, true, 0, .map es' c'⟩]) { w with heap := w.heap.setIfInBounds b (.map es' c') } := by
  have hb := h.obj _ _ rfl
  obtain ⟨h1, h2⟩ := heap_set' (o' := .map es' c') hb
  refine ⟨fun p q hpq => ?_, fun p p' q d hpp hc hd ho => ?_, ⟨rfl, rfl, rfl, by simp, fun j hj hn => h2 j fun e => ?_, fun j hj => ?_, fun p q hpq ho => ?_⟩⟩
  · rcases p with _ | p
    · injection hpq with hpq; subst hpq
      exact ⟨by simpa using h.lt, (fun o v ho => by cases ho), (fun _ o v ho => by cases ho), fun es2 c2 e2 => by injection e2 with e2 e3; subst e2; subst e3; exact h1⟩
    · simp [listMem] at hpq
  · rcases p with _ | p
    · rcases p' with _ | p'
      · exact absurd rfl hpp
      · simp [listMem] at hd
    · simp [listMem] at hc
  · subst e
    exact hn ⟨0, _, rfl, rfl, rfl⟩
  · obtain ⟨p, q, hpq, ho, rfl⟩ := hj
    rcases p with _ | p
    · injection hpq with hpq; subst hpq; exact .inl ⟨0, _, rfl, rfl, rfl⟩
    · simp [listMem] at hpq
  · rcases p with _ | p
    · injection hpq with hpq; subst hpq; cases ho
    · simp [listMem] at hpq
theorem srun_upd (M : MapT P mt kt et kv ev z eqb) (b : Nat) (l : List (α × β)) (k : α) (x : β) :
    SRuns P (updSem mt (.map (some b)) (kv k) (ev x)) [⟨b, true, 0, mapC kv ev l⟩] 0 (fun _ => undef) (fun _ => [some ⟨b, true, 0, mapC kv ev (putE eqb k x l)⟩]) := by
  intro w hall ha
  have hH := hall _ (List.mem_singleton.2 rfl)
  have hb := hH.obj _ _ rfl
  simp only at hb
  refine ⟨[], _, rfl, .inr ⟨?_, rfl⟩, post_map hH⟩
  unfold updSem Instr.mapUpdate
  simp only [Sem.run_bind, run_underlying M.hm, Result.andThen_ok, run_gm hb, M.chk, run_findKeyM M]
  cases hf : findI eqb k l 0 with
  | none =>
    obtain ⟨i1, i2⟩ := entsL_new (kv := kv) (ev := ev) k x l 0 0 hf
    simp only [Option.map_none, run_sm _ hb, Sem.run_pure, Result.andThen_ok]
    congr 4
    · rw [← i1]; simp
    · exact i2.symm
  | some q =>
    obtain ⟨j, y⟩ := q
    obtain ⟨h, _, h2, h3⟩ := findI_spec k l 0 j y hf
    obtain ⟨i1, i2⟩ := entsL_put (kv := kv) (ev := ev) k x l 0 0 j y hf
    have hj := entsL_get (kv := kv) (ev := ev) l 0 j h y (by simpa using h2)
    have hs := M.eqv k h h3
    simp only [Option.map_some, List.getElem?_toArray, hj, Option.getD_some, Instr.keyThatStays, hs, if_true, Sem.run_pure, Result.andThen_ok, run_sm _ hb]
    rw [i2, ← i1]
    simp [run_sm _ hb]
def mkmSem (t : TypeId) : Sem Next := do pure (.value (← Instr.makeMap t none))
theorem srun_mkm (t : TypeId) : SRuns P (mkmSem t) [] 1 (fun ns => .map (some (ns.getD 0 0))) (fun ns => [some ⟨ns.getD 0 0, true, 0, mapC kv ev []⟩]) := by
  intro w hall ha
  obtain ⟨h1, h2⟩ := heap_alloc' w (.map #[] 0)
  refine ⟨[w.heap.size], w.alloc (.map #[] 0), rfl, .inl (run_value rfl), ⟨fun p c hpc => ?_, fun p p' c d hpp hc hd ho => ?_, ⟨rfl, rfl, rfl, by simp, fun j hj _ => h2 j hj, fun j hj => ?_, fun p c hpc ho => ?_⟩⟩⟩
  · rcases p with _ | p
    · injection hpc with hpc; subst hpc
      exact ⟨by simp, (fun o v ho => by cases ho), (fun _ o v ho => by cases ho), fun es2 c2 e2 => by injection e2 with e2 e3; subst e2; subst e3; exact h1⟩
    · simp [listMem] at hpc
  · rcases p with _ | p
    · rcases p' with _ | p'
      · exact absurd rfl hpp
      · simp [listMem] at hd
    · simp [listMem] at hc
  · obtain ⟨p, c, hpc, ho, rfl⟩ := hj
    rcases p with _ | p
    · injection hpc with hpc; subst hpc; exact .inr (Nat.le_refl _)
    · simp [listMem] at hpc
  · rcases p with _ | p
    · injection hpc with hpc; subst hpc; cases ho
    · simp [listMem] at hpc
end

/-! ### keys of four words, and nothing behind them -/
def ev0 (_ : Unit) : Value := .agg #[]
theorem eq4_eq {x y : N4} (h : eq4 x y = true) : x = y := by
  simp only [eq4, Bool.and_eq_true, beq_iff_eq] at h
  obtain ⟨a, b, c, d⟩ := x
  obtain ⟨a', b', c', d'⟩ := y
  simp_all
theorem run_part_int {P : Program} {e : TypeId} {k : IntKind} {cs : Array Value} {i : Nat} {v : Value} (w : World) (he : P.underlying e = some (.int k)) (hv : cs[i]? = some v) : (part e cs i).run P w = .ok v w := pureRun_run (pureRun_part he hv) w
theorem chk_arr4 {P : Program} {t e : TypeId} (ht : P.underlying t = some (.array 4 e)) (he : P.underlying e = some (.int .u64)) (hs : sizeB P e = some 1) (em : Bool) (x : N4) (w : World) : (Instr.checkKey em 10000 t (nat4 x)).run P w = .ok () w := by
  have hsz : (sizeOf e).run P w = .ok 1 w := pureRun_run (pureRun_sizeOf hs) w
  have hc : ∀ k a, (Instr.checkKey em 9999 e (.int k a)).run P w = .ok () w := fun k a => by
    unfold Instr.checkKey; simp [run_underlying he]
  have hp : ∀ i v, (#[u64 x.a, u64 x.b, u64 x.c, u64 x.d] : Array Value)[i]? = some v → (part e #[u64 x.a, u64 x.b, u64 x.c, u64 x.d] i).run P w = .ok v w := fun i v h => run_part_int w he h
  unfold Instr.checkKey
  simp [Std.Legacy.Range.forIn_eq_forIn_range', Std.Legacy.Range.size, List.range', run_underlying ht, nat4, hsz, hc]
  have h0 := hp 0 (u64 x.a) rfl; have h1 := hp 1 (u64 x.b) rfl; have h2 := hp 2 (u64 x.c) rfl; have h3 := hp 3 (u64 x.d) rfl
  simp only [u64] at h0 h1 h2 h3 ⊢
  simp only [h0, Result.andThen_ok, hc, hsz, h1, Nat.mul_one, h2, h3]
theorem nat4_keys {P : Program} {mt kt et u : TypeId} (hm : P.underlying mt = some (.map kt et)) (ht : P.underlying kt = some (.array 4 u)) (hu : P.underlying u = some (.int .u64)) (hs : sizeB P u = some 1) {β : Type} {ev : β → Value} {z : β}
    (hz : ∀ w, (zeroValue et).run P w = .ok (ev z) w) : MapT P mt kt et nat4 ev z eq4 where
  hm := hm
  chk em k w := chk_arr4 ht hu hs em k w
  fnd k l i w r h := run_findKey_eq w (by rw [ht]) _ _
  eqr k h w := pureRun_run (equal_nat4 ht hu hs k h) w
  eqv k h e := by
    have := eq4_eq e
    subst this
    simp [Instr.sameBits, nat4, u64]
  zer := hz
end Go.Eng

namespace Go.Eng
open Go.RowKit Go.WideShapes Go.ChangeShapes Go.ChangeAt Go.Deep
set_option linter.unusedSimpArgs false
set_option linter.unusedVariables false
set_option maxRecDepth 100000

/-! ### rows -/
structure FacR where
  p : N4
  e : Int
def facC (r : FacR) : List Value := [u64 r.p.a, u64 r.p.b, u64 r.p.c, u64 r.p.d, int r.e]
def tabA (n : Nat) (f : Nat → FacR) : Cont := .tab n 5 fun k => facC (f k)
structure PrfR where
  n : N4
  g : N4
  wa : Option Addr
  wn : Nat
  wc : Nat
  wb : Nat
  wo : Nat
  wf : Nat → FacR
def prfC (r : PrfR) : List Value := [u64 r.n.a, u64 r.n.b, u64 r.n.c, u64 r.n.d, u64 r.g.a, u64 r.g.b, u64 r.g.c, u64 r.g.d, .slice r.wa r.wn r.wc]
def tabR (n : Nat) (f : Nat → PrfR) : Cont := .tab n 9 fun k => prfC (f k)
def prfB (r : PrfR) : Blk := ⟨r.wb, false, r.wo, tabA r.wn r.wf⟩
structure OkF (r : FacR) : Prop where
  el : -9223372036854775808 ≤ r.e
  eh : r.e ≤ 9223372036854775807
structure OkR (r : PrfR) : Prop where
  ad : 0 < r.wn → r.wa = some ⟨r.wb, r.wo, none⟩
  len : r.wn ≤ 9223372036854775807
  fac : ∀ k, OkF (r.wf k)
def famR (r : PrfR) (b : Blk) : Prop := 0 < r.wn ∧ b = prfB r
theorem famR_at {r : PrfR} {i : Nat} (h : i < r.wn) : famR r (prfB r) := ⟨by omega, rfl⟩
structure PrfL where
  la : Option Addr
  ln : Nat
  lc : Nat
  lb : Nat
  lo : Nat
  lf : Nat → PrfR
def lisB (q : PrfL) : Blk := ⟨q.lb, false, q.lo, tabR q.ln q.lf⟩
structure OkL (q : PrfL) : Prop where
  cap : q.ln ≤ q.lc
  ad : 0 < q.ln → q.la = some ⟨q.lb, q.lo, none⟩
  len : q.ln ≤ 9223372036854775807
  prf : ∀ k, OkR (q.lf k)
def famL (q : PrfL) (b : Blk) : Prop := (0 < q.ln ∧ b = lisB q) ∨ ∃ k, k < q.ln ∧ famR (q.lf k) b
theorem famL_at {q : PrfL} {i : Nat} (h : i < q.ln) : famL q (lisB q) := .inl ⟨by omega, rfl⟩
theorem famL_in {q : PrfL} {i : Nat} (h : i < q.ln) {b : Blk} (hb : famR (q.lf i) b) : famL q b := .inr ⟨i, h, hb⟩
theorem famL_fac {q : PrfL} {i k : Nat} (h : i < q.ln) (hk : k < (q.lf i).wn) : famL q (prfB (q.lf i)) := famL_in h (famR_at hk)
/-! ### calls beside blocks that are only read -/
theorem RunsF.mono {F F' : Blk → Prop} {P : Program} {f : FuncId} {args : List Value} {bs : List Blk} {k : Nat} {v : List Nat → Value} {out : List Nat → List (Option Blk)} (hs : ∀ b, F b → F' b) (h : RunsF F P f args bs k v out) : RunsF F' P f args bs k v out :=
  fun w hb ha hF => h w hb ha fun b hb' => hF b (hs b hb')
def noneL : List Blk → List (Option Blk)
  | [] => []
  | _ :: r => none :: noneL r
theorem noneL_get : ∀ (l : List Blk) (p : Nat) (b : Blk), listMem (noneL l) p ≠ some b
  | [], p, b => by simp [noneL, listMem]
  | _ :: r, 0, b => by simp [noneL, listMem]
  | _ :: r, p + 1, b => noneL_get r p b
/-- A call that only reads, of finitely many blocks. -/
theorem RunsF.read {F : Blk → Prop} {P : Program} {f : FuncId} {args : List Value} {cs : List Blk} {v : Value} (h : RunsF F P f args [] 0 (fun _ => v) (fun _ => []))
    (hF : ∀ w : World, (∀ b ∈ cs, Holds b w) → ∀ b, F b → Holds b w ∧ b.own = false) (hb : ∀ b ∈ cs, b.own = false) : Runs P f args cs 0 (fun _ => v) (fun _ => noneL cs) := by
  intro w hm ha
  have hno : ∀ k, ¬ Owns (listMem (([] : List Blk).map some)) k := fun k ⟨p, b, h1, h2, _⟩ => by cases h1
  refine Calls.mono (h w (fun b hb' => by cases hb') (fun p q b c _ hpb _ ho => by cases hpb) (fun b hFb => ⟨(hF w hm b hFb).1, (hF w hm b hFb).2, hno _⟩)) ?_
  rintro e w' ⟨ns, hns, he, hp⟩
  refine ⟨ns, hns, he, ⟨fun p b hpb => absurd hpb (noneL_get _ _ _), fun p q b c _ hpb _ _ => absurd hpb (noneL_get _ _ _), ⟨hp.adv.os, hp.adv.output, hp.adv.tape, hp.adv.size, fun k hk _ => hp.adv.heap k hk (hno k), fun k ⟨p, b, h1, _, _⟩ => absurd h1 (noneL_get _ _ _), fun p b hpb _ => absurd hpb (noneL_get _ _ _)⟩⟩⟩

/-! ### an element of a slice that is told by three words -/
section
variable {P : Program} {t e : TypeId} {x ix : Operand}
theorem is_ixSq {sz : Nat} (ht : P.underlying t = some (.slice e)) (he : sizeB P e = some sz) (b o n c i : Nat) (wa : Option Addr) (hwa : wa = some ⟨b, o, none⟩) (hi : i < n) : IsOp P (.indexAddr t x ix) [.slice wa n c, nat i] (ptr b (o + i * sz)) := by
  subst hwa; exact is_ixSl ht he b o n c i hi
end
/-! ### what is handed in -/
section
variable {H : Type} {enc : TypeId × Value → H} {P : Program}
theorem slice_cellE {α : Type} [Inhabited α] (K : α → List Value) {sz : Nat} (hK : ∀ a, (K a).length = sz) (hs0 : 0 < sz) {W : World} {base : Nat} {sp : Nat → Bool} {held : Bool} {s u : TypeId} (hs : P.underlying s = some (.slice u)) (hc : P.cellsOf u = sz)
    (hel : ∀ n cs x, cs.length = sz → DataW.trod enc P W base sp held n u cs = some x → ∃ a, cs = K a) {c : Value} {fuel : Nat} {z : DataW H × List MemPlace} (h : DataW.trod enc P W base sp held fuel s [c] = some z) :
    ∃ (wa : Option Addr) (wn wc wb wo : Nat) (wf : Nat → α), c = .slice wa wn wc ∧ (wn ≤ 9223372036854775807 ∧ wn ≤ wc) ∧ (0 < wn → wa = some ⟨wb, wo, none⟩) ∧ (0 < wn → Holds ⟨wb, false, wo, .tab wn sz fun k => K (wf k)⟩ W) := by
  rcases open_slice hs h with ⟨hcs, _⟩ | ⟨a, len, cap, m, n, D, Pl, hcs, _, hl, hm, hmm, _, hx⟩
  · simp at hcs
    exact ⟨none, 0, 0, 0, 0, fun _ => default, hcs, ⟨by omega, by omega⟩, fun h => by omega, fun h => by omega⟩
  · simp at hcs
    by_cases h0 : len = 0
    · subst h0
      exact ⟨some a, 0, cap, 0, 0, fun _ => default, hcs, ⟨by omega, by omega⟩, fun h => by omega, fun h => by omega⟩
    rw [hc] at hx
    have hlm : len ≤ m := by rw [hmm]; split <;> omega
    have hV : ∀ i, i < len → ∃ x : α, ∀ j, j < sz → W.cell? ((a.add (i * sz)).add j) = (K x)[j]? := fun i hi => by
      obtain ⟨cs', h1, h2⟩ := hx i (by omega)
      obtain ⟨_, hlen, hcell⟩ := World.cells?_some h1
      obtain ⟨x, hx⟩ := hel _ _ _ hlen h2
      subst hx
      exact ⟨x, hcell⟩
    obtain ⟨f, hfV⟩ := choose_lt (α := α) (p := fun i x => ∀ j, j < sz → W.cell? ((a.add (i * sz)).add j) = (K x)[j]?) hV
    have hfirst : ∃ u, W.cell? a = some u := by
      have := hfV 0 (by omega) 0 hs0
      rw [show (a.add (0 * sz)).add 0 = a from by cases a; simp [Addr.add]] at this
      rw [this, List.getElem?_eq_getElem (by rw [hK]; exact hs0)]
      exact ⟨_, rfl⟩
    obtain ⟨u0, hu0⟩ := hfirst
    have hspot : a.spot = none := World.cell?_spot hu0
    obtain ⟨ab, ao, spot⟩ := a
    simp only at hspot
    subst hspot
    refine ⟨some ⟨ab, ao, none⟩, len, cap, ab, ao, f, hcs, ⟨by unfold maxLen at hm; omega, hl⟩, fun _ => rfl, fun _ => ⟨lt_of_cell hu0, fun o v ho => ?_, (fun h => by cases h), obj_not rfl⟩⟩
    by_cases hol : o < len * sz
    · simp only [Cont.get, if_pos hol] at ho
      have := hfV (o / sz) (div_lt_row hol) (o % sz) (Nat.mod_lt _ hs0)
      rw [add_none, add_none, Nat.add_assoc, show o / sz * sz + o % sz = o by rw [Nat.mul_comm]; exact Nat.div_add_mod o sz] at this
      rw [this]; exact ho
    · rw [tabE_out hol] at ho; cases ho
variable {sp_ e_ sf_ fc_ a_ u_ i_ : TypeId}
end
end Go.Eng

namespace Go.Eng
set_option linter.unusedSimpArgs false
set_option linter.unusedVariables false
set_option maxRecDepth 100000

/-! ### maps without elements -/
def hasK (l : List N4) (k : N4) : Bool := l.any fun h => eq4 k h
def insK (l : List N4) (k : N4) : List N4 := match hasK l k with
  | true => l
  | false => l ++ [k]
def knC (l : List N4) : Cont := mapC nat4 ev0 (l.map fun k => (k, ()))
theorem find_has (k : N4) : ∀ l : List N4, (findE eq4 k (l.map fun k => (k, ()))).isSome = hasK l k
  | [] => rfl
  | h :: r => by
    simp only [List.map_cons, findE, hasK, List.any_cons]
    cases e : eq4 k h with
    | true => simp
    | false => simpa [hasK] using find_has k r
theorem hasK_iff {l : List N4} {k : N4} : hasK l k = true ↔ k ∈ l := by
  unfold hasK
  rw [List.any_eq_true]
  constructor
  · rintro ⟨h, h1, h2⟩
    have := eq4_eq h2
    subst this; exact h1
  · intro h; exact ⟨k, h, (eq4_iff k k).2 rfl⟩
theorem put_ins (k : N4) : ∀ l : List N4, putE eq4 k () (l.map fun k => (k, ())) = (insK l k).map fun k => (k, ())
  | [] => rfl
  | h :: r => by
    have ih := put_ins k r
    simp only [List.map_cons, putE]
    cases e : eq4 k h with
    | true =>
      have := eq4_eq e
      subst this
      have : hasK (k :: r) k = true := hasK_iff.2 (by simp)
      simp [insK, this]
    | false =>
      have e2 : hasK (h :: r) k = hasK r k := by simp [hasK, e]
      simp only [Bool.false_eq_true, if_false, ih]
      unfold insK
      rw [e2]
      cases hasK r k <;> simp
section
variable {P : Program} {mt kt et u : TypeId}
theorem sr_look (M : MapT P mt kt et nat4 ev0 () eq4) (b : Nat) (own : Bool) (l : List N4) (k : N4) :
    SRuns P (lookSem mt (.map (some b)) (nat4 k) true) [⟨b, own, 0, knC l⟩] 0 (fun _ => .tuple #[.agg #[], .bool (hasK l k)]) (fun _ => [none]) := by
  have h := srun_look M b own (l.map fun k => (k, ())) k
  rw [find_has] at h
  exact h
theorem sr_upd (M : MapT P mt kt et nat4 ev0 () eq4) (b : Nat) (l : List N4) (k : N4) :
    SRuns P (updSem mt (.map (some b)) (nat4 k) (.agg #[])) [⟨b, true, 0, knC l⟩] 0 (fun _ => undef) (fun _ => [some ⟨b, true, 0, knC (insK l k)⟩]) := by
  have h := srun_upd M b (l.map fun k => (k, ())) k ()
  rw [put_ins] at h
  exact h
theorem sr_mkm (t : TypeId) : SRuns P (mkmSem t) [] 1 (fun ns => .map (some (ns.getD 0 0))) (fun ns => [some ⟨ns.getD 0 0, true, 0, knC []⟩]) := srun_mkm t
end

/-! ### products -/
def badF (f : Nat → FacR) : Nat → Bool
  | 0 => false
  | i + 1 => selB (badF f i) true (selB (decide ((f i).e < 1)) true (decide ((f i).e > 255)))
def zeroF (f : Nat → FacR) : Nat → Bool
  | 0 => false
  | i + 1 => selB (zeroF f i) true (eq4 (f i).p (N4.mk 0 0 0 0))
def mulP (a p : N4) : Option N4 := match eq4 (mul8 a p).hi (N4.mk 0 0 0 0) with
  | true => some (mul8 a p).lo
  | false => none
def powP (a p : N4) : Nat → Option N4
  | 0 => some a
  | j + 1 => (powP a p j).bind fun b => mulP b p
def prodP (f : Nat → FacR) : Nat → Option N4
  | 0 => some (N4.mk 1 0 0 0)
  | i + 1 => (prodP f i).bind fun a => powP a (f i).p (f i).e.toNat
def multV (f : Nat → FacR) (n : Nat) : N4 := (prodP f n).getD (N4.mk 0 0 0 0)
def multE (f : Nat → FacR) (n : Nat) : Int := if (prodP f n).isSome = true then 0 else 10
def prodE (f : Nat → FacR) (n : Nat) : Int := if 40 < n then 2 else if badF f n = true then 1 else if zeroF f n = true then 0 else multE f n
def prodV (f : Nat → FacR) (n : Nat) : N4 := if 40 < n then N4.mk 0 0 0 0 else if badF f n = true then N4.mk 0 0 0 0 else if zeroF f n = true then N4.mk 0 0 0 0 else multV f n
theorem mulP_hi {a p : N4} (h : (!(eq4 (mul8 a p).hi (N4.mk 0 0 0 0))) = false) : mulP a p = some (mul8 a p).lo := by
  unfold mulP
  have : eq4 (mul8 a p).hi (N4.mk 0 0 0 0) = true := by simpa using h
  rw [this]
theorem mulP_over {a p : N4} (h : (!(eq4 (mul8 a p).hi (N4.mk 0 0 0 0))) = true) : mulP a p = none := by
  unfold mulP
  have : eq4 (mul8 a p).hi (N4.mk 0 0 0 0) = false := by simpa using h
  rw [this]
theorem powP_none {a p : N4} {j : Nat} (h : powP a p j = none) : ∀ d, powP a p (j + d) = none
  | 0 => h
  | d + 1 => by rw [← Nat.add_assoc, powP, powP_none h d, Option.bind_none]
theorem prodP_none {f : Nat → FacR} {i : Nat} (h : prodP f i = none) : ∀ d, prodP f (i + d) = none
  | 0 => h
  | d + 1 => by rw [← Nat.add_assoc, prodP, prodP_none h d, Option.bind_none]
theorem powP_step {a b p : N4} {j : Nat} (h1 : powP a p j = some b) (h2 : (!(eq4 (mul8 b p).hi (N4.mk 0 0 0 0))) = false) : powP a p (j + 1) = some (mul8 b p).lo := by
  rw [powP, h1, Option.bind_some]; exact mulP_hi h2
theorem prodP_step {f : Nat → FacR} {a b : N4} {i j : Nat} (h : prodP f i = some a) (h1 : powP a (f i).p j = some b) (hj : j = (f i).e.toNat) : prodP f (i + 1) = some b := by
  rw [prodP, h, ← hj, Option.bind_some]; exact h1
theorem mult_over {f : Nat → FacR} {a b : N4} {i j n : Nat} (h : prodP f i = some a) (h1 : powP a (f i).p j = some b) (hj : j < (f i).e.toNat) (hi : i < n) (h2 : (!(eq4 (mul8 b (f i).p).hi (N4.mk 0 0 0 0))) = true) :
    multV f n = N4.mk 0 0 0 0 ∧ multE f n = 10 := by
  have e1 : powP a (f i).p (j + 1) = none := by rw [powP, h1, Option.bind_some]; exact mulP_over h2
  have e2 : prodP f (i + 1) = none := by
    rw [prodP, h, Option.bind_some]
    have := powP_none e1 ((f i).e.toNat - (j + 1))
    rw [show j + 1 + ((f i).e.toNat - (j + 1)) = (f i).e.toNat by omega] at this
    exact this
  have e3 : prodP f n = none := by
    have := prodP_none e2 (n - (i + 1))
    rwa [show i + 1 + (n - (i + 1)) = n by omega] at this
  unfold multV multE
  rw [e3]; exact ⟨rfl, rfl⟩
theorem mult_end {f : Nat → FacR} {a : N4} {n : Nat} (h : prodP f n = some a) : multV f n = a ∧ multE f n = 0 := by
  unfold multV multE
  rw [h]; exact ⟨rfl, rfl⟩
theorem badF_lt {f : Nat → FacR} {i n : Nat} (h : badF f (i + 1) = true) (hi : i < n) : badF f n = true := by
  have : ∀ d, badF f (i + 1 + d) = true := by
    intro d
    induction d with
    | zero => exact h
    | succ d ih => rw [← Nat.add_assoc, badF, ih]; rfl
  have := this (n - (i + 1))
  rwa [show i + 1 + (n - (i + 1)) = n by omega] at this
theorem badF_step {f : Nat → FacR} {i : Nat} (h : badF f i = false) (h2 : (selB (decide ((f i).e < 1)) true (decide ((f i).e > 255))) = false) : badF f (i + 1) = false := by rw [badF, h]; exact h2
theorem badF_out {f : Nat → FacR} {i n : Nat} (hi : i < n) (h2 : (selB (decide ((f i).e < 1)) true (decide ((f i).e > 255))) = true) : badF f n = true :=
  badF_lt (i := i) (by rw [badF, h2]; cases badF f i <;> rfl) hi
theorem prod_long {f : Nat → FacR} {n : Nat} (h : 40 < n) : prodV f n = N4.mk 0 0 0 0 ∧ prodE f n = 2 := by
  unfold prodV prodE; rw [if_pos h, if_pos h]; exact ⟨rfl, rfl⟩
theorem prod_bad {f : Nat → FacR} {n : Nat} (h : ¬ 40 < n) (h2 : badF f n = true) : prodV f n = N4.mk 0 0 0 0 ∧ prodE f n = 1 := by
  unfold prodV prodE; rw [if_neg h, if_neg h, if_pos h2, if_pos h2]; exact ⟨rfl, rfl⟩
theorem prod_zero {f : Nat → FacR} {n : Nat} (h : ¬ 40 < n) (h2 : badF f n = false) (h3 : zeroF f n = true) : prodV f n = N4.mk 0 0 0 0 ∧ prodE f n = 0 := by
  unfold prodV prodE; rw [if_neg h, if_neg h, if_neg (show ¬ badF f n = true by simp [h2]), if_neg (show ¬ badF f n = true by simp [h2]), if_pos h3, if_pos h3]; exact ⟨rfl, rfl⟩
theorem prod_mult {f : Nat → FacR} {n : Nat} (h : ¬ 40 < n) (h2 : badF f n = false) (h3 : zeroF f n = false) : prodV f n = multV f n ∧ prodE f n = multE f n := by
  unfold prodV prodE; rw [if_neg h, if_neg h, if_neg (show ¬ badF f n = true by simp [h2]), if_neg (show ¬ badF f n = true by simp [h2]), if_neg (show ¬ zeroF f n = true by simp [h3]), if_neg (show ¬ zeroF f n = true by simp [h3])]; exact ⟨rfl, rfl⟩

/-! ### whether a proof is one -/
def quoP (a m : N4) : N4 := N4.ofNat (a.val / m.val)
def ordF (m a n : N4) (f : Nat → FacR) : Nat → Bool
  | 0 => true
  | i + 1 => selB (ordF m a n f i) (!(selB (eq4 (f i).p (N4.mk 1 0 0 0)) true (eq4 (powM m a (quoP n (f i).p)) (N4.mk 1 0 0 0)))) false
def ordB (m a n : N4) (f : Nat → FacR) (k : Nat) : Bool := selB (eq4 (powM m a n) (N4.mk 1 0 0 0)) (ordF m a n f k) false
noncomputable def stepE (r : PrfR) : Int := open Classical in if prodE r.wf r.wn ≠ 0 then prodE r.wf r.wn else if ¬ OddM r.n then 20 else
  if eq4 (prodV r.wf r.wn) (sub4 r.n (N4.mk 1 0 0 0)) = false then 20 else if ordB r.n r.g (sub4 r.n (N4.mk 1 0 0 0)) r.wf r.wn = false then 20 else 0
theorem ordF_lt {m a n : N4} {f : Nat → FacR} {i k : Nat} (h : ordF m a n f (i + 1) = false) (hi : i < k) : ordF m a n f k = false := by
  have : ∀ d, ordF m a n f (i + 1 + d) = false := by
    intro d
    induction d with
    | zero => exact h
    | succ d ih => rw [← Nat.add_assoc, ordF, ih]; rfl
  have := this (k - (i + 1))
  rwa [show i + 1 + (k - (i + 1)) = k by omega] at this

/-! ### whether a list of proofs is one -/
def facIn (L : List N4) (f : Nat → FacR) : Nat → Bool
  | 0 => true
  | k + 1 => selB (facIn L f k) (hasK L (f k).p) false
def knF (f : Nat → PrfR) : Nat → List N4
  | 0 => [N4.mk 2 0 0 0]
  | i + 1 => insK (knF f i) (f i).n
noncomputable def chkF (f : Nat → PrfR) : Nat → Int
  | 0 => 0
  | i + 1 => if chkF f i ≠ 0 then chkF f i else if facIn (knF f i) (f i).wf (f i).wn = false then 20 else stepE (f i)
noncomputable def chkE (q : PrfL) : Int := if 40 < q.ln then 2 else chkF q.lf q.ln
noncomputable def prvE (q : PrfL) (n : N4) : Int := if chkE q ≠ 0 then chkE q else if hasK (knF q.lf q.ln) n = true then 0 else 20
theorem chkF_lt {f : Nat → PrfR} {i n : Nat} {e : Int} (h : chkF f (i + 1) = e) (he : e ≠ 0) (hi : i < n) : chkF f n = e := by
  have : ∀ d, chkF f (i + 1 + d) = e := by
    intro d
    induction d with
    | zero => exact h
    | succ d ih => rw [← Nat.add_assoc, chkF, ih, if_pos he]
  have := this (n - (i + 1))
  rwa [show i + 1 + (n - (i + 1)) = n by omega] at this
theorem facIn_lt {L : List N4} {f : Nat → FacR} {k n : Nat} (h : facIn L f (k + 1) = false) (hk : k < n) : facIn L f n = false := by
  have : ∀ d, facIn L f (k + 1 + d) = false := by
    intro d
    induction d with
    | zero => exact h
    | succ d ih => rw [← Nat.add_assoc, facIn, ih]; rfl
  have := this (n - (k + 1))
  rwa [show k + 1 + (n - (k + 1)) = n by omega] at this
end Go.Eng
namespace Go.Eng
def restP (a m : N4) : N4 := if eq4 m (N4.mk 0 0 0 0) = true then N4.mk 0 0 0 0 else N4.ofNat (a.val % m.val)
def errP (m : N4) : Int := if eq4 m (N4.mk 0 0 0 0) = true then 11 else 0
theorem is_slqTo {P : Program} {t e : TypeId} {x y : Operand} (ht : P.underlying t = some (.slice e)) {sz : Nat} (hs : sizeB P e = some sz) (wa : Option Addr) (len cap i : Nat) (hi : i ≤ cap) : IsOp P (.slice t x none (some y) none) [.slice wa len cap, nat i] (.slice wa i cap) := by
  intro ρ o' ho hv
  rw [ho] at hv
  have hv' : [ρ x, ρ y] = [Value.slice wa len cap, nat i] := hv
  injection hv' with h1 hv'
  injection hv' with h2 _
  unfold execOp
  rw [ho]
  simp only [Option.map]
  show pureRun P (Sem.bind (Instr.sliceAt t (ρ x) none (some (ρ y)) none) fun v => Sem.pure (Next.value v)) = _
  rw [pureRun_bind, h1, h2]
  have hi' : 0 ≤ (i : Int) ∧ (i : Int) ≤ (cap : Int) := by omega
  have e : pureRun P (Instr.sliceAt t (.slice wa len cap) none (some (nat i)) none) = some (.slice wa i cap) := by
    simp only [Instr.sliceAt, Instr.slice, Instr.sliceBounds, Instr.sliceBound, nat, pureRun_bind', asIntOf, pureRun, pure, pureRun_underlying ht, hi', and_self, if_true, pureRun_sizeOf hs, Int.toNat_natCast]
    cases wa <;> simp [Addr.add]
  rw [e]
  rfl
end Go.Eng
namespace Go.Eng
theorem ord_no {m a n : N4} {f : Nat → FacR} {k : Nat} (h : (!(eq4 (powM m a n) (N4.mk 1 0 0 0))) = true) : false = ordB m a n f k := by
  unfold ordB
  have : eq4 (powM m a n) (N4.mk 1 0 0 0) = false := by simpa using h
  rw [this]; rfl
theorem ord_out {m a n : N4} {f : Nat → FacR} {i k : Nat} (hi : i < k) (h : (selB (eq4 (f i).p (N4.mk 1 0 0 0)) true (eq4 (powM m a (quoP n (f i).p)) (N4.mk 1 0 0 0))) = true) : false = ordB m a n f k := by
  have h1 : ordF m a n f (i + 1) = false := by rw [ordF, h]; cases ordF m a n f i <;> rfl
  unfold ordB
  rw [ordF_lt h1 hi]
  cases eq4 (powM m a n) (N4.mk 1 0 0 0) <;> rfl
theorem ord_step {m a n : N4} {f : Nat → FacR} {i : Nat} (h1 : ordF m a n f i = true) (h : (selB (eq4 (f i).p (N4.mk 1 0 0 0)) true (eq4 (powM m a (quoP n (f i).p)) (N4.mk 1 0 0 0))) = false) : ordF m a n f (i + 1) = true := by
  rw [ordF, h1, h]; rfl
theorem ord_yes {m a n : N4} {f : Nat → FacR} {k : Nat} (h : (!(eq4 (powM m a n) (N4.mk 1 0 0 0))) = false) (h1 : ordF m a n f k = true) : true = ordB m a n f k := by
  unfold ordB
  have : eq4 (powM m a n) (N4.mk 1 0 0 0) = true := by simpa using h
  rw [this, h1]; rfl
theorem or_skip {a b c : Bool} (h : a = false) (h2 : selB a true b = c) : b = c := by subst h; exact h2
theorem step_prod {r : PrfR} (h : (((prodE r.wf r.wn) : Int) != 0) = true) : stepE r = prodE r.wf r.wn := by
  unfold stepE; rw [if_pos (by simpa using h)]
theorem step_even {r : PrfR} (h : (((prodE r.wf r.wn) : Int) != 0) = false) (h2 : ¬ OddM r.n) : stepE r = 20 := by
  unfold stepE; rw [if_neg (by simpa using h), if_pos h2]
theorem step_less {r : PrfR} (h : (((prodE r.wf r.wn) : Int) != 0) = false) (h2 : OddM r.n) (h3 : (!(eq4 (prodV r.wf r.wn) (sub4 r.n (N4.mk 1 0 0 0)))) = true) : stepE r = 20 := by
  unfold stepE; rw [if_neg (by simpa using h), if_neg (fun h => h h2), if_pos (by simpa using h3)]
theorem step_ord {r : PrfR} (h : (((prodE r.wf r.wn) : Int) != 0) = false) (h2 : OddM r.n) (h3 : (!(eq4 (prodV r.wf r.wn) (sub4 r.n (N4.mk 1 0 0 0)))) = false) (h4 : (!(ordB r.n r.g (sub4 r.n (N4.mk 1 0 0 0)) r.wf r.wn)) = true) : stepE r = 20 := by
  unfold stepE; rw [if_neg (by simpa using h), if_neg (fun h => h h2), if_neg (by simpa using h3), if_pos (by simpa using h4)]
theorem step_ok {r : PrfR} (h : (((prodE r.wf r.wn) : Int) != 0) = false) (h2 : OddM r.n) (h3 : (!(eq4 (prodV r.wf r.wn) (sub4 r.n (N4.mk 1 0 0 0)))) = false) (h4 : (!(ordB r.n r.g (sub4 r.n (N4.mk 1 0 0 0)) r.wf r.wn)) = false) : stepE r = 0 := by
  unfold stepE; rw [if_neg (by simpa using h), if_neg (fun h => h h2), if_neg (by simpa using h3), if_neg (by simpa using h4)]
theorem chk_has {f : Nat → PrfR} {i k : Nat} {L : List N4} (h0 : chkF f i = 0) (hL : L = knF f i) (hk : k < (f i).wn) (h : (!(hasK L ((f i).wf k).p)) = true) : chkF f (i + 1) = 20 := by
  have e : facIn (knF f i) (f i).wf (k + 1) = false := by
    rw [facIn, ← hL]
    have : hasK L ((f i).wf k).p = false := by simpa using h
    rw [this]; cases facIn L (f i).wf k <;> rfl
  rw [chkF, if_neg (by rw [h0]; simp), if_pos (facIn_lt e hk)]
theorem chk_fac {f : Nat → PrfR} {i : Nat} {L : List N4} (h0 : chkF f i = 0) (hL : L = knF f i) (h1 : facIn L (f i).wf (f i).wn = true) : chkF f (i + 1) = stepE (f i) := by
  rw [chkF, if_neg (by rw [h0]; simp), if_neg (by rw [← hL, h1]; simp)]
theorem fac_step {L : List N4} {f : Nat → FacR} {k : Nat} (h1 : facIn L f k = true) (h : (!(hasK L (f k).p)) = false) : facIn L f (k + 1) = true := by
  rw [facIn, h1]
  have : hasK L (f k).p = true := by simpa using h
  rw [this]; rfl
theorem chk_long {q : PrfL} (h : 40 < q.ln) : chkE q = 2 := if_pos h
theorem chk_at {q : PrfL} {i : Nat} {e : Int} (h : ¬ 40 < q.ln) (h1 : chkF q.lf (i + 1) = e) (he : e ≠ 0) (hi : i < q.ln) : chkE q = e := by
  unfold chkE; rw [if_neg h]; exact chkF_lt h1 he hi
theorem chk_end {q : PrfL} (h : ¬ 40 < q.ln) (h1 : chkF q.lf q.ln = 0) : chkE q = 0 := by unfold chkE; rw [if_neg h]; exact h1
theorem bne0 {x : Int} (h : (x != 0) = true) : x ≠ 0 := by simpa using h
theorem beq0 {x : Int} (h : (x != 0) = false) : x = 0 := by simpa using h
/-- What is fine has no fault on its way. -/
theorem good_short {q : PrfL} (hg : chkE q = 0) : ¬ 40 < q.ln := fun h => by rw [chk_long h] at hg; cases hg
theorem good_at {q : PrfL} (hg : chkE q = 0) {i : Nat} (hi : i < q.ln) : chkF q.lf (i + 1) = 0 := by
  rcases Decidable.em (chkF q.lf (i + 1) = 0) with h | h
  · exact h
  · exact absurd ((chk_at (good_short hg) rfl h hi).symm.trans hg) h
theorem good_has {q : PrfL} (hg : chkE q = 0) {i k : Nat} {L : List N4} (hi : i < q.ln) (h0 : chkF q.lf i = 0) (hL : L = knF q.lf i) (hk : k < (q.lf i).wn) : (!(hasK L ((q.lf i).wf k).p)) = false := by
  cases h : (!(hasK L ((q.lf i).wf k).p)) with
  | false => rfl
  | true => have := chk_has h0 hL hk h; rw [good_at hg hi] at this; cases this
theorem good_step {q : PrfL} (hg : chkE q = 0) {i : Nat} {L : List N4} (hi : i < q.ln) (h0 : chkF q.lf i = 0) (hL : L = knF q.lf i) (h1 : facIn L (q.lf i).wf (q.lf i).wn = true) : (((stepE (q.lf i)) : Int) != 0) = false := by
  have := chk_fac h0 hL h1
  rw [good_at hg hi] at this
  rw [← this]; rfl
theorem bad_on {q : PrfL} (hg : ¬ chkE q = 0) (h : ¬ 40 < q.ln) {i : Nat} (hi : i ≤ q.ln) (h0 : chkF q.lf i = 0) : i < q.ln := by
  rcases Nat.lt_or_ge i q.ln with h2 | h2
  · exact h2
  · have e : i = q.ln := by omega
    rw [e] at h0
    exact absurd (chk_end h h0) hg
theorem prv_bad {q : PrfL} {n : N4} (h : ¬ chkE q = 0) : prvE q n = chkE q := if_pos h
theorem prv_no {q : PrfL} {n : N4} (hg : chkE q = 0) (h : (!(hasK (knF q.lf q.ln) n)) = true) : prvE q n = 20 := by
  unfold prvE; rw [if_neg (by simp [hg]), if_neg (by simpa using h)]
theorem prv_yes {q : PrfL} {n : N4} (hg : chkE q = 0) (h : (!(hasK (knF q.lf q.ln) n)) = false) : prvE q n = 0 := by
  unfold prvE; rw [if_neg (by simp [hg]), if_pos (by simpa using h)]
end Go.Eng
namespace Go.Eng
theorem RunsF.over {F F' : Blk → Prop} {P : Program} {f : FuncId} {args : List Value} {bs : List Blk} {k : Nat} {v : List Nat → Value} {out : List Nat → List (Option Blk)} (hs : ∀ b, F b → ∃ b', F' b' ∧ b.name = b'.name ∧ b.own = b'.own ∧ ∀ w : World, Holds b' w → Holds b w) (h : RunsF F P f args bs k v out) : RunsF F' P f args bs k v out :=
  fun w hb ha hF => h w hb ha fun b hb' => by
    obtain ⟨b', h1, h2, h3, h4⟩ := hs b hb'
    obtain ⟨k1, k2, k3⟩ := hF b' h1
    exact ⟨h4 w k1, h3.trans k2, by rw [h2]; exact k3⟩
theorem famL_cut {q : PrfL} {k : Nat} (h : k ≤ q.ln) (b : Blk) (hb : famL { q with ln := k } b) : ∃ b', famL q b' ∧ b.name = b'.name ∧ b.own = b'.own ∧ ∀ w : World, Holds b' w → Holds b w := by
  rcases hb with ⟨h1, rfl⟩ | ⟨j, h1, h2⟩
  · refine ⟨lisB q, .inl ⟨Nat.lt_of_lt_of_le h1 h, rfl⟩, rfl, rfl, fun w hw => ?_⟩
    refine hw.recont (c := tabR k q.lf) rfl fun o v ho => ?_
    by_cases hol : o < k * 9
    · have h2 : k * 9 ≤ q.ln * 9 := Nat.mul_le_mul_right _ h
      rw [tabR, tabE_in (sz := 9) (by decide) (fun _ _ => rfl) hol] at ho
      show (tabR q.ln q.lf).get o = some v
      rw [tabR, tabE_in (sz := 9) (by decide) (fun _ _ => rfl) (by omega)]
      exact ho
    · rw [tabR, tabE_out hol] at ho; cases ho
  · exact ⟨b, .inr ⟨j, Nat.lt_of_lt_of_le h1 h, h2⟩, rfl, rfl, fun _ h => h⟩
theorem okl_cut {q : PrfL} {k : Nat} (h : k ≤ q.ln) (hq : OkL q) : OkL { q with ln := k } := ⟨Nat.le_trans h hq.cap, fun h0 => hq.ad (Nat.lt_of_lt_of_le h0 h), Nat.le_trans h hq.len, hq.prf⟩
theorem cmp4_val (x y : N4) : cmp4 x y < 0 ↔ x.val < y.val := by
  rw [cmp4_eq]; unfold ord
  split
  · simp_all
  · split <;> simp_all
end Go.Eng

namespace Go.Eng
set_option linter.unusedSimpArgs false
set_option linter.unusedVariables false
set_option maxRecDepth 100000

/-! ### products as numbers -/
/-! ### what is proved -/
/-! ### by trying all -/
/-! ### in which order factors stand -/
theorem bool_iff {a b : Bool} (h : a = true ↔ b = true) : a = b := by cases a <;> cases b <;> simp_all
end Go.Eng

namespace Go.Eng
open Go.RowKit Go.WideShapes Go.ChangeShapes Go.ChangeAt Go.Deep
set_option linter.unusedSimpArgs false
set_option linter.unusedVariables false
set_option maxRecDepth 100000
/-- A law whose arguments lie in memory, and hold slices. -/
theorem runsF_law {F : Blk → Prop} {P : Program} {f : FuncId} {args : List Value} {bs : List Blk} {v : Value} {out : List Nat → List (Option Blk)} {W : World} (h : RunsF F P f args bs 0 (fun _ => v) out) (hb : ∀ b ∈ bs, Holds b W) (hro : ∀ b ∈ bs, b.own = false)
    (hF : ∀ b, F b → Holds b W ∧ b.own = false) : Calls P f args.toArray W fun e w' => e = .returned v ∧ Below W.heap.size W w' := by
  have hl : ∀ p b, listMem (bs.map some) p = some b → b.own = false := fun p b hp => hro b (List.mem_of_getElem? (listMem_some.1 hp))
  refine Calls.mono (h W hb (fun p q x y _ hx _ ho => ?_) fun b hb => ⟨(hF b hb).1, (hF b hb).2, fun ⟨p, x, hp, ho, _⟩ => ?_⟩) fun e w' ⟨ns, _, he, hp⟩ => ⟨he, below_of_adv hp.adv hl⟩
  · rw [hl p x hx] at ho; cases ho
  · rw [hl p x hp] at ho; cases ho
end Go.Eng

namespace Go.Eng
set_option linter.unusedSimpArgs false
set_option linter.unusedVariables false
set_option maxRecDepth 100000
theorem lit_tab {α : Type} (K : α → List Value) {sz : Nat} (hK : ∀ a, (K a).length = sz) (hs : 0 < sz) (d : α) : ∀ (l : List α) (o : Nat) (v : Value), (Cont.tab l.length sz fun k => K (l.getD k d)).get o = some v → (Cont.lit (l.flatMap K)).get o = some v
  | [], o, v, h => by
    rw [Cont.get_tab_out (by simp)] at h; cases h
  | a :: r, o, v, h => by
    show ((a :: r).flatMap K)[o]? = some v
    rw [List.flatMap_cons]
    by_cases ho : o < (r.length + 1) * sz
    · rw [Cont.get_tab (by simpa using ho)] at h
      by_cases h1 : o < sz
      · rw [Nat.div_eq_of_lt h1, Nat.mod_eq_of_lt h1] at h
        rw [List.getElem?_append_left (by rw [hK]; exact h1)]
        simpa using h
      · obtain ⟨p, rfl⟩ : ∃ p, o = sz + p := ⟨o - sz, by omega⟩
        rw [Nat.add_div_left _ hs, Nat.add_mod_left] at h
        rw [List.getElem?_append_right (by rw [hK]; omega), hK, Nat.add_sub_cancel_left]
        have hp : p < r.length * sz := by rw [Nat.succ_mul] at ho; omega
        refine lit_tab K hK hs d r p v ?_
        rw [Cont.get_tab hp]
        simpa using h
    · rw [Cont.get_tab_out (by simpa using ho)] at h; cases h
def dF : FacR := ⟨N4.mk 0 0 0 0, 0⟩
def dP : PrfR := ⟨N4.mk 0 0 0 0, N4.mk 0 0 0 0, none, 0, 0, 0, 0, fun _ => dF⟩
def recG (n g : N4) (nm : Nat) (l : List FacR) : PrfR := ⟨n, g, some ⟨nm, 0, none⟩, l.length, l.length, nm, 0, fun k => l.getD k dF⟩
def lisG (nm : Nat) (l : List PrfR) : PrfL := ⟨some ⟨nm, 0, none⟩, l.length, l.length, nm, 0, fun k => l.getD k dP⟩
theorem okF_d : OkF dF := ⟨by decide, by decide⟩
theorem okr_d : OkR dP := ⟨fun h => absurd h (Nat.lt_irrefl 0), by decide, fun _ => okF_d⟩
theorem getD_all {α : Type} {p : α → Prop} {d : α} (hd : p d) : ∀ {l : List α}, (∀ x ∈ l, p x) → ∀ k, p (l.getD k d)
  | [], _, k => by simpa using hd
  | a :: r, h, 0 => by simpa using h a (by simp)
  | a :: r, h, k + 1 => by simpa using getD_all (p := p) hd (l := r) (fun x hx => h x (by simp [hx])) k
def smallF (l : List FacR) : Bool := l.all (fun x => decide (-9223372036854775808 ≤ x.e) && decide (x.e ≤ 9223372036854775807)) && decide (l.length ≤ 1000)
theorem okr_G {n g : N4} {nm : Nat} {l : List FacR} (h : smallF l = true) : OkR (recG n g nm l) := by
  simp only [smallF, Bool.and_eq_true, List.all_eq_true, decide_eq_true_eq] at h
  exact ⟨fun _ => rfl, (show l.length ≤ _ by omega), getD_all okF_d fun x hx => ⟨(h.1 x hx).1, (h.1 x hx).2⟩⟩
theorem okl_G {nm : Nat} {l : List PrfR} (hl : l.length ≤ 1000) (h : ∀ x ∈ l, OkR x) : OkL (lisG nm l) := ⟨Nat.le_refl _, fun _ => rfl, (show l.length ≤ _ by omega), getD_all okr_d h⟩
theorem famR_G {n g : N4} {nm : Nat} {l : List FacR} {w : World} {X : Blk → Prop} (h : Holds ⟨nm, false, 0, .lit (l.flatMap facC)⟩ w) : ∀ b, famR (recG n g nm l) b → X b ∨ (Holds b w ∧ b.own = false) := fun b hb => by
  obtain ⟨_, rfl⟩ := hb
  exact .inr ⟨h.recont (c := tabA l.length fun k => l.getD k dF) rfl (lit_tab facC (fun _ => rfl) (by decide) dF l), rfl⟩
theorem famR_d {X : Blk → Prop} (w : World) : ∀ b, famR dP b → X b ∨ (Holds b w ∧ b.own = false) := fun b hb => absurd hb.1 (Nat.lt_irrefl 0)
theorem famL_G {nm : Nat} {l : List PrfR} {w : World} {X : Blk → Prop} (h : Holds ⟨nm, false, 0, .lit (l.flatMap prfC)⟩ w) (ha : ∀ x ∈ l, ∀ b, famR x b → X b ∨ (Holds b w ∧ b.own = false)) : ∀ b, famL (lisG nm l) b → X b ∨ (Holds b w ∧ b.own = false) := fun b hb => by
  rcases hb with ⟨_, rfl⟩ | ⟨k, _, hb⟩
  · exact .inr ⟨h.recont (c := tabR l.length fun k => l.getD k dP) rfl (lit_tab prfC (fun _ => rfl) (by decide) dP l), rfl⟩
  · exact getD_all (p := fun x => ∀ b, famR x b → X b ∨ (Holds b w ∧ b.own = false)) (famR_d w) ha k b hb
/-- A part of a list: its beginning. -/
theorem famL_Gcut {nm k : Nat} {l : List PrfR} (hk : k ≤ l.length) {w : World} {X : Blk → Prop} (h : Holds ⟨nm, false, 0, .lit (l.flatMap prfC)⟩ w) (ha : ∀ x ∈ l, ∀ b, famR x b → X b ∨ (Holds b w ∧ b.own = false)) : ∀ b, famL { lisG nm l with ln := k } b → X b ∨ (Holds b w ∧ b.own = false) := fun b hb => by
  rcases hb with ⟨h1, rfl⟩ | ⟨j, hj, hb⟩
  · have h0 := h.recont (c := tabR l.length fun k => l.getD k dP) rfl (lit_tab prfC (fun _ => rfl) (by decide) dP l)
    obtain ⟨b', h2, h3, h4, h5⟩ := famL_cut (q := lisG nm l) hk _ (.inl ⟨h1, rfl⟩)
    refine .inr ⟨?_, rfl⟩
    refine h0.recont (c := tabR k fun k => l.getD k dP) rfl fun o v ho => ?_
    have h6 : k * 9 ≤ l.length * 9 := Nat.mul_le_mul_right _ hk
    by_cases hol : o < k * 9
    · rw [tabR, tabE_in (sz := 9) (by decide) (fun _ _ => rfl) hol] at ho
      show (tabR l.length fun k => l.getD k dP).get o = some v
      rw [tabR, tabE_in (sz := 9) (by decide) (fun _ _ => rfl) (by omega)]
      exact ho
    · rw [tabR, tabE_out hol] at ho; cases ho
  · exact getD_all (p := fun x => ∀ b, famR x b → X b ∨ (Holds b w ∧ b.own = false)) (famR_d w) ha j b hb

/-! ### by reckoning -/
def stepB (r : PrfR) : Bool := (decide (prodE r.wf r.wn = 0) && (decide (r.n.val % 2 = 1) && decide (1 < r.n.val))) && (eq4 (prodV r.wf r.wn) (sub4 r.n (N4.mk 1 0 0 0)) && ordB r.n r.g (sub4 r.n (N4.mk 1 0 0 0)) r.wf r.wn)
theorem stepB_ok {r : PrfR} (h : stepB r = true) : stepE r = 0 := by
  simp only [stepB, Bool.and_eq_true, decide_eq_true_eq] at h
  obtain ⟨⟨h1, h2, h3⟩, h4, h5⟩ := h
  exact step_ok (by rw [h1]; rfl) ⟨h2, h3⟩ (by rw [h4]; rfl) (by rw [h5]; rfl)
def chkB (f : Nat → PrfR) : Nat → Bool
  | 0 => true
  | i + 1 => chkB f i && (facIn (knF f i) (f i).wf (f i).wn && stepB (f i))
theorem chkB_ok {f : Nat → PrfR} : ∀ {n : Nat}, chkB f n = true → chkF f n = 0
  | 0, _ => rfl
  | n + 1, h => by
    simp only [chkB, Bool.and_eq_true] at h
    exact (chk_fac (chkB_ok h.1) rfl h.2.1).trans (stepB_ok h.2.2)
def prvB (q : PrfL) (n : N4) : Bool := decide (q.ln ≤ 40) && (chkB q.lf q.ln && hasK (knF q.lf q.ln) n)
theorem prvB_ok {q : PrfL} {n : N4} (h : prvB q n = true) : prvE q n = 0 := by
  simp only [prvB, Bool.and_eq_true, decide_eq_true_eq] at h
  obtain ⟨h1, h2, h3⟩ := h
  exact prv_yes (chk_end (by omega) (chkB_ok h2)) (by rw [h3]; rfl)
def prvN (q : PrfL) (n : N4) : Bool := decide (q.ln ≤ 40) && (chkB q.lf q.ln && !(hasK (knF q.lf q.ln) n))
theorem prvN_ok {q : PrfL} {n : N4} (h : prvN q n = true) : prvE q n = 20 := by
  simp only [prvN, Bool.and_eq_true, decide_eq_true_eq] at h
  obtain ⟨h1, h2, h3⟩ := h
  exact prv_no (chk_end (by omega) (chkB_ok h2)) h3
end Go.Eng

namespace Go.Eng
set_option linter.unusedSimpArgs false
set_option linter.unusedVariables false
set_option maxRecDepth 100000
def inB (P a : N4) : Bool := selB (!(eq4 a (N4.mk 0 0 0 0))) (decide ((cmp4 a P) < 0)) false
def memB (P Q a : N4) : Bool := selB (inB P a) (eq4 (powM P a Q) (N4.mk 1 0 0 0)) false
/-- A group's numbers. -/
structure GoodG (P Q G : N4) : Prop where
  op : OddM P
  five : 5 ≤ P.val
  oq : OddM Q
  lt : Q.val < P.val
  ne : eq4 G (N4.mk 1 0 0 0) = false
  mem : memB P Q G = true
theorem inB_iff {P a : N4} : inB P a = true ↔ 0 < a.val ∧ a.val < P.val := by
  unfold inB
  rw [selB_and, Bool.and_eq_true, decide_eq_true_eq, cmp4_val, Bool.not_eq_true', ← Bool.not_eq_true, eq4_iff]
  constructor
  · rintro ⟨h1, h2⟩
    refine ⟨?_, h2⟩
    rcases Nat.eq_zero_or_pos a.val with h | h
    · exact absurd (N4.ext_val h) h1
    · exact h
  · rintro ⟨h1, h2⟩
    refine ⟨fun e => ?_, h2⟩
    rw [e] at h1
    exact absurd h1 (by decide)
theorem memB_iff {P Q a : N4} (h : OddM P) : memB P Q a = true ↔ (0 < a.val ∧ a.val < P.val) ∧ a.val ^ Q.val % P.val = 1 := by
  unfold memB
  rw [selB_and, Bool.and_eq_true, inB_iff, eq4_iff]
  have hv := powM_val h a Q
  constructor
  · rintro ⟨h1, h2⟩
    rw [h2] at hv
    exact ⟨h1, hv.symm⟩
  · rintro ⟨h1, h2⟩
    exact ⟨h1, N4.ext_val (hv.trans h2)⟩
theorem pow_pos_mod {g P Q : Nat} (hP : 1 < P) (hQ : 0 < Q) (h : g ^ Q % P = 1) (n : Nat) : 0 < g ^ n % P := by
  rcases Nat.eq_zero_or_pos (g ^ n % P) with h0 | h0
  · exfalso
    have h1 : (g ^ n) ^ Q % P = 1 := by rw [← Nat.pow_mul, Nat.mul_comm, Nat.pow_mul, Nat.pow_mod, h, Nat.one_pow, Nat.mod_eq_of_lt hP]
    rw [Nat.pow_mod, h0, Nat.zero_pow hQ, Nat.zero_mod] at h1
    cases h1
  · exact h0
def mulL (P : N4) (l n : Nat → N4) : Nat → N4
  | 0 => N4.mk 1 0 0 0
  | i + 1 => timesM P (mulL P l n i) (powM P (l i) (n i))
def allM (P Q : N4) (l : Nat → N4) : Nat → Bool
  | 0 => true
  | i + 1 => selB (allM P Q l i) (memB P Q (l i)) false
def multiE (P Q : N4) (l : Nat → N4) (nl nn : Nat) : Int := if nl ≠ nn ∨ 40 < nl then 1 else if allM P Q l nl = true then 0 else 22
def multiV (P Q : N4) (l n : Nat → N4) (nl nn : Nat) : N4 := if nl ≠ nn ∨ 40 < nl then N4.mk 0 0 0 0 else if allM P Q l nl = true then mulL P l n nl else N4.mk 0 0 0 0
theorem allM_lt {P Q : N4} {l : Nat → N4} {i n : Nat} (h : (!(memB P Q (l i))) = true) (hi : i < n) : allM P Q l n = false := by
  have h0 : memB P Q (l i) = false := by simpa using h
  have h1 : allM P Q l (i + 1) = false := by rw [allM, h0]; cases allM P Q l i <;> rfl
  have : ∀ d, allM P Q l (i + 1 + d) = false := by
    intro d
    induction d with
    | zero => exact h1
    | succ d ih => rw [← Nat.add_assoc, allM, ih]; rfl
  have := this (n - (i + 1))
  rwa [show i + 1 + (n - (i + 1)) = n by omega] at this
theorem allM_step {P Q : N4} {l : Nat → N4} {i : Nat} (h1 : allM P Q l i = true) (h : (!(memB P Q (l i))) = false) : allM P Q l (i + 1) = true := by
  rw [allM, h1, show memB P Q (l i) = true by simpa using h]; rfl
theorem multi_arg {P Q : N4} {l n : Nat → N4} {nl nn : Nat} (h : nl ≠ nn ∨ 40 < nl) : multiV P Q l n nl nn = N4.mk 0 0 0 0 ∧ multiE P Q l nl nn = 1 := ⟨if_pos h, if_pos h⟩
theorem multi_mem {P Q : N4} {l n : Nat → N4} {nl nn : Nat} (h : ¬ (nl ≠ nn ∨ 40 < nl)) (h2 : allM P Q l nl = false) : multiV P Q l n nl nn = N4.mk 0 0 0 0 ∧ multiE P Q l nl nn = 22 := by
  unfold multiV multiE; rw [if_neg h, if_neg h, if_neg (by rw [h2]; simp), if_neg (by rw [h2]; simp)]; exact ⟨rfl, rfl⟩
theorem multi_ok {P Q : N4} {l n : Nat → N4} {nl nn : Nat} (h : ¬ (nl ≠ nn ∨ 40 < nl)) (h2 : allM P Q l nl = true) : multiV P Q l n nl nn = mulL P l n nl ∧ multiE P Q l nl nn = 0 := by
  unfold multiV multiE; rw [if_neg h, if_neg h, if_pos h2, if_pos h2]; exact ⟨rfl, rfl⟩
/-- Slices of numbers, as they are handed in. -/
structure NumL where
  la : Option Addr
  ln : Nat
  lc : Nat
  lb : Nat
  lo : Nat
  lf : Nat → N4
def numB (q : NumL) : Blk := ⟨q.lb, false, q.lo, tabN q.ln q.lf⟩
structure OkN (q : NumL) : Prop where
  cap : q.ln ≤ q.lc
  ad : 0 < q.ln → q.la = some ⟨q.lb, q.lo, none⟩
  len : q.ln ≤ 9223372036854775807
def famN (q : NumL) (b : Blk) : Prop := 0 < q.ln ∧ b = numB q
def fam2 (x y : NumL) (b : Blk) : Prop := famN x b ∨ famN y b
theorem fam2_x {x y : NumL} {i : Nat} (h : i < x.ln) : fam2 x y (numB x) := .inl ⟨by omega, rfl⟩
theorem fam2_y {x y : NumL} {i : Nat} (h : i < y.ln) : fam2 x y (numB y) := .inr ⟨by omega, rfl⟩
def num1 (nm : Nat) (a : N4) : NumL := ⟨some ⟨nm, 0, none⟩, 1, 1, nm, 0, nrow1 a⟩
def num2 (nm : Nat) (a b : N4) : NumL := ⟨some ⟨nm, 0, none⟩, 2, 2, nm, 0, nrow2 a b⟩
theorem okn_1 {nm : Nat} {a : N4} : OkN (num1 nm a) := ⟨Nat.le_refl _, fun _ => rfl, by simp [num1]⟩
theorem okn_2 {nm : Nat} {a b : N4} : OkN (num2 nm a b) := ⟨Nat.le_refl _, fun _ => rfl, by simp [num2]⟩
theorem famN_1 {nm : Nat} {a : N4} {w : World} {X : Blk → Prop} (h : Holds ⟨nm, false, 0, .lit [u64 a.a, u64 a.b, u64 a.c, u64 a.d]⟩ w) : ∀ b, famN (num1 nm a) b → X b ∨ (Holds b w ∧ b.own = false) := fun b hb => by
  obtain ⟨_, rfl⟩ := hb
  exact .inr ⟨h.recont (c := tabN 1 (nrow1 a)) rfl (to_row1 a), rfl⟩
theorem famN_2 {nm : Nat} {a c : N4} {w : World} {X : Blk → Prop} (h : Holds ⟨nm, false, 0, .lit [u64 a.a, u64 a.b, u64 a.c, u64 a.d, u64 c.a, u64 c.b, u64 c.c, u64 c.d]⟩ w) : ∀ b, famN (num2 nm a c) b → X b ∨ (Holds b w ∧ b.own = false) := fun b hb => by
  obtain ⟨_, rfl⟩ := hb
  exact .inr ⟨h.recont (c := tabN 2 (nrow2 a c)) rfl (to_row2 a c), rfl⟩
theorem fam2_or {x y : NumL} {w : World} {X : Blk → Prop} (hx : ∀ b, famN x b → X b ∨ (Holds b w ∧ b.own = false)) (hy : ∀ b, famN y b → X b ∨ (Holds b w ∧ b.own = false)) : ∀ b, fam2 x y b → X b ∨ (Holds b w ∧ b.own = false) := fun b hb => by
  rcases hb with hb | hb
  · exact hx b hb
  · exact hy b hb
/-- A call that only reads: more blocks are lent, in a family's place. -/
theorem RunsF.lendR {F F' : Blk → Prop} {P : Program} {f : FuncId} {args : List Value} {bs cs : List Blk} {v : Value} (h : RunsF F P f args bs 0 (fun _ => v) (fun _ => bs.map some))
    (hF : ∀ w : World, (∀ b ∈ cs, Holds b w) → ∀ b, F b → F' b ∨ (Holds b w ∧ b.own = false)) (hb : ∀ b ∈ bs ++ cs, b.own = false) : RunsF F' P f args (bs ++ cs) 0 (fun _ => v) (fun _ => noneL (bs ++ cs)) := by
  intro w hm ha hF'
  have hno : ∀ (l : List Blk) k, (∀ b ∈ l, b.own = false) → ¬ Owns (listMem (l.map some)) k := fun l k hl ⟨p, b, h1, h2, _⟩ => by
    have := hl b (List.mem_of_getElem? (listMem_some.1 h1))
    rw [h2] at this; cases this
  have hbs : ∀ b ∈ bs, b.own = false := fun b hb' => hb b (by simp [hb'])
  refine Calls.mono (h w (fun b hb' => hm b (by simp [hb'])) (fun p q b c _ hpb _ ho => ?_) (fun b hFb => ?_)) ?_
  · have := hbs b (List.mem_of_getElem? (listMem_some.1 hpb))
    rw [ho] at this; cases this
  · rcases hF w (fun b hb' => hm b (by simp [hb'])) b hFb with h1 | h1
    · exact ⟨(hF' b h1).1, (hF' b h1).2.1, hno bs _ hbs⟩
    · exact ⟨h1.1, h1.2, hno bs _ hbs⟩
  · rintro e w' ⟨ns, hns, he, hp⟩
    refine ⟨ns, hns, he, ⟨fun p b hpb => absurd hpb (noneL_get _ _ _), fun p q b c _ hpb _ _ => absurd hpb (noneL_get _ _ _), ⟨hp.adv.os, hp.adv.output, hp.adv.tape, hp.adv.size, fun k hk _ => hp.adv.heap k hk (hno bs k hbs), fun k ⟨p, b, h1, _, _⟩ => absurd h1 (noneL_get _ _ _), fun p b hpb _ => absurd hpb (noneL_get _ _ _)⟩⟩⟩
theorem multi_cond {x y : NumL} (h : (selB (!(decide (x.ln = y.ln))) true (decide (40 < x.ln))) = false) : ¬ (x.ln ≠ y.ln ∨ 40 < x.ln) := by
  simp [selB_or] at h; omega
theorem multi_cond_t {x y : NumL} (h : (selB (!(decide (x.ln = y.ln))) true (decide (40 < x.ln))) = true) : x.ln ≠ y.ln ∨ 40 < x.ln := by
  simp [selB_or] at h; omega
theorem listMem_none (cs : List Blk) (l : List (Option Blk)) : ∀ (p : Nat) (b : Blk), listMem (noneL cs ++ l) p = some b → ∃ p', p = cs.length + p' ∧ listMem l p' = some b := by
  induction cs with
  | nil => intro p b h; exact ⟨p, by simp, h⟩
  | cons c r ih =>
    intro p b h
    cases p with
    | zero => simp [noneL, listMem] at h
    | succ p =>
      obtain ⟨p', h1, h2⟩ := ih p b (by simpa [noneL, listMem] using h)
      exact ⟨p', by simp only [List.length_cons]; omega, h2⟩
/-- Blocks of one's own are lent to a call that hands back new ones. -/
theorem RunsF.lendN {F F' : Blk → Prop} {P : Program} {f : FuncId} {args : List Value} {cs : List Blk} {k : Nat} {v : List Nat → Value} {out : List Nat → List (Option Blk)} (h : RunsF F P f args [] k v out)
    (hF : ∀ w : World, (∀ b ∈ cs, Holds b w) → ∀ b, F b → F' b ∨ (Holds b w ∧ b.own = false)) (hb : ∀ b ∈ cs, b.own = false) : RunsF F' P f args cs k v (fun ns => noneL cs ++ out ns) := by
  intro w hm ha hF'
  have hno : ∀ k, ¬ Owns (listMem (([] : List Blk).map some)) k := fun k ⟨p, b, h1, h2, _⟩ => by cases h1
  refine Calls.mono (h w (fun b hb' => by cases hb') (fun p q b c _ hpb _ ho => by cases hpb) (fun b hFb => ?_)) ?_
  · rcases hF w hm b hFb with h1 | h1
    · exact ⟨(hF' b h1).1, (hF' b h1).2.1, hno _⟩
    · exact ⟨h1.1, h1.2, hno _⟩
  rintro e w' ⟨ns, hns, he, hp⟩
  refine ⟨ns, hns, he, ⟨fun p b hpb => ?_, fun p q b c hpq hpb hqc ho => ?_, ⟨hp.adv.os, hp.adv.output, hp.adv.tape, hp.adv.size, fun k hk _ => hp.adv.heap k hk (hno k), fun k ⟨p, b, h1, h2, h3⟩ => ?_, fun p b hpb ho => ?_⟩⟩⟩
  · obtain ⟨p', _, h2⟩ := listMem_none cs _ p b hpb
    exact hp.holds p' b h2
  · obtain ⟨p', h1, h2⟩ := listMem_none cs _ p b hpb
    obtain ⟨q', h3, h4⟩ := listMem_none cs _ q c hqc
    exact hp.apart p' q' b c (by omega) h2 h4 ho
  · obtain ⟨p', _, h4⟩ := listMem_none cs _ p b h1
    rcases hp.adv.names k ⟨p', b, h4, h2, h3⟩ with h5 | h5
    · exact absurd h5 (hno k)
    · exact .inr h5
  · obtain ⟨p', _, h4⟩ := listMem_none cs _ p b hpb
    have := hp.adv.ro p' b h4 ho
    cases this
theorem good_in {P Q G : N4} (h : GoodG P Q G) : inB P G = true := inB_iff.2 ((memB_iff h.op).1 h.mem).1
theorem good_five {P Q G : N4} (h : GoodG P Q G) : (selB false true (decide ((cmp4 P (N4.mk 5 0 0 0)) < 0))) = false := by
  show decide _ = false
  rw [decide_eq_false_iff_not, cmp4_val]
  have h1 : (N4.mk 5 0 0 0).val = 5 := rfl
  have := h.five
  omega
theorem good_lt {P Q G : N4} (h : GoodG P Q G) : (selB false true (decide ((cmp4 Q P : Int) ≥ 0))) = false := by
  show decide _ = false
  rw [decide_eq_false_iff_not]
  have := (cmp4_val Q P).2 h.lt
  omega
theorem good_mem {P Q G : N4} (h : GoodG P Q G) : (selB (eq4 G (N4.mk 1 0 0 0)) true (!(memB P Q G))) = false := by
  rw [h.ne, h.mem]; rfl
end Go.Eng

namespace Go.Eng
set_option linter.unusedSimpArgs false
set_option linter.unusedVariables false
set_option maxRecDepth 100000
variable {P Q G a b n k : N4}
theorem one_v : (N4.mk 1 0 0 0).val = 1 := rfl
theorem times_one (hP : OddM P) {x : N4} (hx : x.val < P.val) : timesM P (N4.mk 1 0 0 0) x = x := N4.ext_val (by
  rw [timesM_val hP, one_v, Nat.one_mul, Nat.mod_eq_of_lt hx])
theorem pow_one' (hP : OddM P) (hx : a.val < P.val) : powM P a (N4.mk 1 0 0 0) = a := N4.ext_val (by
  rw [powM_val hP, one_v, Nat.pow_one, Nat.mod_eq_of_lt hx])
theorem pow_mem (hP : OddM P) (hQ : 0 < Q.val) (h : memB P Q a = true) (n : N4) : memB P Q (powM P a n) = true := by
  obtain ⟨h1, h2⟩ := (memB_iff hP).1 h
  rw [memB_iff hP, powM_val hP]
  refine ⟨⟨pow_pos_mod hP.big hQ h2 n.val, Nat.mod_lt _ hP.pos⟩, ?_⟩
  rw [← Nat.pow_mod, ← Nat.pow_mul, Nat.mul_comm, Nat.pow_mul, Nat.pow_mod, h2, Nat.one_pow, Nat.mod_eq_of_lt hP.big]
theorem times_ok (hP : OddM P) (ha : memB P Q a = true) (hb : memB P Q b = true) : multiV P Q (nrow2 a b) (nrow2 (N4.mk 1 0 0 0) (N4.mk 1 0 0 0)) 2 2 = timesM P a b ∧ multiE P Q (nrow2 a b) 2 2 = 0 := by
  have h0 : allM P Q (nrow2 a b) 2 = true := by show selB (selB true (memB P Q a) false) (memB P Q b) false = true; rw [ha, hb]; rfl
  obtain ⟨e1, e2⟩ := multi_ok (P := P) (Q := Q) (l := nrow2 a b) (n := nrow2 (N4.mk 1 0 0 0) (N4.mk 1 0 0 0)) (nl := 2) (nn := 2) (by decide) h0
  refine ⟨e1.trans ?_, e2⟩
  have h1 := ((memB_iff hP).1 ha).1.2
  have h2 := ((memB_iff hP).1 hb).1.2
  show timesM P (timesM P (N4.mk 1 0 0 0) (powM P a (N4.mk 1 0 0 0))) (powM P b (N4.mk 1 0 0 0)) = _
  rw [pow_one' hP h1, pow_one' hP h2, times_one hP h1]
theorem eq4_self' (x : N4) : eq4 x x = true := (eq4_iff x x).2 rfl
end Go.Eng
