/-
  An engine for walks, eighteenth part: slices: what is appended; what is made.
-/
import Derived.Test.YtikfnopccneijaaEngQ
import Derived.ArgAppend
import Derived.Laws.AppendOwn
namespace Go.Eng

theorem post_cells {m : Nat → Option Blk} {w : World} (hm : ∀ p b, m p = some b → Holds b w) (ha : Apart m) {p : Nat} {b : Blk} (hp : m p = some b) (ho : b.own = true)
    {o0 : Nat} {cs : List Value} {c : Cont} (hnm : c.isMap = false) (g1 : ∀ k, k < cs.length → ∃ v, b.cont.get (o0 + k) = some v) (g2 : ∀ k, c.get k = if o0 ≤ k ∧ k < o0 + cs.length then cs[k - o0]? else b.cont.get k) :
    Post m w (memApply m [(p, some { b with cont := c })]) (w.setCells b.name (b.base + o0) cs) := by
  obtain ⟨r1, r2, r3⟩ := rest_setCells b.name cs (b.base + o0) w
  have hb := hm p b hp
  have happ : ∀ q, memApply m [(p, some { b with cont := c })] q = if p = q then some { b with cont := c } else m q := fun q => by
    simp only [memApply, look_cons, look_nil]
    split <;> rename_i h <;> split at h <;> simp_all
  have hcell : ∀ o v, c.get o = some v → (w.setCells b.name (b.base + o0) cs).cell? ⟨b.name, b.base + o, none⟩ = some v := fun o v hv => by
    rw [g2] at hv
    by_cases hin : o0 ≤ o ∧ o < o0 + cs.length
    · rw [if_pos hin] at hv
      have h1 := World.cell?_setCells_in b.name cs (b.base + o0) w (fun j hj => by
        obtain ⟨u, hu⟩ := g1 j hj
        rw [Nat.add_assoc, hb.cell _ u hu]; rfl) (o - o0) (by omega)
      rw [show b.base + o = b.base + o0 + (o - o0) by omega, h1, ← List.getElem?_eq_getElem]
      exact hv
    · rw [if_neg hin] at hv
      rw [cell_setCells_out _ _ _ _ _ (by omega)]
      exact hb.cell o v hv
  have hfree : ∀ o v, c.get o = some v → (w.setCells b.name (b.base + o0) cs).frozen? ⟨b.name, b.base + o, none⟩ = false := fun o v hv => by
    rw [World.frozen?_setCells]
    rw [g2] at hv
    by_cases hin : o0 ≤ o ∧ o < o0 + cs.length
    · obtain ⟨u, hu⟩ := g1 (o - o0) (by omega)
      rw [show o0 + (o - o0) = o by omega] at hu
      exact hb.free ho o u hu
    · rw [if_neg hin] at hv
      exact hb.free ho o v hv
  refine ⟨fun q d hq => ?_, fun q r d e hqr hd he hown => ?_, ⟨r1, r2, r3, Nat.le_of_eq (size_setCells _ _ _ _).symm, fun k _ hn => heap_setCells _ _ _ _ _ (fun e => hn ⟨p, b, hp, ho, e.symm⟩), fun k hk => ?_, fun q d hq hown => ?_⟩⟩
  · rw [happ] at hq
    split at hq
    · injection hq with hq; subst hq
      exact ⟨by rw [size_setCells]; exact hb.lt, hcell, fun _ => hfree, obj_not hnm⟩
    · rename_i hpq
      exact (hm q d hq).of_heap (by rw [size_setCells]; exact Nat.le_refl _) (heap_setCells _ _ _ _ _ (fun e => ha p q b d hpq hp hq ho e.symm))
  · rw [happ] at hd he
    split at hd <;> split at he
    · rename_i h1 h2; exact absurd (h1.symm.trans h2) hqr
    · rename_i h1 h2
      injection hd with hd; subst hd; subst h1
      exact ha p r b e h2 hp he ho
    · rename_i h1 h2
      injection he with he; subst he; subst h2
      exact ha q p d b (Ne.symm h1) hd hp hown
    · exact ha q r d e hqr hd he hown
  · obtain ⟨q, d, hq, hown, rfl⟩ := hk
    rw [happ] at hq
    split at hq
    · injection hq with hq; subst hq
      exact .inl ⟨p, b, hp, ho, rfl⟩
    · exact .inl ⟨q, d, hq, hown, rfl⟩
  · rw [happ] at hq
    split at hq
    · injection hq with hq; subst hq
      rw [ho] at hown; cases hown
    · exact hq


theorem Holds.recont {b : Blk} {w : World} (h : Holds b w) {c : Cont} (hnm : c.isMap = false) (hc : ∀ o v, c.get o = some v → b.cont.get o = some v) : Holds { b with cont := c } w :=
  ⟨h.lt, fun o v ho => h.cell o v (hc o v ho), fun hb o v ho => h.free hb o v (hc o v ho), obj_not hnm⟩

/-! ### contents with room behind them -/
def appendSem (t ty : TypeId) (x y : Value) : Sem Next := do pure (.value (← Builtin.append_ #[t, t] ty #[x, y]))
theorem run_value {P : Program} {s : Sem Value} {v : Value} {w w' : World} (h : s.run P w = .ok v w') : (s >>= fun v => (pure (Next.value v) : Sem Next)).run P w = .ok (Next.value v) w' := by
  rw [Sem.run_bind, h]; rfl

theorem map_range_get {n : Nat} {h : Nat → Value} {j : Nat} {v : Value} (hj : ((List.range n).map h)[j]? = some v) : j < n ∧ v = h j := by
  rw [List.getElem?_map] at hj
  by_cases hn : j < n
  · rw [List.getElem?_range hn] at hj
    simp at hj
    exact ⟨hn, hj.symm⟩
  · rw [List.getElem?_eq_none (by simp; omega)] at hj
    simp at hj

section
variable {P : Program} {t ty e : TypeId} {i : TypeInfo} {z : Value}
/-- One read block, and a new one. -/
theorem post_made {x : Blk} {w w' : World} (hx : Holds x w) (hro : x.own = false) {N : Blk} (hn : N.own = true) (hname : N.name = w.heap.size) (hN : Holds N w') (hos : w'.os = w.os) (hout : w'.output = w.output) (htape : w'.tape = w.tape)
    (hsz : w.heap.size ≤ w'.heap.size) (hheap : ∀ j, j < w.heap.size → w'.heap[j]? = w.heap[j]?) : Post (listMem [some x]) w (listMem [some x, some N]) w' := by
  refine ⟨fun p c hpc => ?_, fun p p' c d hpp hc1 hd ho => ?_, ⟨hos, hout, htape, hsz, fun j hj _ => hheap j hj, fun j hj => ?_, fun p c hpc ho => ?_⟩⟩
  · rcases p with _ | _ | p
    · injection hpc with hpc; subst hpc; exact hx.of_heap hsz (hheap _ hx.lt)
    · injection hpc with hpc; subst hpc; exact hN
    · simp [listMem] at hpc
  · rcases p with _ | _ | p
    · injection hc1 with hc1; subst hc1; rw [hro] at ho; cases ho
    · injection hc1 with hc1; subst hc1
      rcases p' with _ | _ | p'
      · injection hd with hd; subst hd
        have := hx.lt
        rw [hname]; omega
      · exact absurd rfl hpp
      · simp [listMem] at hd
    · simp [listMem] at hc1
  · obtain ⟨p, c, hpc, ho, rfl⟩ := hj
    rcases p with _ | _ | p
    · injection hpc with hpc; subst hpc; rw [hro] at ho; cases ho
    · injection hpc with hpc; subst hpc; rw [hname]; exact .inr (Nat.le_refl _)
    · simp [listMem] at hpc
  · rcases p with _ | _ | p
    · exact hpc
    · injection hpc with hpc; subst hpc; rw [hn] at ho; cases ho
    · simp [listMem] at hpc

/-- What is made: a row of cells that are reckoned without looking at the world. -/
theorem srun_made {s : Sem Next} {cs : Array Value} {len cap : Nat} (hs : ∀ w : World, s.run P w = .ok (.value (.slice (some ⟨w.heap.size, 0, none⟩) len cap)) (w.alloc (.cells cs e))) :
    SRuns P s [] 1 (fun ns => .slice (some ⟨ns.getD 0 0, 0, none⟩) len cap) (fun ns => [some ⟨ns.getD 0 0, true, 0, .lit cs.toList⟩]) := by
  intro w hall ha
  have hp := post_new (m := fun _ => none) (w := w) (fun p b h => by cases h) (fun p q b c _ h => by cases h) 0 cs e
  refine ⟨[w.heap.size], _, rfl, .inl (hs w), ?_⟩
  have e0 : memApply (fun _ => none) [(0, some ⟨w.heap.size, true, 0, .lit cs.toList⟩)] = listMem [some ⟨w.heap.size, true, 0, .lit cs.toList⟩] := by
    funext p; rcases p with _ | p <;> rfl
  have e1 : (fun _ => none : Nat → Option Blk) = listMem (([] : List Blk).map some) := by funext p; simp [listMem]
  rw [e0, e1] at hp
  exact hp

def buildSem (t : TypeId) (len : Nat) (parts : Array (Nat × Value)) : Sem Next := do pure (.value (← Instr.buildSlice t len parts))
theorem srun_build (ht : P.underlying t = some (.slice e)) (hi : P.info? e = some i) (hz : i.zero = some z) {len : Nat} {parts : Array (Nat × Value)} {cs : Array Value}
    (h0 : len * i.size ≠ 0) (hb : len * i.size ≤ 16777216) (hcs : bsCells z i.size len parts = some cs) :
    SRuns P (buildSem t len parts) [] 1 (fun ns => .slice (some ⟨ns.getD 0 0, 0, none⟩) len len) (fun ns => [some ⟨ns.getD 0 0, true, 0, .lit cs.toList⟩]) := srun_made (e := e) fun w => by
  refine run_value ?_
  have hb' : ¬ (16777216 < len * i.size) := by omega
  have hcs' := hcs
  unfold bsCells at hcs'
  simp [Instr.buildSlice, run_underlying ht, sizeOf, typeInfo, hi, zeroValue, hz, h0, hb', hcs', newRow]

theorem SRuns.recont {s : Sem Next} {v : List Nat → Value} {C C' : List Nat → Cont} (h : SRuns P s [] 1 v (fun ns => [some ⟨ns.getD 0 0, true, 0, C ns⟩])) (hnm : ∀ ns, (C' ns).isMap = false) (hc : ∀ ns o v, (C' ns).get o = some v → (C ns).get o = some v) :
    SRuns P s [] 1 v (fun ns => [some ⟨ns.getD 0 0, true, 0, C' ns⟩]) := by
  intro w hall ha
  obtain ⟨ns, w', h1, h2, hp⟩ := h w hall ha
  refine ⟨ns, w', h1, h2, ⟨fun p c hpc => ?_, fun p p' c d hpp hc1 hd ho => ?_, ⟨hp.adv.os, hp.adv.output, hp.adv.tape, hp.adv.size, hp.adv.heap, fun j hj => ?_, fun p c hpc ho => ?_⟩⟩⟩
  · rcases p with _ | p
    · injection hpc with hpc; subst hpc; exact (hp.holds 0 _ rfl).recont (hnm ns) (hc ns)
    · simp [listMem] at hpc
  · rcases p with _ | p
    · rcases p' with _ | p'
      · exact absurd rfl hpp
      · simp [listMem] at hd
    · simp [listMem] at hc1
  · obtain ⟨p, c, hpc, ho, rfl⟩ := hj
    rcases p with _ | p
    · injection hpc with hpc; subst hpc
      exact hp.adv.names _ ⟨0, _, rfl, rfl, rfl⟩
    · simp [listMem] at hpc
  · rcases p with _ | p
    · injection hpc with hpc; subst hpc; cases ho
    · simp [listMem] at hpc

theorem is_len {x : Operand} (ht : P.underlying t = some (.slice e)) (a : Option Addr) (n c : Nat) : IsOp P (.call { callee := .builtin .len, args := #[x], argTypes := #[t] }) [.slice a n c] (nat n) := by
  intro ρ o ho hv
  rw [ho] at hv
  have hv' : ρ x = .slice a n c := by simpa [Op.operands, Call.operands] using hv
  unfold execOp
  rw [ho]
  show pureRun P ((Builtin.len_ #[t] o.type (#[x].map ρ)) >>= fun v => (pure (Next.value v) : Sem Next)) = _
  have e1 : (#[x].map ρ : Array Value) = #[.slice a n c] := by simp [hv']
  have e2 : pureRun P (Builtin.len_ #[t] o.type #[.slice a n c]) = some (nat n) := by
    show pureRun P (underlying t >>= fun d => _) = _
    rw [pureRun_bind', pureRun_underlying ht]
    rfl
  rw [e1, pureRun_bind', e2]
  rfl
end
end Go.Eng
namespace Go.Eng
def oneB (P : Program) (e : TypeId) : Option (Value × Nat × Nat) := match P.info? e with
  | some i => match i.zero with
    | some z => some (z, i.size, i.bytes)
    | none => none
  | none => none
def catU {α : Type} (g : Nat → α) (len : Nat) (h : Nat → α) : Nat → α := fun j => if j < len then g j else h (j - len)
section
variable {P : Program} {t ty e : TypeId}
end
end Go.Eng
namespace Go.Eng
/-! ### what is only read need not be told -/
def dkn : List Bool → List (Option Blk) → List (Option Blk)
  | _, [] => []
  | [], x :: l => x :: l
  | true :: r, _ :: l => none :: dkn r l
  | false :: r, x :: l => x :: dkn r l
theorem dkn_sub : ∀ (fl : List Bool) (l : List (Option Blk)) (p : Nat) (b : Blk), listMem (dkn fl l) p = some b → listMem l p = some b
  | [], [], p, b, h => h
  | true :: _, [], p, b, h => h
  | false :: _, [], p, b, h => h
  | [], x :: l, p, b, h => h
  | true :: r, x :: l, 0, b, h => by cases h
  | true :: r, x :: l, p + 1, b, h => dkn_sub r l p b h
  | false :: r, x :: l, 0, b, h => h
  | false :: r, x :: l, p + 1, b, h => dkn_sub r l p b h
theorem Post.sub {m m' m'' : Nat → Option Blk} {w w' : World} (h : Post m w m' w') (hs : ∀ p b, m'' p = some b → m' p = some b) : Post m w m'' w' :=
  ⟨fun p b hp => h.holds p b (hs p b hp), fun p q b c hpq hb hc ho => h.apart p q b c hpq (hs p b hb) (hs q c hc) ho,
    ⟨h.adv.os, h.adv.output, h.adv.tape, h.adv.size, h.adv.heap, fun k ⟨p, b, hp, ho, he⟩ => h.adv.names k ⟨p, b, hs p b hp, ho, he⟩, fun p b hp ho => h.adv.ro p b (hs p b hp) ho⟩⟩
theorem Runs.dark {P : Program} {f : FuncId} {args : List Value} {bs : List Blk} {k : Nat} {v : List Nat → Value} {out : List Nat → List (Option Blk)} (fl : List Bool) (h : Runs P f args bs k v out) :
    Runs P f args bs k v (fun ns => dkn fl (out ns)) := fun w hb ha => Calls.mono (h w hb ha) fun _ _ ⟨ns, h1, h2, h3⟩ => ⟨ns, h1, h2, h3.sub (dkn_sub fl (out ns))⟩
theorem SRuns.dark {P : Program} {s : Sem Next} {bs : List Blk} {k : Nat} {v : List Nat → Value} {out : List Nat → List (Option Blk)} (fl : List Bool) (h : SRuns P s bs k v out) :
    SRuns P s bs k v (fun ns => dkn fl (out ns)) := fun w hb ha => have ⟨ns, w', h1, h2, h3⟩ := h w hb ha; ⟨ns, w', h1, h2, h3.sub (dkn_sub fl (out ns))⟩
end Go.Eng
