/-
  Calls beside blocks that are only read; slices from a place on.
-/
import Derived.Test.YthapokgokbfibaaEngZ
import Derived.Test.YthapokgokbfibaaEngY
import Derived.Test.YthapokgokbfibaaMaps
namespace Go.Eng
open Go.RowKit Go.WideShapes Go.ChangeShapes Go.ChangeAt Go.Deep
set_option linter.unusedSimpArgs false
set_option linter.unusedVariables false
set_option maxRecDepth 100000
theorem Runs.toF {F : Blk → Prop} {P : Program} {f : FuncId} {args : List Value} {bs : List Blk} {k : Nat} {v : List Nat → Value} {out : List Nat → List (Option Blk)} (h : Runs P f args bs k v out) : RunsF F P f args bs k v out :=
  fun w hb ha _ => h w hb ha
theorem RunsF.mono {F F' : Blk → Prop} {P : Program} {f : FuncId} {args : List Value} {bs : List Blk} {k : Nat} {v : List Nat → Value} {out : List Nat → List (Option Blk)} (hs : ∀ b, F b → F' b) (h : RunsF F P f args bs k v out) : RunsF F' P f args bs k v out :=
  fun w hb ha hF => h w hb ha fun b hb' => hF b (hs b hb')
def noneL : List Blk → List (Option Blk)
  | [] => []
  | _ :: r => none :: noneL r
theorem noneL_get : ∀ (l : List Blk) (p : Nat) (b : Blk), listMem (noneL l) p ≠ some b
  | [], p, b => by simp [noneL, listMem]
  | _ :: r, 0, b => by simp [noneL, listMem]
  | _ :: r, p + 1, b => noneL_get r p b
/-- A call that only reads, of finitely many blocks. -/
theorem RunsF.read {F : Blk → Prop} {P : Program} {f : FuncId} {args : List Value} {cs : List Blk} {v : Value} (h : RunsF F P f args [] 0 (fun _ => v) (fun _ => []))
    (hF : ∀ w : World, (∀ b ∈ cs, Holds b w) → ∀ b, F b → Holds b w ∧ b.own = false) (hb : ∀ b ∈ cs, b.own = false) : Runs P f args cs 0 (fun _ => v) (fun _ => noneL cs) := by
  intro w hm ha
  have hno : ∀ k, ¬ Owns (listMem (([] : List Blk).map some)) k := fun k ⟨p, b, h1, h2, _⟩ => by cases h1
  refine Calls.mono (h w (fun b hb' => by cases hb') (fun p q b c _ hpb _ ho => by cases hpb) (fun b hFb => ⟨(hF w hm b hFb).1, (hF w hm b hFb).2, hno _⟩)) ?_
  rintro e w' ⟨ns, hns, he, hp⟩
  refine ⟨ns, hns, he, ⟨fun p b hpb => absurd hpb (noneL_get _ _ _), fun p q b c _ hpb _ _ => absurd hpb (noneL_get _ _ _), ⟨hp.adv.os, hp.adv.output, hp.adv.tape, hp.adv.size, fun k hk _ => hp.adv.heap k hk (hno k), fun k ⟨p, b, h1, _, _⟩ => absurd h1 (noneL_get _ _ _), fun p b hpb _ => absurd hpb (noneL_get _ _ _)⟩⟩⟩
section
variable {P : Program} {t e : TypeId} {x ix : Operand}
theorem is_ixSq {sz : Nat} (ht : P.underlying t = some (.slice e)) (he : sizeB P e = some sz) (b o n c i : Nat) (wa : Option Addr) (hwa : wa = some ⟨b, o, none⟩) (hi : i < n) : IsOp P (.indexAddr t x ix) [.slice wa n c, nat i] (ptr b (o + i * sz)) := by
  subst hwa; exact is_ixSl ht he b o n c i hi
end
theorem RunsF.over {F F' : Blk → Prop} {P : Program} {f : FuncId} {args : List Value} {bs : List Blk} {k : Nat} {v : List Nat → Value} {out : List Nat → List (Option Blk)} (hs : ∀ b, F b → ∃ b', F' b' ∧ b.name = b'.name ∧ b.own = b'.own ∧ ∀ w : World, Holds b' w → Holds b w) (h : RunsF F P f args bs k v out) : RunsF F' P f args bs k v out :=
  fun w hb ha hF => h w hb ha fun b hb' => by
    obtain ⟨b', h1, h2, h3, h4⟩ := hs b hb'
    obtain ⟨k1, k2, k3⟩ := hF b' h1
    exact ⟨h4 w k1, h3.trans k2, by rw [h2]; exact k3⟩
theorem RunsF.lend {F F' : Blk → Prop} {P : Program} {f : FuncId} {args : List Value} {cs : List Blk} {v : Value} (h : RunsF F P f args [] 0 (fun _ => v) (fun _ => []))
    (hF : ∀ w : World, (∀ b ∈ cs, Holds b w) → ∀ b, F b → F' b ∨ (Holds b w ∧ b.own = false)) (hb : ∀ b ∈ cs, b.own = false) : RunsF F' P f args cs 0 (fun _ => v) (fun _ => noneL cs) := by
  intro w hm ha hF'
  have hno : ∀ k, ¬ Owns (listMem (([] : List Blk).map some)) k := fun k ⟨p, b, h1, h2, _⟩ => by cases h1
  refine Calls.mono (h w (fun b hb' => by cases hb') (fun p q b c _ hpb _ ho => by cases hpb) (fun b hFb => ?_)) ?_
  · rcases hF w hm b hFb with h1 | h1
    · exact ⟨(hF' b h1).1, (hF' b h1).2.1, hno _⟩
    · exact ⟨h1.1, h1.2, hno _⟩
  rintro e w' ⟨ns, hns, he, hp⟩
  refine ⟨ns, hns, he, ⟨fun p b hpb => absurd hpb (noneL_get _ _ _), fun p q b c _ hpb _ _ => absurd hpb (noneL_get _ _ _), ⟨hp.adv.os, hp.adv.output, hp.adv.tape, hp.adv.size, fun k hk _ => hp.adv.heap k hk (hno k), fun k ⟨p, b, h1, _, _⟩ => absurd h1 (noneL_get _ _ _), fun p b hpb _ => absurd hpb (noneL_get _ _ _)⟩⟩⟩
/-- A law whose arguments lie in memory, and hold slices. -/
theorem runsF_law {F : Blk → Prop} {P : Program} {f : FuncId} {args : List Value} {bs : List Blk} {v : Value} {out : List Nat → List (Option Blk)} {W : World} (h : RunsF F P f args bs 0 (fun _ => v) out) (hb : ∀ b ∈ bs, Holds b W) (hro : ∀ b ∈ bs, b.own = false)
    (hF : ∀ b, F b → Holds b W ∧ b.own = false) : Calls P f args.toArray W fun e w' => e = .returned v ∧ Below W.heap.size W w' := by
  have hl : ∀ p b, listMem (bs.map some) p = some b → b.own = false := fun p b hp => hro b (List.mem_of_getElem? (listMem_some.1 hp))
  refine Calls.mono (h W hb (fun p q x y _ hx _ ho => ?_) fun b hb => ⟨(hF b hb).1, (hF b hb).2, fun ⟨p, x, hp, ho, _⟩ => ?_⟩) fun e w' ⟨ns, _, he, hp⟩ => ⟨he, below_of_adv hp.adv hl⟩
  · rw [hl p x hx] at ho; cases ho
  · rw [hl p x hp] at ho; cases ho
/-- A call that only reads: more blocks are lent, in a family's place. -/
theorem RunsF.lendR {F F' : Blk → Prop} {P : Program} {f : FuncId} {args : List Value} {bs cs : List Blk} {v : Value} (h : RunsF F P f args bs 0 (fun _ => v) (fun _ => bs.map some))
    (hF : ∀ w : World, (∀ b ∈ cs, Holds b w) → ∀ b, F b → F' b ∨ (Holds b w ∧ b.own = false)) (hb : ∀ b ∈ bs ++ cs, b.own = false) : RunsF F' P f args (bs ++ cs) 0 (fun _ => v) (fun _ => noneL (bs ++ cs)) := by
  intro w hm ha hF'
  have hno : ∀ (l : List Blk) k, (∀ b ∈ l, b.own = false) → ¬ Owns (listMem (l.map some)) k := fun l k hl ⟨p, b, h1, h2, _⟩ => by
    have := hl b (List.mem_of_getElem? (listMem_some.1 h1))
    rw [h2] at this; cases this
  have hbs : ∀ b ∈ bs, b.own = false := fun b hb' => hb b (by simp [hb'])
  refine Calls.mono (h w (fun b hb' => hm b (by simp [hb'])) (fun p q b c _ hpb _ ho => ?_) (fun b hFb => ?_)) ?_
  · have := hbs b (List.mem_of_getElem? (listMem_some.1 hpb))
    rw [ho] at this; cases this
  · rcases hF w (fun b hb' => hm b (by simp [hb'])) b hFb with h1 | h1
    · exact ⟨(hF' b h1).1, (hF' b h1).2.1, hno bs _ hbs⟩
    · exact ⟨h1.1, h1.2, hno bs _ hbs⟩
  · rintro e w' ⟨ns, hns, he, hp⟩
    refine ⟨ns, hns, he, ⟨fun p b hpb => absurd hpb (noneL_get _ _ _), fun p q b c _ hpb _ _ => absurd hpb (noneL_get _ _ _), ⟨hp.adv.os, hp.adv.output, hp.adv.tape, hp.adv.size, fun k hk _ => hp.adv.heap k hk (hno bs k hbs), fun k ⟨p, b, h1, _, _⟩ => absurd h1 (noneL_get _ _ _), fun p b hpb _ => absurd hpb (noneL_get _ _ _)⟩⟩⟩
theorem listMem_none (cs : List Blk) (l : List (Option Blk)) : ∀ (p : Nat) (b : Blk), listMem (noneL cs ++ l) p = some b → ∃ p', p = cs.length + p' ∧ listMem l p' = some b := by
  induction cs with
  | nil => intro p b h; exact ⟨p, by simp, h⟩
  | cons c r ih =>
    intro p b h
    cases p with
    | zero => simp [noneL, listMem] at h
    | succ p =>
      obtain ⟨p', h1, h2⟩ := ih p b (by simpa [noneL, listMem] using h)
      exact ⟨p', by simp only [List.length_cons]; omega, h2⟩
/-- Blocks of one's own are lent to a call that hands back new ones. -/
theorem RunsF.lendN {F F' : Blk → Prop} {P : Program} {f : FuncId} {args : List Value} {cs : List Blk} {k : Nat} {v : List Nat → Value} {out : List Nat → List (Option Blk)} (h : RunsF F P f args [] k v out)
    (hF : ∀ w : World, (∀ b ∈ cs, Holds b w) → ∀ b, F b → F' b ∨ (Holds b w ∧ b.own = false)) (hb : ∀ b ∈ cs, b.own = false) : RunsF F' P f args cs k v (fun ns => noneL cs ++ out ns) := by
  intro w hm ha hF'
  have hno : ∀ k, ¬ Owns (listMem (([] : List Blk).map some)) k := fun k ⟨p, b, h1, h2, _⟩ => by cases h1
  refine Calls.mono (h w (fun b hb' => by cases hb') (fun p q b c _ hpb _ ho => by cases hpb) (fun b hFb => ?_)) ?_
  · rcases hF w hm b hFb with h1 | h1
    · exact ⟨(hF' b h1).1, (hF' b h1).2.1, hno _⟩
    · exact ⟨h1.1, h1.2, hno _⟩
  rintro e w' ⟨ns, hns, he, hp⟩
  refine ⟨ns, hns, he, ⟨fun p b hpb => ?_, fun p q b c hpq hpb hqc ho => ?_, ⟨hp.adv.os, hp.adv.output, hp.adv.tape, hp.adv.size, fun k hk _ => hp.adv.heap k hk (hno k), fun k ⟨p, b, h1, h2, h3⟩ => ?_, fun p b hpb ho => ?_⟩⟩⟩
  · obtain ⟨p', _, h2⟩ := listMem_none cs _ p b hpb
    exact hp.holds p' b h2
  · obtain ⟨p', h1, h2⟩ := listMem_none cs _ p b hpb
    obtain ⟨q', h3, h4⟩ := listMem_none cs _ q c hqc
    exact hp.apart p' q' b c (by omega) h2 h4 ho
  · obtain ⟨p', _, h4⟩ := listMem_none cs _ p b h1
    rcases hp.adv.names k ⟨p', b, h4, h2, h3⟩ with h5 | h5
    · exact absurd h5 (hno k)
    · exact .inr h5
  · obtain ⟨p', _, h4⟩ := listMem_none cs _ p b hpb
    have := hp.adv.ro p' b h4 ho
    cases this
def fromA (a : Option Addr) (cap i sz : Nat) : Option Addr := if cap = i then a else a.map (·.add (i * sz))
theorem is_slqFrom {P : Program} {t e : TypeId} {x y : Operand} (ht : P.underlying t = some (.slice e)) {sz : Nat} (hs : sizeB P e = some sz) (wa : Option Addr) (len cap i : Nat) (hi : i ≤ len ∧ len ≤ cap) : IsOp P (.slice t x (some y) none none) [.slice wa len cap, nat i] (.slice (fromA wa cap i sz) (len - i) (cap - i)) := by
  intro ρ o' ho hv
  rw [ho] at hv
  have hv' : [ρ x, ρ y] = [Value.slice wa len cap, nat i] := hv
  injection hv' with h1 hv'
  injection hv' with h2 _
  unfold execOp
  rw [ho]
  simp only [Option.map]
  show pureRun P (Sem.bind (Instr.sliceAt t (ρ x) (some (ρ y)) none none) fun v => Sem.pure (Next.value v)) = _
  rw [pureRun_bind, h1, h2]
  have hi' : 0 ≤ (i : Int) ∧ (i : Int) ≤ (len : Int) := by omega
  have e : pureRun P (Instr.sliceAt t (.slice wa len cap) (some (nat i)) none none) = some (.slice (fromA wa cap i sz) (len - i) (cap - i)) := by
    simp only [Instr.sliceAt, Instr.slice, Instr.sliceBounds, Instr.sliceBound, nat, pureRun_bind', asIntOf, pureRun, pure, pureRun_underlying ht, hi', and_self, if_true, pureRun_sizeOf hs, Int.toNat_natCast]
    rfl
  rw [e]
  rfl
def FamH (F : Blk → Prop) (w : World) : Prop := ∀ b, F b → Holds b w ∧ b.own = false
/-- A call that only reads: blocks are lent, and a family that follows from what is known. -/
theorem RunsF.lendS {F F' : Blk → Prop} {P : Program} {f : FuncId} {args : List Value} {bs cs : List Blk} {v : Value} (h : RunsF F P f args bs 0 (fun _ => v) (fun _ => bs.map some))
    (hF : ∀ w : World, FamH F' w → (∀ b ∈ cs, Holds b w) → FamH F w) (hb : ∀ b ∈ bs ++ cs, b.own = false) : RunsF F' P f args (bs ++ cs) 0 (fun _ => v) (fun _ => noneL (bs ++ cs)) := by
  intro w hm ha hF'
  have hno : ∀ (l : List Blk) k, (∀ b ∈ l, b.own = false) → ¬ Owns (listMem (l.map some)) k := fun l k hl ⟨p, b, h1, h2, _⟩ => by
    have := hl b (List.mem_of_getElem? (listMem_some.1 h1))
    rw [h2] at this; cases this
  have hbs : ∀ b ∈ bs, b.own = false := fun b hb' => hb b (by simp [hb'])
  have hw := hF w (fun b hb' => ⟨(hF' b hb').1, (hF' b hb').2.1⟩) (fun b hb' => hm b (by simp [hb']))
  refine Calls.mono (h w (fun b hb' => hm b (by simp [hb'])) (fun p q b c _ hpb _ ho => ?_) (fun b hFb => ⟨(hw b hFb).1, (hw b hFb).2, hno bs _ hbs⟩)) ?_
  · have := hbs b (List.mem_of_getElem? (listMem_some.1 hpb))
    rw [ho] at this; cases this
  · rintro e w' ⟨ns, hns, he, hp⟩
    refine ⟨ns, hns, he, ⟨fun p b hpb => absurd hpb (noneL_get _ _ _), fun p q b c _ hpb _ _ => absurd hpb (noneL_get _ _ _), ⟨hp.adv.os, hp.adv.output, hp.adv.tape, hp.adv.size, fun k hk _ => hp.adv.heap k hk (hno bs k hbs), fun k ⟨p, b, h1, _, _⟩ => absurd h1 (noneL_get _ _ _), fun p b hpb _ => absurd hpb (noneL_get _ _ _)⟩⟩⟩
theorem RunsF.darkF {F : Blk → Prop} {P : Program} {f : FuncId} {args : List Value} {bs : List Blk} {k : Nat} {v : List Nat → Value} {out : List Nat → List (Option Blk)} (fl : List Bool) (h : RunsF F P f args bs k v out) :
    RunsF F P f args bs k v (fun ns => dkn fl (out ns)) := fun w hb ha hF => Calls.mono (h w hb ha hF) fun _ _ ⟨ns, h1, h2, h3⟩ => ⟨ns, h1, h2, h3.sub (dkn_sub fl (out ns))⟩
theorem is_slqTo {P : Program} {t e : TypeId} {x y : Operand} (ht : P.underlying t = some (.slice e)) {sz : Nat} (hs : sizeB P e = some sz) (wa : Option Addr) (len cap i : Nat) (hi : i ≤ cap) : IsOp P (.slice t x none (some y) none) [.slice wa len cap, nat i] (.slice wa i cap) := by
  intro ρ o' ho hv
  rw [ho] at hv
  have hv' : [ρ x, ρ y] = [Value.slice wa len cap, nat i] := hv
  injection hv' with h1 hv'
  injection hv' with h2 _
  unfold execOp
  rw [ho]
  simp only [Option.map]
  show pureRun P (Sem.bind (Instr.sliceAt t (ρ x) none (some (ρ y)) none) fun v => Sem.pure (Next.value v)) = _
  rw [pureRun_bind, h1, h2]
  have hi' : 0 ≤ (i : Int) ∧ (i : Int) ≤ (cap : Int) := by omega
  have e : pureRun P (Instr.sliceAt t (.slice wa len cap) none (some (nat i)) none) = some (.slice wa i cap) := by
    simp only [Instr.sliceAt, Instr.slice, Instr.sliceBounds, Instr.sliceBound, nat, pureRun_bind', asIntOf, pureRun, pure, pureRun_underlying ht, hi', and_self, if_true, pureRun_sizeOf hs, Int.toNat_natCast]
    cases wa <;> simp [Addr.add]
  rw [e]
  rfl
end Go.Eng
