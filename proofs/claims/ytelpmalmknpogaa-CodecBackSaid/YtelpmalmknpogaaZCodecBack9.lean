/-
  Many in one: Maps, Fams, Byt, BytIn, Grow, CodDef, CodFns, CodRd, CodAw, CodRead, CodRm, CodStay, CodAgn, CodNs, Opt.
-/
import Derived.Test.YtelpmalmknpogaaZCodecBack8
import Derived.MapKept
import Derived.WideKeyRuns
section
namespace Go.Eng
open Go.WideShapes
set_option linter.unusedSimpArgs false
set_option linter.unusedVariables false
section
variable {α β : Type} {P : Program} {mt kt et : TypeId} {kv : α → Value} {ev : β → Value} {z : β} {eqb : α → α → Bool}
end
end Go.Eng
end
section
namespace Go.Eng
open Go.RowKit Go.WideShapes Go.ChangeShapes Go.ChangeAt Go.Deep
set_option linter.unusedSimpArgs false
set_option linter.unusedVariables false
set_option maxRecDepth 100000
theorem Runs.toF {F : Blk → Prop} {P : Program} {f : FuncId} {args : List Value} {bs : List Blk} {k : Nat} {v : List Nat → Value} {out : List Nat → List (Option Blk)} (h : Runs P f args bs k v out) : RunsF F P f args bs k v out :=
  fun w hb ha _ => h w hb ha
theorem RunsF.mono {F F' : Blk → Prop} {P : Program} {f : FuncId} {args : List Value} {bs : List Blk} {k : Nat} {v : List Nat → Value} {out : List Nat → List (Option Blk)} (hs : ∀ b, F b → F' b) (h : RunsF F P f args bs k v out) : RunsF F' P f args bs k v out :=
  fun w hb ha hF => h w hb ha fun b hb' => hF b (hs b hb')
def noneL : List Blk → List (Option Blk)
  | [] => []
  | _ :: r => none :: noneL r
theorem noneL_get : ∀ (l : List Blk) (p : Nat) (b : Blk), listMem (noneL l) p ≠ some b
  | [], p, b => by simp [noneL, listMem]
  | _ :: r, 0, b => by simp [noneL, listMem]
  | _ :: r, p + 1, b => noneL_get r p b
theorem RunsF.read {F : Blk → Prop} {P : Program} {f : FuncId} {args : List Value} {cs : List Blk} {v : Value} (h : RunsF F P f args [] 0 (fun _ => v) (fun _ => []))
    (hF : ∀ w : World, (∀ b ∈ cs, Holds b w) → ∀ b, F b → Holds b w ∧ b.own = false) (hb : ∀ b ∈ cs, b.own = false) : Runs P f args cs 0 (fun _ => v) (fun _ => noneL cs) := by
  intro w hm ha
  have hno : ∀ k, ¬ Owns (listMem (([] : List Blk).map some)) k := fun k ⟨p, b, h1, h2, _⟩ => by cases h1
  refine Calls.mono (h w (fun b hb' => by cases hb') (fun p q b c _ hpb _ ho => by cases hpb) (fun b hFb => ⟨(hF w hm b hFb).1, (hF w hm b hFb).2, fun k _ => hno k⟩)) ?_
  rintro e w' ⟨ns, hns, he, hp⟩
  refine ⟨ns, hns, he, ⟨fun p b hpb => absurd hpb (noneL_get _ _ _), fun p q b c _ hpb _ _ => absurd hpb (noneL_get _ _ _), ⟨hp.adv.os, hp.adv.output, hp.adv.tape, hp.adv.size, fun k hk _ => hp.adv.heap k hk (hno k), fun k ⟨p, b, h1, _, _⟩ => absurd h1 (noneL_get _ _ _), fun p b hpb _ => absurd hpb (noneL_get _ _ _)⟩⟩⟩
section
variable {P : Program} {t e : TypeId} {x ix : Operand}
theorem is_ixSq {sz : Nat} (ht : P.underlying t = some (.slice e)) (he : sizeB P e = some sz) (b o n c i : Nat) (wa : Option Addr) (hwa : wa = some ⟨b, o, none⟩) (hi : i < n) : IsOp P (.indexAddr t x ix) [.slice wa n c, nat i] (ptr b (o + i * sz)) := by
  subst hwa; exact is_ixSl ht he b o n c i hi
end
theorem RunsF.over {F F' : Blk → Prop} {P : Program} {f : FuncId} {args : List Value} {bs : List Blk} {k : Nat} {v : List Nat → Value} {out : List Nat → List (Option Blk)} (hs : ∀ b, F b → ∃ b', F' b' ∧ (∀ k, b.has k → b'.has k) ∧ b.own = b'.own ∧ ∀ w : World, Holds b' w → Holds b w) (h : RunsF F P f args bs k v out) : RunsF F' P f args bs k v out :=
  fun w hb ha hF => h w hb ha fun b hb' => by
    obtain ⟨b', h1, h2, h3, h4⟩ := hs b hb'
    obtain ⟨k1, k2, k3⟩ := hF b' h1
    exact ⟨h4 w k1, h3.trans k2, fun k hk => k3 k (h2 k hk)⟩
theorem RunsF.lend {F F' : Blk → Prop} {P : Program} {f : FuncId} {args : List Value} {cs : List Blk} {v : Value} (h : RunsF F P f args [] 0 (fun _ => v) (fun _ => []))
    (hF : ∀ w : World, (∀ b ∈ cs, Holds b w) → ∀ b, F b → F' b ∨ (Holds b w ∧ b.own = false)) (hb : ∀ b ∈ cs, b.own = false) : RunsF F' P f args cs 0 (fun _ => v) (fun _ => noneL cs) := by
  intro w hm ha hF'
  have hno : ∀ k, ¬ Owns (listMem (([] : List Blk).map some)) k := fun k ⟨p, b, h1, h2, _⟩ => by cases h1
  refine Calls.mono (h w (fun b hb' => by cases hb') (fun p q b c _ hpb _ ho => by cases hpb) (fun b hFb => ?_)) ?_
  · rcases hF w hm b hFb with h1 | h1
    · exact ⟨(hF' b h1).1, (hF' b h1).2.1, fun k _ => hno k⟩
    · exact ⟨h1.1, h1.2, fun k _ => hno k⟩
  rintro e w' ⟨ns, hns, he, hp⟩
  refine ⟨ns, hns, he, ⟨fun p b hpb => absurd hpb (noneL_get _ _ _), fun p q b c _ hpb _ _ => absurd hpb (noneL_get _ _ _), ⟨hp.adv.os, hp.adv.output, hp.adv.tape, hp.adv.size, fun k hk _ => hp.adv.heap k hk (hno k), fun k ⟨p, b, h1, _, _⟩ => absurd h1 (noneL_get _ _ _), fun p b hpb _ => absurd hpb (noneL_get _ _ _)⟩⟩⟩
theorem runsF_law {F : Blk → Prop} {P : Program} {f : FuncId} {args : List Value} {bs : List Blk} {v : Value} {out : List Nat → List (Option Blk)} {W : World} (h : RunsF F P f args bs 0 (fun _ => v) out) (hb : ∀ b ∈ bs, Holds b W) (hro : ∀ b ∈ bs, b.own = false)
    (hF : ∀ b, F b → Holds b W ∧ b.own = false) : Calls P f args.toArray W fun e w' => e = .returned v ∧ Below W.heap.size W w' := by
  have hl : ∀ p b, listMem (bs.map some) p = some b → b.own = false := fun p b hp => hro b (List.mem_of_getElem? (listMem_some.1 hp))
  refine Calls.mono (h W hb (fun p q x y _ hx _ ho => ?_) fun b hb => ⟨(hF b hb).1, (hF b hb).2, fun _ _ ⟨p, x, hp, ho, _⟩ => ?_⟩) fun e w' ⟨ns, _, he, hp⟩ => ⟨he, below_of_adv hp.adv hl⟩
  · rw [hl p x hx] at ho; cases ho
  · rw [hl p x hp] at ho; cases ho
def fromA (a : Option Addr) (cap i sz : Nat) : Option Addr := if cap = i then a else a.map (·.add (i * sz))
theorem is_slqFrom {P : Program} {t e : TypeId} {x y : Operand} (ht : P.underlying t = some (.slice e)) {sz : Nat} (hs : sizeB P e = some sz) (wa : Option Addr) (len cap i : Nat) (hi : i ≤ len ∧ len ≤ cap) : IsOp P (.slice t x (some y) none none) [.slice wa len cap, nat i] (.slice (fromA wa cap i sz) (len - i) (cap - i)) := by
  intro ρ o' ho hv
  rw [ho] at hv
  have hv' : [ρ x, ρ y] = [Value.slice wa len cap, nat i] := hv
  injection hv' with h1 hv'
  injection hv' with h2 _
  unfold execOp
  rw [ho]
  simp only [Option.map]
  show pureRun P (Sem.bind (Instr.sliceAt t (ρ x) (some (ρ y)) none none) fun v => Sem.pure (Next.value v)) = _
  rw [pureRun_bind, h1, h2]
  have hi' : 0 ≤ (i : Int) ∧ (i : Int) ≤ (len : Int) := by omega
  have e : pureRun P (Instr.sliceAt t (.slice wa len cap) (some (nat i)) none none) = some (.slice (fromA wa cap i sz) (len - i) (cap - i)) := by
    simp only [Instr.sliceAt, Instr.slice, Instr.sliceBounds, Instr.sliceBound, nat, pureRun_bind', asIntOf, pureRun, pure, pureRun_underlying ht, hi', and_self, if_true, pureRun_sizeOf hs, Int.toNat_natCast]
    rfl
  rw [e]
  rfl
def FamH (F : Blk → Prop) (w : World) : Prop := ∀ b, F b → Holds b w ∧ b.own = false
theorem RunsF.lendS {F F' : Blk → Prop} {P : Program} {f : FuncId} {args : List Value} {bs cs : List Blk} {v : Value} (h : RunsF F P f args bs 0 (fun _ => v) (fun _ => bs.map some))
    (hF : ∀ w : World, FamH F' w → (∀ b ∈ cs, Holds b w) → FamH F w) (hb : ∀ b ∈ bs ++ cs, b.own = false) : RunsF F' P f args (bs ++ cs) 0 (fun _ => v) (fun _ => noneL (bs ++ cs)) := by
  intro w hm ha hF'
  have hno : ∀ (l : List Blk) k, (∀ b ∈ l, b.own = false) → ¬ Owns (listMem (l.map some)) k := fun l k hl ⟨p, b, h1, h2, _⟩ => by
    have := hl b (List.mem_of_getElem? (listMem_some.1 h1))
    rw [h2] at this; cases this
  have hbs : ∀ b ∈ bs, b.own = false := fun b hb' => hb b (by simp [hb'])
  have hw := hF w (fun b hb' => ⟨(hF' b hb').1, (hF' b hb').2.1⟩) (fun b hb' => hm b (by simp [hb']))
  refine Calls.mono (h w (fun b hb' => hm b (by simp [hb'])) (fun p q b c _ hpb _ ho => ?_) (fun b hFb => ⟨(hw b hFb).1, (hw b hFb).2, fun k _ => hno bs k hbs⟩)) ?_
  · have := hbs b (List.mem_of_getElem? (listMem_some.1 hpb))
    rw [ho] at this; cases this
  · rintro e w' ⟨ns, hns, he, hp⟩
    refine ⟨ns, hns, he, ⟨fun p b hpb => absurd hpb (noneL_get _ _ _), fun p q b c _ hpb _ _ => absurd hpb (noneL_get _ _ _), ⟨hp.adv.os, hp.adv.output, hp.adv.tape, hp.adv.size, fun k hk _ => hp.adv.heap k hk (hno bs k hbs), fun k ⟨p, b, h1, _, _⟩ => absurd h1 (noneL_get _ _ _), fun p b hpb _ => absurd hpb (noneL_get _ _ _)⟩⟩⟩
theorem is_slqTo {P : Program} {t e : TypeId} {x y : Operand} (ht : P.underlying t = some (.slice e)) {sz : Nat} (hs : sizeB P e = some sz) (wa : Option Addr) (len cap i : Nat) (hi : i ≤ cap) : IsOp P (.slice t x none (some y) none) [.slice wa len cap, nat i] (.slice wa i cap) := by
  intro ρ o' ho hv
  rw [ho] at hv
  have hv' : [ρ x, ρ y] = [Value.slice wa len cap, nat i] := hv
  injection hv' with h1 hv'
  injection hv' with h2 _
  unfold execOp
  rw [ho]
  simp only [Option.map]
  show pureRun P (Sem.bind (Instr.sliceAt t (ρ x) none (some (ρ y)) none) fun v => Sem.pure (Next.value v)) = _
  rw [pureRun_bind, h1, h2]
  have hi' : 0 ≤ (i : Int) ∧ (i : Int) ≤ (cap : Int) := by omega
  have e : pureRun P (Instr.sliceAt t (.slice wa len cap) none (some (nat i)) none) = some (.slice wa i cap) := by
    simp only [Instr.sliceAt, Instr.slice, Instr.sliceBounds, Instr.sliceBound, nat, pureRun_bind', asIntOf, pureRun, pure, pureRun_underlying ht, hi', and_self, if_true, pureRun_sizeOf hs, Int.toNat_natCast]
    cases wa <;> simp [Addr.add]
  rw [e]
  rfl
end Go.Eng
end
section
set_option linter.unusedSimpArgs false
set_option linter.unusedVariables false
set_option maxRecDepth 100000
namespace Go.Eng
structure BytL where
  wa : Option Addr
  wn : Nat
  wc : Nat
  wb : Nat
  wo : Nat
  wf : Nat → UInt8
def slqV (q : BytL) : Value := .slice q.wa q.wn q.wc
def bytB (q : BytL) : Blk := ⟨q.wb, false, q.wo, tabF q.wn fun k => u8 (q.wf k)⟩
structure OkB (q : BytL) : Prop where
  cap : q.wn ≤ q.wc
  ad : 0 < q.wn → q.wa = some ⟨q.wb, q.wo, none⟩
  len : q.wn ≤ 9223372036854775807
def famB (q : BytL) (b : Blk) : Prop := 0 < q.wn ∧ b = bytB q
def bytT (x : BytL) (k : Nat) : BytL := ⟨x.wa, k, x.wc, x.wb, x.wo, x.wf⟩
def bytF (x : BytL) (k : Nat) : BytL := ⟨fromA x.wa x.wc k 1, x.wn - k, x.wc - k, x.wb, x.wo + k, fun i => x.wf (i + k)⟩
def bytO (nm n c : Nat) (f : Nat → UInt8) : BytL := ⟨some ⟨nm, 0, none⟩, n, c, nm, 0, f⟩
def bytZ (a : Option Addr) (c : Nat) : BytL := ⟨a, 0, c, 0, 0, fun _ => 0⟩
theorem okb_to {x : BytL} {k : Nat} (h : OkB x) (hk : k ≤ x.wn) : OkB (bytT x k) := ⟨Nat.le_trans hk h.cap, fun h0 => h.ad (Nat.lt_of_lt_of_le h0 hk), Nat.le_trans hk h.len⟩
theorem okb_from {x : BytL} {k : Nat} (h : OkB x) (hk : k ≤ x.wn) : OkB (bytF x k) := ⟨Nat.sub_le_sub_right h.cap k, fun h0 => by
  have h1 : 0 < x.wn - k := h0
  show fromA x.wa x.wc k 1 = some ⟨x.wb, x.wo + k, none⟩
  have hc := h.cap
  unfold fromA
  rw [if_neg (by omega), h.ad (by omega)]
  simp [add_none], Nat.le_trans (Nat.sub_le _ _) h.len⟩
theorem okb_own {nm n c : Nat} {f : Nat → UInt8} (h1 : n ≤ c) (h2 : n ≤ 9223372036854775807) : OkB (bytO nm n c f) := ⟨h1, fun _ => rfl, h2⟩
theorem okb_nil {a : Option Addr} {c : Nat} : OkB (bytZ a c) := ⟨Nat.zero_le _, fun h => absurd h (Nat.lt_irrefl 0), Nat.zero_le _⟩
theorem tabU_less {nm o n k : Nat} {f : Nat → UInt8} {w : World} (h : Holds ⟨nm, false, o, tabF n fun k => u8 (f k)⟩ w) (hk : k ≤ n) : Holds ⟨nm, false, o, tabF k fun k => u8 (f k)⟩ w :=
  h.recont rfl fun j v hj => by
    by_cases hl : j < k
    · rw [tabF_in hl] at hj
      rw [tabF_in (by omega)]; exact hj
    · rw [tabF_out hl] at hj; cases hj
theorem tabU_tail {nm o n k : Nat} {f : Nat → UInt8} {w : World} (h : Holds ⟨nm, false, o, tabF n fun k => u8 (f k)⟩ w) (hk : k ≤ n) : Holds ⟨nm, false, o + k, tabF (n - k) fun i => u8 (f (i + k))⟩ w := by
  refine ⟨h.lt, fun j v hj => ?_, (fun hb => by cases hb), obj_not rfl⟩
  by_cases hl : j < n - k
  · rw [tabF_in hl] at hj
    have := h.cell (k + j) v (by show (tabF n _).get (k + j) = _; rw [tabF_in (by omega)]; rw [Nat.add_comm k j]; exact hj)
    show w.cell? ⟨nm, o + k + j, none⟩ = some v
    rw [Nat.add_assoc]; exact this
  · rw [tabF_out hl] at hj; cases hj
theorem holdb_own {nm n c : Nat} {f : Nat → UInt8} {w : World} (h : Holds ⟨nm, false, 0, tabF n fun k => u8 (f k)⟩ w) : FamH (famB (bytO nm n c f)) w := fun b hb => by
  obtain ⟨_, rfl⟩ := hb
  exact ⟨h, rfl⟩
theorem holdb_nil {a : Option Addr} {c : Nat} {w : World} : FamH (famB (bytZ a c)) w := fun b hb => absurd hb.1 (Nat.lt_irrefl 0)
theorem holdb_to {x : BytL} {k : Nat} {w : World} (hk : k ≤ x.wn) (h : FamH (famB x) w) : FamH (famB (bytT x k)) w := fun b hb => by
  obtain ⟨h0, rfl⟩ := hb
  have h1 : 0 < k := h0
  obtain ⟨h2, _⟩ := h (bytB x) ⟨by omega, rfl⟩
  exact ⟨tabU_less h2 hk, rfl⟩
theorem holdb_from {x : BytL} {k : Nat} {w : World} (hk : k ≤ x.wn) (h : FamH (famB x) w) : FamH (famB (bytF x k)) w := fun b hb => by
  obtain ⟨h0, rfl⟩ := hb
  have h1 : 0 < x.wn - k := h0
  obtain ⟨h2, _⟩ := h (bytB x) ⟨by omega, rfl⟩
  exact ⟨tabU_tail h2 hk, rfl⟩
theorem hold_or {F G : Blk → Prop} {w : World} (hx : FamH F w) (hy : FamH G w) : FamH (fun b => F b ∨ G b) w := fun b hb => by
  rcases hb with hb | hb
  · exact hx b hb
  · exact hy b hb
section
variable {P : Program} {t e t' : TypeId} {x y z : Operand}
end
section
variable {P : Program} {t ty e : TypeId}
theorem mk_build0 {B : Nat} {z : Value} (ht : P.underlying t = some (.slice e)) (h1 : OneC P e z B) {α : Type} (K : α → Value) (g : Nat → α) :
    SRuns P (buildSem t 0 #[]) [] 1 (fun ns => .slice (some ⟨ns.getD 0 0, 0, none⟩) 0 0) (fun ns => [some ⟨ns.getD 0 0, true, 0, spr (0 + 0) 0 (fun k => K (g k)) z⟩]) := by
  obtain ⟨i, hi, hz, hsz, hB, hzc⟩ := h1
  have h0 : SRuns P (buildSem t 0 #[]) [] 1 (fun ns => .slice (some ⟨ns.getD 0 0, 0, none⟩) 0 0) (fun ns => [some ⟨ns.getD 0 0, true, 0, .lit (#[] : Array Value).toList⟩]) := srun_made (e := e) fun w => by
    refine run_value ?_
    simp [Instr.buildSlice, run_underlying ht, sizeOf, typeInfo, hi, newRow, Instr.fill]
    exact congrArg (fun a => w.alloc (Obj.cells a e)) (Array.eq_empty_of_size_eq_zero (by simp))
  exact h0.recont (C' := fun _ => spr (0 + 0) 0 (fun k => K (g k)) z) (fun _ => rfl) fun ns o v ho => by
    rw [spr, tabF_out (by omega)] at ho; cases ho
theorem mk_append0 {B : Nat} {z : Value} (ht : P.underlying t = some (.slice e)) (h1 : OneC P e z B) (b : Nat) (C : Cont) (al : Option Addr) (cl : Nat) :
    SRuns P (appendSem t ty (.slice (some ⟨b, 0, none⟩) 0 (0 + 0)) (.slice al 0 cl)) [⟨b, true, 0, C⟩] 1 (fun ns => .slice (some ⟨ns.getD 0 0, 0, none⟩) 0 (0 + 0)) (fun ns => [some ⟨ns.getD 0 0, true, 0, C⟩]) := by
  obtain ⟨i, hi, hz, hsz, hB, hzc⟩ := h1
  intro w hall ha
  refine ⟨[b], w, rfl, .inl (run_value ?_), Post.refl (fun p c h => ?_) ha⟩
  · cases al <;> simp [Builtin.append_, run_underlying ht, sizeOf, typeInfo, hi, Builtin.lenOf, Builtin.firstCells, storeCells, loadCells, loadCellsFrom]
  · rcases p with _ | p
    · cases h; exact hall _ (by simp)
    · simp [listMem] at h
end
end Go.Eng
namespace Go.Eng
def slF (sz : Nat) (vs : List Value) : Value := match vs with
  | [.slice a len cap, .int _ i] => .slice (fromA a cap i.toNat sz) (len - i.toNat) (cap - i.toNat)
  | _ => undef
theorem mk_appendA {P : Program} {t ty e : TypeId} {B : Nat} {z : Value} (ht : P.underlying t = some (.slice e)) (h1 : OneC P e z B) (b len r k bo os n cc : Nat) {α : Type} (K : α → Value) (g h : Nat → α) (S : Cont) (hS : ∀ j, j < n → S.get (os + j) = some (K (h j)))
    (hK : ∀ a, (K a).oneCell' = true) (hb : (len + n) * B ≤ 140737488355328 ∧ len + n ≤ 9223372036854775807) {A : Option Addr} (hA : A = some ⟨k, bo + os, none⟩) :
    SRuns P (appendSem t ty (.slice (some ⟨b, 0, none⟩) len (len + r)) (.slice A n cc)) [⟨b, true, 0, spr (len + r) len (fun k => K (g k)) z⟩, ⟨k, false, bo, S⟩] 2
      (fun ns => .slice (some ⟨ns.getD 0 0, 0, none⟩) (len + n) (len + n + ns.getD 1 0))
      (fun ns => [some ⟨ns.getD 0 0, true, 0, spr (len + n + ns.getD 1 0) (len + n) (fun k => K (catU g len h k)) z⟩, some ⟨k, false, bo, S⟩]) := by
  subst hA; exact mk_append ht h1 b len r k bo os n cc K g h S hS hK hb
end Go.Eng
namespace Go.Eng
theorem listMem_app {a b : List (Option Blk)} {p : Nat} {x : Blk} (h : listMem (a ++ b) p = some x) : (p < a.length ∧ listMem a p = some x) ∨ (a.length ≤ p ∧ listMem b (p - a.length) = some x) := by
  unfold listMem at h ⊢
  by_cases hp : p < a.length
  · left; rw [List.getElem?_append_left hp] at h; exact ⟨hp, h⟩
  · right; rw [List.getElem?_append_right (by omega)] at h; exact ⟨by omega, h⟩
theorem listMem_left {a b : List (Option Blk)} {p : Nat} (hp : p < a.length) : listMem (a ++ b) p = listMem a p := by
  unfold listMem; rw [List.getElem?_append_left hp]
theorem listMem_right {a b : List (Option Blk)} {p : Nat} (hp : a.length ≤ p) : listMem (a ++ b) p = listMem b (p - a.length) := by
  unfold listMem; rw [List.getElem?_append_right hp]
theorem noneL_length : ∀ cs : List Blk, (noneL cs).length = cs.length
  | [] => rfl
  | _ :: r => congrArg (· + 1) (noneL_length r)
theorem RunsF.lendG {F F' : Blk → Prop} {P : Program} {f : FuncId} {args : List Value} {bs cs : List Blk} {k : Nat} {v : List Nat → Value} {o nw : List Nat → List (Option Blk)} (h : RunsF F P f args bs k v (fun ns => o ns ++ nw ns)) (ho : ∀ ns, (o ns).length = bs.length)
    (hF : ∀ w : World, FamH F' w → (∀ b ∈ cs, Holds b w) → FamH F w) (hn : ∀ x, F x → ∀ j, x.has j → (∃ y, F' y ∧ y.has j) ∨ ∃ c ∈ cs, c.has j) (hc : ∀ b ∈ cs, b.own = false) :
    RunsF F' P f args (bs ++ cs) k v (fun ns => o ns ++ (noneL cs ++ nw ns)) := by
  intro w hm ha hF'
  have hsub : ∀ p b, listMem (bs.map some) p = some b → p < bs.length ∧ listMem ((bs ++ cs).map some) p = some b := fun p b hp => by
    have hl : p < bs.length := by
      have := (List.getElem?_eq_some_iff.1 (listMem_some.1 hp)).1
      simpa using this
    exact ⟨hl, by rw [List.map_append, listMem_left (by simpa using hl)]; exact hp⟩
  have ho1 : ∀ k, Owns (listMem (bs.map some)) k → Owns (listMem ((bs ++ cs).map some)) k := fun k ⟨p, b, h1, h2, h3⟩ => ⟨p, b, (hsub p b h1).2, h2, h3⟩
  have hw := hF w (fun b hb' => ⟨(hF' b hb').1, (hF' b hb').2.1⟩) (fun b hb' => hm b (by simp [hb']))
  refine Calls.mono (h w (fun b hb' => hm b (by simp [hb'])) (fun p q b c hpq hpb hqc hown => ha p q b c hpq (hsub p b hpb).2 (hsub q c hqc).2 hown) (fun b hFb => ⟨(hw b hFb).1, (hw b hFb).2, fun j hj ⟨p, b', h1, h2, h3⟩ => ?_⟩)) ?_
  · obtain ⟨hl, hp'⟩ := hsub p b' h1
    rcases hn b hFb j hj with ⟨y, hy, he⟩ | ⟨c, hcm, he⟩
    · exact (hF' y hy).2.2 j he ⟨p, b', hp', h2, h3⟩
    · obtain ⟨i, hi⟩ := List.getElem?_of_mem hcm
      have hq : listMem ((bs ++ cs).map some) (bs.length + i) = some c := by
        rw [List.map_append, listMem_right (by simp)]
        simp [listMem, hi]
      exact ha p (bs.length + i) b' c (by omega) hp' hq h2 j h3 he
  · rintro e w' ⟨ns, hns, he, hp⟩
    have hout : ∀ p b, listMem (o ns ++ (noneL cs ++ nw ns)) p = some b → (p < bs.length ∧ listMem (o ns ++ nw ns) p = some b) ∨ (bs.length + cs.length ≤ p ∧ listMem (o ns ++ nw ns) (p - cs.length) = some b) := fun p b hpb => by
      rcases listMem_app hpb with ⟨h1, h2⟩ | ⟨h1, h2⟩
      · left; rw [ho] at h1; exact ⟨h1, by rw [listMem_left (by rw [ho]; exact h1)]; exact h2⟩
      · rw [ho] at h1 h2
        rcases listMem_app h2 with ⟨h3, h4⟩ | ⟨h3, h4⟩
        · exact absurd h4 (noneL_get _ _ _)
        · right
          rw [noneL_length] at h3 h4
          refine ⟨by omega, ?_⟩
          rw [listMem_right (by rw [ho]; omega), ho, show p - cs.length - bs.length = p - bs.length - cs.length by omega]; exact h4
    have hpos : ∀ p b, listMem (o ns ++ (noneL cs ++ nw ns)) p = some b → ∃ p', listMem (o ns ++ nw ns) p' = some b ∧ ((p < bs.length ∧ p' = p) ∨ (bs.length + cs.length ≤ p ∧ p' = p - cs.length)) := fun p b hpb => by
      rcases hout p b hpb with ⟨h1, h2⟩ | ⟨h1, h2⟩
      · exact ⟨p, h2, .inl ⟨h1, rfl⟩⟩
      · exact ⟨p - cs.length, h2, .inr ⟨h1, rfl⟩⟩
    refine ⟨ns, hns, he, ⟨fun p b hpb => ?_, fun p q b c hpq hpb hqc => ?_, ⟨hp.adv.os, hp.adv.output, hp.adv.tape, hp.adv.size, fun k hk hno => hp.adv.heap k hk (fun hk' => hno (ho1 k hk')), fun k ⟨p, b, h1, h2, h3⟩ => ?_, fun p b hpb hob => ?_⟩⟩⟩
    · obtain ⟨p', h1, _⟩ := hpos p b hpb; exact hp.holds p' b h1
    · obtain ⟨p', h1, h2⟩ := hpos p b hpb
      obtain ⟨q', h3, h4⟩ := hpos q c hqc
      exact hp.apart p' q' b c (by omega) h1 h3
    · obtain ⟨p', h4, _⟩ := hpos p b h1
      rcases hp.adv.names k ⟨p', b, h4, h2, h3⟩ with h5 | h5
      · exact .inl (ho1 k h5)
      · exact .inr h5
    · obtain ⟨p', h1, h2⟩ := hpos p b hpb
      have h3 := hp.adv.ro p' b h1 hob
      obtain ⟨h4, h5⟩ := hsub p' b h3
      rcases h2 with ⟨_, rfl⟩ | ⟨h6, rfl⟩
      · exact h5
      · omega
end Go.Eng
namespace Go.Eng
theorem holds_sprB {nm n r : Nat} {f : Nat → UInt8} {w : World} (h : Holds ⟨nm, false, 0, spr (n + r) n (fun k => u8 (f k)) (u8 0)⟩ w) : Holds ⟨nm, false, 0, tabF n fun k => u8 (f k)⟩ w :=
  h.recont rfl fun j v hj => by
    by_cases hl : j < n
    · rw [tabF_in hl] at hj
      show (spr (n + r) n (fun k => u8 (f k)) (u8 0)).get j = _
      rw [spr, tabF_in (by omega), if_pos hl]; exact hj
    · rw [tabF_out hl] at hj; cases hj
theorem famB_name {F' : Blk → Prop} {q : BytL} {B : Blk} (h : B.has q.wb) : ∀ x, famB q x → ∀ j, x.has j → (∃ y, F' y ∧ y.has j) ∨ ∃ c ∈ [B], c.has j := fun x hx j hj => by
  obtain ⟨_, rfl⟩ := hx
  have hj : q.wb = j := hj
  subst hj
  exact .inr ⟨B, by simp, h⟩
theorem Runs.fam {F : Blk → Prop} {P : Program} {f : FuncId} {args : List Value} {B : Blk} {v : Value} {o : List (Option Blk)} (h : Runs P f args [B] 0 (fun _ => v) (fun _ => o)) (hB : F B) : RunsF F P f args [] 0 (fun _ => v) (fun _ => []) := by
  intro w hm ha hF
  obtain ⟨h1, h2, _⟩ := hF B hB
  have hno : ∀ k, ¬ Owns (listMem ([B].map some)) k := fun k ⟨p, b, hp, ho, _⟩ => by
    rcases p with _ | p
    · cases hp; rw [h2] at ho; cases ho
    · simp [listMem] at hp
  refine Calls.mono (h w (fun b hb => by simp at hb; subst hb; exact h1) (fun p q b c _ hb _ ho => by
    rcases p with _ | p
    · cases hb; rw [h2] at ho; cases ho
    · simp [listMem] at hb)) ?_
  rintro e w' ⟨ns, hns, he, hp⟩
  have hnil : ∀ p b, listMem ([] : List (Option Blk)) p ≠ some b := fun p b => by simp [listMem]
  exact ⟨ns, hns, he, ⟨fun p b hpb => absurd hpb (hnil p b), fun p q b c _ hpb => absurd hpb (hnil p b), ⟨hp.adv.os, hp.adv.output, hp.adv.tape, hp.adv.size, fun k hk _ => hp.adv.heap k hk (hno k), fun k ⟨p, b, hpb, _⟩ => absurd hpb (hnil p b), fun p b hpb => absurd hpb (hnil p b)⟩⟩⟩
section
variable {P : Program} {t e t' : TypeId} {x y z : Operand}
theorem is_slqPartK (ht : P.underlying t = some (.slice e)) {sz : Nat} (hs : sizeB P e = some sz) (k1 k2 : IntKind) (wa : Option Addr) (len cap i j : Nat) (hi : i ≤ j ∧ j ≤ cap) :
    IsOp P (.slice t x (some y) (some z) none) [.slice wa len cap, .int k1 (i : Int), .int k2 (j : Int)] (.slice (fromA wa cap i sz) (j - i) (cap - i)) := by
  intro ρ o' ho hv
  rw [ho] at hv
  have hv' : [ρ x, ρ y, ρ z] = [Value.slice wa len cap, .int k1 (i : Int), .int k2 (j : Int)] := hv
  injection hv' with h1 hv'
  injection hv' with h2 hv'
  injection hv' with h3 _
  unfold execOp
  rw [ho]
  simp only [Option.map]
  show pureRun P (Sem.bind (Instr.sliceAt t (ρ x) (some (ρ y)) (some (ρ z)) none) fun v => Sem.pure (Next.value v)) = _
  rw [pureRun_bind, h1, h2, h3]
  have hi' : 0 ≤ (i : Int) ∧ (i : Int) ≤ (j : Int) := by omega
  have hj' : 0 ≤ (j : Int) ∧ (j : Int) ≤ (cap : Int) := by omega
  have e : pureRun P (Instr.sliceAt t (.slice wa len cap) (some (.int k1 (i : Int))) (some (.int k2 (j : Int))) none) = some (.slice (fromA wa cap i sz) (j - i) (cap - i)) := by
    simp only [Instr.sliceAt, Instr.slice, Instr.sliceBounds, Instr.sliceBound, nat, pureRun_bind', asIntOf, pureRun, pure, pureRun_underlying ht, hi', hj', and_self, if_true, pureRun_sizeOf hs, Int.toNat_natCast]
    rfl
  rw [e]
  rfl
theorem is_slqFromK (ht : P.underlying t = some (.slice e)) {sz : Nat} (hs : sizeB P e = some sz) (k : IntKind) (wa : Option Addr) (len cap i : Nat) (hi : i ≤ len ∧ len ≤ cap) : IsOp P (.slice t x (some y) none none) [.slice wa len cap, .int k (i : Int)] (.slice (fromA wa cap i sz) (len - i) (cap - i)) := by
  intro ρ o' ho hv
  rw [ho] at hv
  have hv' : [ρ x, ρ y] = [Value.slice wa len cap, .int k (i : Int)] := hv
  injection hv' with h1 hv'
  injection hv' with h2 _
  unfold execOp
  rw [ho]
  simp only [Option.map]
  show pureRun P (Sem.bind (Instr.sliceAt t (ρ x) (some (ρ y)) none none) fun v => Sem.pure (Next.value v)) = _
  rw [pureRun_bind, h1, h2]
  have hi' : 0 ≤ (i : Int) ∧ (i : Int) ≤ (len : Int) := by omega
  have e : pureRun P (Instr.sliceAt t (.slice wa len cap) (some (.int k (i : Int))) none none) = some (.slice (fromA wa cap i sz) (len - i) (cap - i)) := by
    simp only [Instr.sliceAt, Instr.slice, Instr.sliceBounds, Instr.sliceBound, nat, pureRun_bind', asIntOf, pureRun, pure, pureRun_underlying ht, hi', and_self, if_true, pureRun_sizeOf hs, Int.toNat_natCast]
    rfl
  rw [e]
  rfl
end
section
variable {P : Program} {t t' : TypeId} {x y : Operand} (a b : UInt8)
theorem is_add8 : IsOp P (.binOp .add t x y t') [u8 a, u8 b] (u8 (a + b)) := isOp_bin guard_int (by
  show some (Value.int .u8 (IntKind.u8.wrap ((a.toNat : Int) + b.toNat))) = _
  rw [wrap_u8, u8, UInt8.toNat_add]; congr 2)
theorem is_leq8 : IsOp P (.binOp .leq t x y t') [u8 a, u8 b] (.bool (decide (a.toNat ≤ b.toNat))) := isOp_bin guard_int (by
  show some (Value.bool (decide ((a.toNat : Int) ≤ (b.toNat : Int)))) = _
  congr 2; exact decide_eq_decide.2 Int.ofNat_le)
theorem is_gtr8 : IsOp P (.binOp .gtr t x y t') [u8 a, u8 b] (.bool (decide (b.toNat < a.toNat))) := isOp_bin guard_int (by
  show some (Value.bool (decide ((b.toNat : Int) < (a.toNat : Int)))) = _
  congr 2; exact decide_eq_decide.2 Int.ofNat_lt)
end
end Go.Eng
namespace Go.Eng
theorem Runs.famN {F : Blk → Prop} {P : Program} {f : FuncId} {args : List Value} {B : Blk} {k : Nat} {v : List Nat → Value} {x : List Nat → Option Blk} {nw : List Nat → List (Option Blk)} (h : Runs P f args [B] k v (fun ns => x ns :: nw ns)) (hB : F B) : RunsF F P f args [] k v nw := by
  intro w hm ha hF
  obtain ⟨h1, h2, _⟩ := hF B hB
  have hno : ∀ k, ¬ Owns (listMem ([B].map some)) k := fun k ⟨p, b, hp, ho, _⟩ => by
    rcases p with _ | p
    · cases hp; rw [h2] at ho; cases ho
    · simp [listMem] at hp
  refine Calls.mono (h w (fun b hb => by simp at hb; subst hb; exact h1) (fun p q b c _ hb _ ho => by
    rcases p with _ | p
    · cases hb; rw [h2] at ho; cases ho
    · simp [listMem] at hb)) ?_
  rintro e w' ⟨ns, hns, he, hp⟩
  have hs : ∀ p b, listMem (nw ns) p = some b → listMem (x ns :: nw ns) (p + 1) = some b := fun p b h => by simpa [listMem] using h
  refine ⟨ns, hns, he, ⟨fun p b hpb => hp.holds _ b (hs p b hpb), fun p q b c hpq hpb hqc => hp.apart _ _ b c (by omega) (hs p b hpb) (hs q c hqc), ⟨hp.adv.os, hp.adv.output, hp.adv.tape, hp.adv.size, fun k hk _ => hp.adv.heap k hk (hno k), fun k ⟨p, b, hpb, h3, h4⟩ => ?_, fun p b hpb hob => ?_⟩⟩⟩
  · rcases hp.adv.names k ⟨p + 1, b, hs p b hpb, h3, h4⟩ with h5 | h5
    · exact absurd h5 (hno k)
    · exact .inr h5
  · have := hp.adv.ro (p + 1) b (hs p b hpb) hob
    simp [listMem] at this
end Go.Eng
namespace Go.Eng
theorem RunsF.lendP {F F' : Blk → Prop} {P : Program} {f : FuncId} {args : List Value} {bs : List Blk} {k : Nat} {v : List Nat → Value} {out : List Nat → List (Option Blk)}
    (hF : ∀ w : World, FamH F' w → FamH F w) (hn : ∀ x, F x → ∃ y, F' y ∧ ∀ j, x.has j → y.has j) (h : RunsF F P f args bs k v out) : RunsF F' P f args bs k v out := fun w hb ha hF' => h w hb ha fun b hb' => by
  obtain ⟨h1, h2⟩ := hF w (fun x hx => ⟨(hF' x hx).1, (hF' x hx).2.1⟩) b hb'
  obtain ⟨y, hy, he⟩ := hn b hb'
  exact ⟨h1, h2, fun j hj => (hF' y hy).2.2 j (he j hj)⟩
theorem famB_part {b c : BytL} {x : Blk} (h : 0 < c.wn → 0 < b.wn) (hx : famB c x) (hb : c.wb = b.wb := by rfl) : ∃ y, famB b y ∧ ∀ j, x.has j → y.has j := by
  obtain ⟨h0, rfl⟩ := hx
  exact ⟨bytB b, ⟨h h0, rfl⟩, fun j hj => hb.symm.trans hj⟩
end Go.Eng
namespace Go.Eng
section
variable {P : Program} {t t' : TypeId} {x y : Operand}
theorem is_eql8 (a b : UInt8) : IsOp P (.binOp .eql t x y t') [u8 a, u8 b] (.bool (a == b)) := isOp_bin guard_int (by
  show some (Value.bool ((a.toNat : Int) == (b.toNat : Int))) = _
  have : ((a.toNat : Int) == (b.toNat : Int)) = (a == b) := by
    rw [Bool.eq_iff_iff, beq_iff_eq, beq_iff_eq]
    constructor
    · intro h; exact UInt8.toNat_inj.1 (by omega)
    · intro h; rw [h]
  rw [this])
end
end Go.Eng
namespace Go.Eng
theorem map_get {α : Type} (K : α → Value) (g : Nat → α) (n k : Nat) (h : k < n) : ((List.range n).map fun j => K (g j))[k]? = some (K (g k)) := by
  rw [List.getElem?_map, List.getElem?_range h]; rfl
theorem holds_litB {nm : Nat} {l : List Value} {n : Nat} {f : Nat → UInt8} {w : World} (h : Holds ⟨nm, false, 0, .lit l⟩ w) (hl : l = (List.range n).map fun k => u8 (f k)) : Holds ⟨nm, false, 0, tabF n fun k => u8 (f k)⟩ w := by
  subst hl
  exact h.recont rfl fun j v hj => by
    by_cases hl : j < n
    · rw [tabF_in hl] at hj
      show ((List.range n).map fun k => u8 (f k))[j]? = _
      rw [map_get u8 f n j hl]; exact hj
    · rw [tabF_out hl] at hj; cases hj
def bytsOf (l : List UInt8) (k : Nat) : UInt8 := l.getD k 0
def famBB (x y : BytL) (b : Blk) : Prop := famB x b ∨ famB y b
theorem holdb_ownT {nm n k c r : Nat} {f : Nat → UInt8} {w : World} (hk : k ≤ n) (h : Holds ⟨nm, false, 0, spr (n + r) n (fun k => u8 (f k)) (u8 0)⟩ w) : FamH (famB (bytO nm k c f)) w := holdb_own (tabU_less (holds_sprB h) hk)
end Go.Eng
namespace Go.Eng
theorem RunsF.drop {F : Blk → Prop} {P : Program} {f : FuncId} {args : List Value} {bs : List Blk} {k : Nat} {v : List Nat → Value} {o nw : List Nat → List (Option Blk)} (h : RunsF F P f args bs k v (fun ns => o ns ++ nw ns)) : RunsF F P f args bs k v o := fun w hb ha hF =>
  Calls.mono (h w hb ha hF) fun e w' ⟨ns, h1, h2, hp⟩ => by
    have hs : ∀ p b, listMem (o ns) p = some b → listMem (o ns ++ nw ns) p = some b := fun p b h => by
      have hl : p < (o ns).length := (List.getElem?_eq_some_iff.1 (show (o ns)[p]? = some (some b) by
        unfold listMem at h
        cases h3 : (o ns)[p]? with
        | none => rw [h3] at h; cases h
        | some x => rw [h3] at h; simp at h; rw [h])).1
      rw [listMem_left hl]; exact h
    exact ⟨ns, h1, h2, ⟨fun p b h => hp.holds p b (hs p b h), fun p q b c hpq hb hc => hp.apart p q b c hpq (hs p b hb) (hs q c hc), hp.adv.weak hs⟩⟩
theorem RunsF.name1 {F : Blk → Prop} {P : Program} {f : FuncId} {args : List Value} {bs : List Blk} {v : Value} {o : List (Option Blk)} (h : RunsF F P f args bs 0 (fun _ => v) (fun _ => o)) : RunsF F P f args bs 1 (fun _ => v) (fun _ => o) := fun w hb ha hF =>
  Calls.mono (h w hb ha hF) fun e w' ⟨ns, h1, h2, hp⟩ => ⟨[0], rfl, h2, hp⟩
end Go.Eng
end
section
namespace Go.Eng
set_option linter.unusedSimpArgs false
set_option linter.unusedVariables false
set_option maxRecDepth 100000
open Go.RowKit Go.WideShapes Go.ChangeShapes Go.ChangeAt Go.Deep
section
variable {H : Type} {enc : TypeId × Value → H} {P : Program}
theorem bytes_cell {W : World} {base : Nat} {sp : Nat → Bool} {held : Bool} {t e : TypeId} {v : Value} {fuel : Nat} {x : DataW H × List MemPlace} (ht : P.underlying t = some (.slice e)) (he : P.underlying e = some (.int .u8))
    (hc : P.cellsOf e = 1) (hf : DataW.trod enc P W base sp held fuel t [v] = some x) : ∃ q : BytL, v = slqV q ∧ OkB q ∧ FamH (famB q) W := by
  rcases open_slice1 ht hc hf with ⟨hcs, _⟩ | ⟨a, len, cap, m, n, V, D, Pl, hcs, _, hl, hm, hmm, _, hx⟩
  · simp only [List.cons.injEq, and_true] at hcs
    subst hcs
    exact ⟨bytZ none 0, rfl, okb_nil, holdb_nil⟩
  · simp only [List.cons.injEq, and_true] at hcs
    subst hcs
    by_cases h0 : len = 0
    · subst h0
      exact ⟨bytZ (some a) cap, rfl, okb_nil, holdb_nil⟩
    have hlm : len ≤ m := by rw [hmm]; split <;> omega
    have hspot : a.spot = none := World.cell?_spot (by
      have := (hx 0 (by omega)).1
      rwa [show a.add 0 = a from by cases a; simp [Addr.add]] at this)
    obtain ⟨ab, ao, spot⟩ := a
    simp only at hspot
    subst hspot
    have hV : ∀ i, i < len → ∃ x : UInt8, V i = u8 x := fun i hi => by
      obtain ⟨_, h2⟩ := hx i (by omega)
      obtain ⟨x0, e0, _, w0⟩ := DataW.trod_int he h2
      simp at e0
      rw [e0]
      exact u8_of w0
    obtain ⟨f, hfV⟩ := choose_lt (α := UInt8) (p := fun i x => V i = u8 x) hV
    refine ⟨⟨some ⟨ab, ao, none⟩, len, cap, ab, ao, f⟩, rfl, ⟨hl, fun _ => rfl, by unfold maxLen at hm; show len ≤ _; omega⟩, fun b hb => ?_⟩
    obtain ⟨_, rfl⟩ := hb
    refine ⟨⟨lt_of_cell (hx 0 (by omega)).1, fun o v ho => ?_, (fun h => by cases h), obj_not rfl⟩, rfl⟩
    have ho' : (tabF len fun k => u8 (f k)).get o = some v := ho
    by_cases hol : o < len
    · rw [tabF_in hol] at ho'
      injection ho' with ho'
      have := (hx o (by omega)).1
      rw [add_none] at this
      show W.cell? ⟨ab, ao + o, none⟩ = some v
      rw [this, hfV o hol, ho']
    · rw [tabF_out hol] at ho'; cases ho'
theorem int_cell {W : World} {base : Nat} {sp : Nat → Bool} {held : Bool} {i : TypeId} (hi : P.underlying i = some (.int .i64)) {c : Value} {fuel : Nat} {z : DataW H × List MemPlace} (h : DataW.trod enc P W base sp held fuel i [c] = some z) :
    ∃ x : Int, c = int x ∧ -9223372036854775808 ≤ x ∧ x ≤ 9223372036854775807 := by
  obtain ⟨x0, e0, _, w0⟩ := DataW.trod_int hi h
  simp at e0
  have hx : -9223372036854775808 ≤ x0 ∧ x0 ≤ 9223372036854775807 := by simpa [Lit.wf, IntKind.min, IntKind.max, IntKind.signed, IntKind.bits] using w0
  exact ⟨x0, e0, hx.1, hx.2⟩
theorem u64_cell {W : World} {base : Nat} {sp : Nat → Bool} {held : Bool} {i : TypeId} (hi : P.underlying i = some (.int .u64)) {c : Value} {fuel : Nat} {z : DataW H × List MemPlace} (h : DataW.trod enc P W base sp held fuel i [c] = some z) :
    ∃ x : UInt64, c = u64 x := by
  obtain ⟨x0, e0, _, w0⟩ := DataW.trod_int hi h
  simp at e0
  obtain ⟨x, hx⟩ := u64_of w0
  exact ⟨x, e0.trans hx⟩
instance : Inhabited BytL := ⟨bytZ none 0⟩
end
end Go.Eng
namespace Go.Eng
open Go.RowKit Go.WideShapes Go.ChangeShapes Go.ChangeAt Go.Deep
section
variable {H : Type} {enc : TypeId × Value → H} {P : Program}
end
end Go.Eng
end
section
set_option linter.unusedSimpArgs false
set_option linter.unusedVariables false
set_option maxRecDepth 100000
namespace Go.Eng
structure Grw (α : Type) where
  z : Bool
  nm : Nat
  n : Nat
  r : Nat
  f : Nat → α
def grO {α : Type} (K : α → Value) (zv : Value) (A : Grw α) : Option Blk := match A.z with
  | true => none
  | false => some ⟨A.nm, true, 0, spr (A.n + A.r) A.n (fun k => K (A.f k)) zv⟩
section
variable {α : Type} {K : α → Value} {zv : Value} {A : Grw α}
theorem grO_own (h : A.z = false) : grO K zv A = some ⟨A.nm, true, 0, spr (A.n + A.r) A.n (fun k => K (A.f k)) zv⟩ := by unfold grO; rw [h]
end
section
variable {P : Program} {t ty e : TypeId}
theorem srun_append_none {sz : Nat} (ht : P.underlying t = some (.slice e)) (hs : sizeB P e = some sz) (a : Option Addr) (n c : Nat) (hn : n ≤ c) (al : Option Addr) (cl : Nat) :
    SRuns P (appendSem t ty (.slice a n c) (.slice al 0 cl)) [] 0 (fun _ => .slice a n c) (fun _ => []) := by
  intro w hall ha
  obtain ⟨i, hi, hi2⟩ : ∃ i, P.info? e = some i ∧ i.size = sz := by
    unfold sizeB at hs
    cases h : P.info? e with
    | none => simp [h] at hs
    | some i => simp [h] at hs; exact ⟨i, rfl, hs⟩
  refine ⟨[], w, rfl, .inl (run_value ?_), Post.refl (fun p c h => by cases h) ha⟩
  have hn' : ¬ c < n := by omega
  cases al <;> cases a <;> simp [Builtin.append_, run_underlying ht, sizeOf, typeInfo, hi, hn', Builtin.lenOf, Builtin.firstCells, storeCells, loadCells, loadCellsFrom]
end
end Go.Eng
namespace Go.Eng
theorem srun_append_noneM {P : Program} {t ty e : TypeId} {sz : Nat} (ht : P.underlying t = some (.slice e)) (hs : sizeB P e = some sz) (a : Option Addr) (n c : Nat) (hn : n ≤ c) (al : Option Addr) (m cl : Nat) (hm : m = 0) :
    SRuns P (appendSem t ty (.slice a n c) (.slice al m cl)) [] 0 (fun _ => .slice a n c) (fun _ => []) := by
  subst hm; exact srun_append_none ht hs a n c hn al cl
section
variable {P : Program} {t ty e : TypeId}
end
end Go.Eng
end
section
set_option linter.unusedSimpArgs false
set_option linter.unusedVariables false
set_option maxRecDepth 100000
namespace Go.Eng
theorem fromA_own {nm c i : Nat} (h : i < c) : fromA (some ⟨nm, 0, none⟩) c i 1 = some ⟨nm, 0 + i, none⟩ := by
  unfold fromA; rw [if_neg (by omega)]; simp [add_none]
def smA (x : UInt64) : N4 := ⟨x, 0, 0, 0⟩
theorem smA_val (x : UInt64) : (smA x).val = x.toNat := by
  show x.toNat + _ = _
  simp [smA]
def szU (x : UInt64) : Nat := (len4 (smA x) + 7) / 8
end Go.Eng
namespace Go.Eng
theorem szU_le (x : UInt64) : szU x ≤ 8 := by
  unfold szU
  rw [len4_val, smA_val]
  have := bitLen_le_of_lt (n := x.toNat) (k := 64) x.toNat_lt
  omega
theorem szU_lt (x : UInt64) : x.toNat < 256 ^ szU x := by
  rw [pow256]
  refine Nat.lt_of_lt_of_le (bitLen_lt _) (Nat.pow_le_pow_right (by omega) ?_)
  unfold szU
  rw [len4_val, smA_val]; omega
theorem szU_ge {x : UInt64} (h : szU x ≠ 0) : 256 ^ (szU x - 1) ≤ x.toNat := by
  have h0 : x.toNat ≠ 0 := fun e => h (by unfold szU; rw [len4_val, smA_val, e]; rfl)
  rw [pow256]
  refine Nat.le_trans (Nat.pow_le_pow_right (by omega) ?_) (bitLen_le h0)
  unfold szU
  rw [len4_val, smA_val]; omega
def smN (x : UInt64) : Nat := szU x + 1
def smB (x : UInt64) : Nat → UInt8 := fun k => if k = 0 then UInt8.ofNat (szU x) else bytesF (smA x) (32 - szU x + (k - 1))
theorem smB_dig (x : UInt64) {k : Nat} (h : 0 < k) (h2 : k ≤ szU x) : smB x k = UInt8.ofNat (dig x.toNat (szU x - k)) := by
  have := szU_le x
  unfold smB bytesF
  rw [if_neg (by omega), if_pos (by omega), smA_val]
  congr 2; omega
theorem small_end {f : Nat → UInt8} {n : Nat} {x : UInt64} (k : Nat) (hk : k < n + smN x) :
    catU (catU f n (fun _ => UInt8.ofNat ((len4 (N4.mk x 0 0 0) + 7) / 8))) (n + 1) (fun j => bytesF (N4.mk x 0 0 0) (32 - (len4 (N4.mk x 0 0 0) + 7) / 8 + j)) k = catU f n (smB x) k := by
  have hz : (len4 (N4.mk x 0 0 0) + 7) / 8 = szU x := rfl
  rw [hz]
  unfold smN at hk
  unfold catU smB
  by_cases h1 : k < n
  · rw [if_pos (by omega), if_pos h1, if_pos h1]
  · by_cases h2 : k < n + 1
    · rw [if_pos h2, if_neg h1, if_neg h1, if_pos (by omega)]
    · rw [if_neg h2, if_neg h1, if_neg (by omega)]
      exact congrArg (bytesF (smA x)) (show 32 - szU x + (k - (n + 1)) = 32 - szU x + (k - n - 1) by omega)
theorem small_end0 {f : Nat → UInt8} {n : Nat} {x : UInt64} (h0 : ¬ 0 < 32 - (32 - (len4 (N4.mk x 0 0 0) + 7) / 8)) (k : Nat) (hk : k < n + smN x) :
    catU f n (fun _ => UInt8.ofNat ((len4 (N4.mk x 0 0 0) + 7) / 8)) k = catU f n (smB x) k := by
  have hz : (len4 (N4.mk x 0 0 0) + 7) / 8 = szU x := rfl
  have := szU_le x
  rw [hz] at h0 ⊢
  unfold smN at hk
  unfold catU smB
  by_cases h1 : k < n
  · rw [if_pos h1, if_pos h1]
  · rw [if_neg h1, if_neg h1, if_pos (by omega)]
theorem catU_nil {α : Type} (f g : Nat → α) : catU f 0 g = g := by
  funext k; unfold catU; rw [if_neg (by omega), Nat.sub_zero]
theorem catU_assoc {α : Type} (f g h : Nat → α) (a b : Nat) : catU (catU f a g) (a + b) h = catU f a (catU g b h) := by
  funext k; unfold catU
  by_cases h1 : k < a
  · rw [if_pos (by omega), if_pos h1, if_pos h1]
  · by_cases h2 : k < a + b
    · rw [if_pos h2, if_neg h1, if_neg h1, if_pos (by omega)]
    · rw [if_neg h2, if_neg h1, if_neg (by omega), Nat.sub_sub]
theorem spr_as {c n : Nat} {f g : Nat → Value} {z : Value} (h : ∀ k, k < n → f k = g k) : spr c n f z = spr c n g z := by
  unfold spr
  congr 1
  funext k
  by_cases hk : k < n
  · rw [if_pos hk, if_pos hk, h k hk]
  · rw [if_neg hk, if_neg hk]
end Go.Eng
namespace Go.Eng
def smV (f : Nat → UInt8) : UInt64 := (ofN (fun k => f (k + 1)) ((1 + f 0).toNat - 1)).a
def wrE (f : Nat → UInt8) (n : Nat) (limit : UInt64) : Int :=
  if n = 0 then 3 else if (f 0).toNat ≤ 8 ∧ n - 1 < (f 0).toNat then 3 else if 8 < (f 0).toNat ∨ (0 < (f 0).toNat ∧ (f 1 == 0) = true) then 31 else if limit < smV f then 2 else 0
def failE (e e2 : Int) : Int := if e = 0 then e2 else e
theorem add1_8 {x : UInt8} (h : x.toNat ≤ 254) : (1 + x).toNat = 1 + x.toNat := by
  rw [UInt8.toNat_add]
  have : (1 : UInt8).toNat = 1 := rfl
  omega
theorem wrE_zero {f : Nat → UInt8} {n : Nat} {l : UInt64} (h : wrE f n l = 0) : 0 < n ∧ (f 0).toNat ≤ 8 ∧ (f 0).toNat + 1 ≤ n ∧ (1 + f 0).toNat = 1 + (f 0).toNat ∧ ¬ l < smV f ∧ ¬ (0 < (f 0).toNat ∧ (f 1 == 0) = true) := by
  unfold wrE at h
  by_cases h1 : n = 0
  · rw [if_pos h1] at h; cases h
  rw [if_neg h1] at h
  by_cases h2 : (f 0).toNat ≤ 8 ∧ n - 1 < (f 0).toNat
  · rw [if_pos h2] at h; cases h
  rw [if_neg h2] at h
  by_cases h3 : 8 < (f 0).toNat ∨ (0 < (f 0).toNat ∧ (f 1 == 0) = true)
  · rw [if_pos h3] at h; cases h
  rw [if_neg h3] at h
  by_cases h4 : l < smV f
  · rw [if_pos h4] at h; cases h
  have h5 : (f 0).toNat ≤ 8 := by omega
  exact ⟨by omega, h5, by omega, add1_8 (by omega), h4, fun h => h3 (.inr h)⟩
def rsE (q : BytL) (e : Int) (l : UInt64) : Int := failE e (wrE q.wf q.wn l)
def rsQ (q : BytL) (e : Int) (l : UInt64) : BytL := if rsE q e l = 0 then bytF q (1 + q.wf 0).toNat else q
def rsV (q : BytL) (e : Int) (l : UInt64) : UInt64 := if rsE q e l = 0 then smV q.wf else 0
theorem failE_zero {e e2 : Int} (h : failE e e2 = 0) : e = 0 ∧ e2 = 0 := by
  unfold failE at h
  by_cases h1 : e = 0
  · rw [if_pos h1] at h; exact ⟨h1, h⟩
  · rw [if_neg h1] at h; exact absurd h h1
theorem rs_zero {q : BytL} {e : Int} {l : UInt64} (h : rsE q e l = 0) : 0 < q.wn ∧ (q.wf 0).toNat ≤ 8 ∧ (q.wf 0).toNat + 1 ≤ q.wn ∧ (1 + q.wf 0).toNat = 1 + (q.wf 0).toNat := by
  obtain ⟨a, b, c, d, _⟩ := wrE_zero (failE_zero h).2
  exact ⟨a, b, c, d⟩
def endE (n : Nat) (e : Int) : Int := if e = 0 ∧ 0 < n then 30 else e
end Go.Eng
namespace Go.Eng
theorem small_endN {x : UInt64} (k : Nat) (hk : k < smN x) : catU (fun _ => UInt8.ofNat ((len4 (N4.mk x 0 0 0) + 7) / 8)) 1 (fun j => bytesF (N4.mk x 0 0 0) (32 - (len4 (N4.mk x 0 0 0) + 7) / 8 + j)) k = smB x k := by
  have h := small_end (f := fun _ => 0) (n := 0) (x := x) k (by omega)
  rw [catU_nil, catU_nil] at h
  exact h
theorem small_endN0 {x : UInt64} (h0 : ¬ 0 < 32 - (32 - (len4 (N4.mk x 0 0 0) + 7) / 8)) (k : Nat) (hk : k < smN x) : UInt8.ofNat ((len4 (N4.mk x 0 0 0) + 7) / 8) = smB x k := by
  have h := small_end0 (f := fun _ => 0) (n := 0) (x := x) h0 k (by omega)
  rw [catU_nil, catU_nil] at h
  exact h
theorem smN_le (x : UInt64) : smN x ≤ 9 := by have := szU_le x; unfold smN; omega
def byN (n : Nat) : Nat := smN (UInt64.ofNat n) + n
def byB (f : Nat → UInt8) (n : Nat) : Nat → UInt8 := catU (smB (UInt64.ofNat n)) (smN (UInt64.ofNat n)) f
theorem smN_rng (x : UInt64) : 1 ≤ smN x ∧ smN x ≤ 9 := ⟨by unfold smN; omega, smN_le x⟩
theorem byN_rng (n : Nat) : 1 ≤ byN n ∧ byN n ≤ n + 9 := by have := smN_rng (UInt64.ofNat n); unfold byN; omega
theorem bytes_endN {q : BytL} (h0 : q.wn = 0) (k : Nat) (hk : k < byN q.wn) : smB (UInt64.ofNat q.wn) k = byB q.wf q.wn k := by
  unfold byN at hk
  unfold byB catU
  rw [if_pos (by omega)]
theorem bytes_end0 {f : Nat → UInt8} {n : Nat} {q : BytL} (h0 : q.wn = 0) (k : Nat) (hk : k < n + byN q.wn) : catU f n (smB (UInt64.ofNat q.wn)) k = catU f n (byB q.wf q.wn) k := by
  unfold catU
  by_cases h : k < n
  · rw [if_pos h, if_pos h]
  · rw [if_neg h, if_neg h]; exact bytes_endN h0 _ (by omega)
end Go.Eng
namespace Go.Eng
theorem wr_3 {f : Nat → UInt8} {n : Nat} {l : UInt64} (h : n = 0 ∨ ((f 0).toNat ≤ 8 ∧ n - 1 < (f 0).toNat)) : (3 : Int) = wrE f n l := by
  unfold wrE
  by_cases h1 : n = 0
  · rw [if_pos h1]
  · rw [if_neg h1, if_pos (by omega)]
theorem wr_31 {f : Nat → UInt8} {n : Nat} {l : UInt64} (h1 : n ≠ 0) (h2 : ¬ ((f 0).toNat ≤ 8 ∧ n - 1 < (f 0).toNat)) (h3 : 8 < (f 0).toNat ∨ (0 < (f 0).toNat ∧ (f 1 == 0) = true)) : (31 : Int) = wrE f n l := by
  unfold wrE; rw [if_neg h1, if_neg h2, if_pos h3]
theorem wr_2 {f : Nat → UInt8} {n : Nat} {l : UInt64} (h1 : n ≠ 0) (h2 : ¬ ((f 0).toNat ≤ 8 ∧ n - 1 < (f 0).toNat)) (h3 : ¬ (8 < (f 0).toNat ∨ (0 < (f 0).toNat ∧ (f 1 == 0) = true))) (h4 : l < smV f) : (2 : Int) = wrE f n l := by
  unfold wrE; rw [if_neg h1, if_neg h2, if_neg h3, if_pos h4]
theorem wr_0 {f : Nat → UInt8} {n : Nat} {l : UInt64} (h1 : n ≠ 0) (h2 : ¬ ((f 0).toNat ≤ 8 ∧ n - 1 < (f 0).toNat)) (h3 : ¬ (8 < (f 0).toNat ∨ (0 < (f 0).toNat ∧ (f 1 == 0) = true))) (h4 : ¬ l < smV f) : (0 : Int) = wrE f n l := by
  unfold wrE; rw [if_neg h1, if_neg h2, if_neg h3, if_neg h4]
theorem ofN_nil (f : Nat → UInt8) : ofN f 0 = ⟨0, 0, 0, 0⟩ ∧ ofE 0 = 0 := ⟨(show ofN f 0 = N4.ofNat 0 from rfl).trans (N4.ext_val (by rw [N4.val_ofNat]; rfl)), rfl⟩
end Go.Eng
namespace Go.Eng
theorem wr_31s {f : Nat → UInt8} {n : Nat} {l : UInt64} (h1 : n ≠ 0) (h2 : ¬ ((f 0).toNat ≤ 8 ∧ n - 1 < (f 0).toNat)) (h3 : selB (decide (8 < (f 0).toNat)) true (selB (decide (0 < (f 0).toNat)) (f 1 == 0) false) = true) : (31 : Int) = wrE f n l := by
  refine wr_31 h1 h2 ?_
  simpa [selB_or, selB_and] using h3
theorem wr_not {f : Nat → UInt8} (h3 : selB (decide (8 < (f 0).toNat)) true (selB (decide (0 < (f 0).toNat)) (f 1 == 0) false) = false) : ¬ (8 < (f 0).toNat ∨ (0 < (f 0).toNat ∧ (f 1 == 0) = true)) := by
  intro h
  rw [← Bool.not_eq_true] at h3
  exact h3 (by simpa [selB_or, selB_and] using h)
theorem rs_out {q : BytL} {e : Int} {l : UInt64} (h : rsE q e l ≠ 0) : rsQ q e l = q ∧ rsV q e l = 0 := ⟨if_neg h, if_neg h⟩
theorem rs_in {q : BytL} {e : Int} {l : UInt64} (h : rsE q e l = 0) : rsQ q e l = bytF q (1 + q.wf 0).toNat ∧ rsV q e l = smV q.wf := ⟨if_pos h, if_pos h⟩
theorem okb_rs {q : BytL} (hq : OkB q) (e : Int) (l : UInt64) : OkB (rsQ q e l) := by
  unfold rsQ
  split
  · rename_i h
    obtain ⟨a, b, c, d⟩ := rs_zero h
    exact okb_from hq (by omega)
  · exact hq
theorem holdb_rs {q : BytL} {e : Int} {l : UInt64} {w : World} (h : FamH (famB q) w) : FamH (famB (rsQ q e l)) w := by
  unfold rsQ
  split
  · rename_i h0
    obtain ⟨a, b, c, d⟩ := rs_zero h0
    exact holdb_from (by omega) h
  · exact h
end Go.Eng
namespace Go.Eng
theorem rs_wb {q : BytL} {e : Int} {l : UInt64} : (rsQ q e l).wb = q.wb := by unfold rsQ; split <;> rfl
end Go.Eng
end
section
namespace Go.Proofs.Ytelpmalmknpogaa
open Go Go.Eng
set_option linter.unusedVariables false
set_option linter.unusedSimpArgs false
set_option maxRecDepth 100000
set_option maxHeartbeats 1000000
theorem wsmall_own (w b n r : Nat) (f : Nat → UInt8) (x : UInt64) (hn : n ≤ 100000) : Runs Try.prog 19 [(ptr w 0), (u64 x)] [⟨w, true, 0, (.lit [(Value.slice (some ⟨b, 0, none⟩) n (n + r))])⟩, ⟨b, true, 0, (spr (n + r) n (fun k => u8 (f k)) (u8 0))⟩] 2 (fun (ns : List Nat) => (Value.tuple #[])) (fun (ns : List Nat) => [some ⟨w, true, 0, (.lit [(Value.slice (some ⟨(ns.getD 0 0), 0, none⟩) (n + smN x) (n + smN x + (ns.getD 1 0)))])⟩, some ⟨(ns.getD 0 0), true, 0, (spr (n + smN x + (ns.getD 1 0)) (n + smN x) (fun k => u8 (catU f n (smB x) k)) (u8 0))⟩]) :=
  runs_of_ev mix Try.func19 rfl rfl 400 (.regn [(0, .g), (1, (.call [] 0 0 (fun _ => (Value.agg #[(u64 x), (u64 0), (u64 0), (u64 0)])) (fun _ => []))), (2, .new), (3, (.st 2 (.lit 0)))] (more (fun n1 => fun _ => (.reg [(0, (.ld 2 (.lit 0))), (1, (.call [] 0 0 (fun _ => (nat (len4 (N4.mk x 0 0 0)))) (fun _ => []))), (2, (.as (nat ((len4 (N4.mk x 0 0 0)) + 7)))), (3, (.as (nat (((len4 (N4.mk x 0 0 0)) + 7) / 8)))), (4, .g)] (.regn [(0, .g), (1, .g), (2, .g), (3, .g), (4, (.ld 0 (.lit 0))), (5, .g), (6, (.as (u8 (UInt8.ofNat (((len4 (N4.mk x 0 0 0)) + 7) / 8))))), (7, (.oth [] 1 1 (fun ns => Value.slice (some ⟨ns.getD 0 0, 0, none⟩) 1 1) (fun ns => [some ⟨ns.getD 0 0, true, 0, .lit [(u8 (UInt8.ofNat (((len4 (N4.mk x 0 0 0)) + 7) / 8)))]⟩]))), (8, (.oth [(1, false), (3, true)] 2 0 (fun ns => Value.slice (some ⟨(ns.getD 0 0), 0, none⟩) (n + 1) (n + 1 + (ns.getD 1 0))) (fun ns => [some ⟨(ns.getD 0 0), true, 0, (spr (n + 1 + (ns.getD 1 0)) (n + 1) (fun k => u8 (catU f n (fun _ => (UInt8.ofNat (((len4 (N4.mk x 0 0 0)) + 7) / 8))) k)) (u8 0))⟩, none]))), (9, .g), (10, .g), (11, (.st 0 (.lit 0)))] (more (fun n2 => more (fun n3 => more (fun n4 => fun _ => (.both (decide (0 < 32 - (32 - (((len4 (N4.mk x 0 0 0)) + 7) / 8)))) (.regn [(0, .g), (1, .g), (2, .g), (3, .g), (4, (.ld 0 (.lit 0))), (5, (.ld 2 (.lit 0))), (6, (.call [] 1 1 (fun ns => Value.slice (some ⟨ns.getD 0 0, 0, none⟩) 32 32) (fun ns => [some ⟨ns.getD 0 0, true, 0, tabF 32 (fun k => u8 (bytesF (N4.mk x 0 0 0) k))⟩]))), (7, .g), (8, (.as (nat (32 - (((len4 (N4.mk x 0 0 0)) + 7) / 8))))), (9, (.asf (slF 1))), (10, (.oth [(1, false), (4, true)] 2 0 (fun ns => Value.slice (some ⟨(ns.getD 0 0), 0, none⟩) (n + 1 + (32 - (32 - (((len4 (N4.mk x 0 0 0)) + 7) / 8)))) (n + 1 + (32 - (32 - (((len4 (N4.mk x 0 0 0)) + 7) / 8))) + (ns.getD 1 0))) (fun ns => [some ⟨(ns.getD 0 0), true, 0, (spr (n + 1 + (32 - (32 - (((len4 (N4.mk x 0 0 0)) + 7) / 8))) + (ns.getD 1 0)) (n + 1 + (32 - (32 - (((len4 (N4.mk x 0 0 0)) + 7) / 8)))) (fun k => u8 (catU (catU f n (fun _ => (UInt8.ofNat (((len4 (N4.mk x 0 0 0)) + 7) / 8)))) (n + 1) (fun j => bytesF (N4.mk x 0 0 0) ((32 - (((len4 (N4.mk x 0 0 0)) + 7) / 8)) + j)) k)) (u8 0))⟩, none]))), (11, .g), (12, .g), (13, (.st 0 (.lit 0)))] (more (fun n5 => more (fun n6 => more (fun n7 => fun _ => .done))))) (.regn [(0, .g), (1, .g), (2, .g), (3, .g), (4, (.ld 0 (.lit 0))), (5, (.ld 2 (.lit 0))), (6, (.call [] 1 1 (fun ns => Value.slice (some ⟨ns.getD 0 0, 0, none⟩) 32 32) (fun ns => [some ⟨ns.getD 0 0, true, 0, tabF 32 (fun k => u8 (bytesF (N4.mk x 0 0 0) k))⟩]))), (7, .g), (8, (.as (nat (32 - (((len4 (N4.mk x 0 0 0)) + 7) / 8))))), (9, (.asf (slF 1))), (10, (.oth [] 0 0 (fun _ => (Value.slice (some ⟨n3, 0, none⟩) (n + 1) (n + 1 + n4))) (fun _ => []))), (11, .g), (12, .g), (13, (.st 0 (.lit 0)))] (more (fun n8 => fun _ => .done))))))))))))) [] [] rfl
    (have f0 : (len4 (N4.mk x 0 0 0) + 7) / 8 ≤ 8 := (szU_le x); have f1 : n ≤ 100000 := hn; Eq.mp (by kernel_rfl) (fun (n1 : Nat) => And.intro (sk (And.intro (And.intro trivial (small_pure x)) (sk (And.intro (And.intro trivial (ad n1 0)) trivial)))) (And.intro (And.intro (And.intro trivial (ad n1 0)) (And.intro (And.intro trivial (len_pure (N4.mk x 0 0 0))) (And.intro (And.intro trivial (@is_addn Try.prog 3 3 (.tmp 9) (.const (.int .i64 7))  (len4 (N4.mk x 0 0 0)) 7 (show (len4 (N4.mk x 0 0 0)) + 7 ≤ 9223372036854775807 from by have := len4_le (N4.mk x 0 0 0); omega))) (And.intro (And.intro trivial (@is_quon Try.prog 3 3 (.tmp 10) (.const (.int .i64 8))  ((len4 (N4.mk x 0 0 0)) + 7) 8 (show 0 < 8 ∧ ((len4 (N4.mk x 0 0 0)) + 7) ≤ 9223372036854775807 from by have := len4_le (N4.mk x 0 0 0); omega))) (sk trivial))))) (fun (n2 n3 n4 : Nat) => And.intro (sk (sk (sk (sk (And.intro (And.intro trivial (ad w 0)) (sk (And.intro (And.intro trivial (@conv_int_u8 Try.prog 3 5 (.tmp 17) (by kernel_rfl) (by kernel_rfl) (((len4 (N4.mk x 0 0 0)) + 7) / 8))) (And.intro (And.intro trivial (mk_build (P := Try.prog) (t := 25) (e := 5) one5 1 #[(0, (u8 (UInt8.ofNat (((len4 (N4.mk x 0 0 0)) + 7) / 8))))] #[(u8 (UInt8.ofNat (((len4 (N4.mk x 0 0 0)) + 7) / 8)))] (by kernel_rfl) (by decide) (by kernel_rfl))) (And.intro (And.intro trivial (SRuns.dark [false, true] (mk_append (P := Try.prog) (t := 25) (ty := 25) (e := 5) (by kernel_rfl) one5 b n r n2 0 0 1 1 u8 f (fun _ => (UInt8.ofNat (((len4 (N4.mk x 0 0 0)) + 7) / 8))) (.lit [(u8 (UInt8.ofNat (((len4 (N4.mk x 0 0 0)) + 7) / 8)))]) (lit1_get (u8 (UInt8.ofNat (((len4 (N4.mk x 0 0 0)) + 7) / 8)))) (fun _ => rfl) (show (n + 1) * 1 ≤ 140737488355328 ∧ n + 1 ≤ 9223372036854775807 from by omega)))) (sk (sk (And.intro (And.intro trivial (ad w 0)) trivial)))))))))))) (And.intro (fun (h1 : (decide (0 < 32 - (32 - (((len4 (N4.mk x 0 0 0)) + 7) / 8)))) = true) => have f2 : (0 < 32 - (32 - (((len4 (N4.mk x 0 0 0)) + 7) / 8))) := (of_decide_eq_true h1); fun (n5 n6 n7 : Nat) => And.intro (sk (sk (sk (sk (And.intro (And.intro trivial (ad w 0)) (And.intro (And.intro trivial (ad n1 0)) (And.intro (And.intro trivial (bytes_runs (N4.mk x 0 0 0))) (sk (And.intro (And.intro trivial (@is_subn Try.prog 3 3 (.const (.int .i64 32)) (.tmp 30)  32 (((len4 (N4.mk x 0 0 0)) + 7) / 8) (show (((len4 (N4.mk x 0 0 0)) + 7) / 8) ≤ 32 ∧ 32 - (((len4 (N4.mk x 0 0 0)) + 7) / 8) ≤ 9223372036854775807 from by have := len4_le (N4.mk x 0 0 0); omega))) (And.intro (And.intro trivial (@is_slqFrom Try.prog 25 5 (.tmp 29) (.tmp 31) (by kernel_rfl) 1 (by kernel_rfl) (some ⟨n5, 0, none⟩) 32 32 (32 - (((len4 (N4.mk x 0 0 0)) + 7) / 8)) (show 32 - (((len4 (N4.mk x 0 0 0)) + 7) / 8) ≤ 32 ∧ 32 ≤ 32 from by have := len4_le (N4.mk x 0 0 0); omega))) (And.intro (And.intro trivial (SRuns.dark [false, true] (mk_appendA (P := Try.prog) (t := 25) (ty := 25) (e := 5) (by kernel_rfl) one5 n3 (n + 1) n4 n5 0 (32 - (((len4 (N4.mk x 0 0 0)) + 7) / 8)) (32 - (32 - (((len4 (N4.mk x 0 0 0)) + 7) / 8))) (32 - (32 - (((len4 (N4.mk x 0 0 0)) + 7) / 8))) u8 (catU f n (fun _ => (UInt8.ofNat (((len4 (N4.mk x 0 0 0)) + 7) / 8)))) (fun j => bytesF (N4.mk x 0 0 0) ((32 - (((len4 (N4.mk x 0 0 0)) + 7) / 8)) + j)) (tabF 32 (fun k => u8 (bytesF (N4.mk x 0 0 0) k))) (fun j hj => tabF_in (show (32 - (((len4 (N4.mk x 0 0 0)) + 7) / 8)) + j < 32 from by omega)) (fun _ => rfl) (show (n + 1 + (32 - (32 - (((len4 (N4.mk x 0 0 0)) + 7) / 8)))) * 1 ≤ 140737488355328 ∧ n + 1 + (32 - (32 - (((len4 (N4.mk x 0 0 0)) + 7) / 8))) ≤ 9223372036854775807 from by have := len4_le (N4.mk x 0 0 0); omega) (fromA_own (show 32 - (((len4 (N4.mk x 0 0 0)) + 7) / 8) < 32 from by have := len4_le (N4.mk x 0 0 0); omega))))) (sk (sk (And.intro (And.intro trivial (ad w 0)) trivial)))))))))))))) (And.intro trivial (@Exists.intro (List Nat) (fun (ns : List Nat) => ns.length = 2 ∧ ((Value.tuple #[]) : Value) = (fun (ns : List Nat) => (Value.tuple #[])) ns ∧ ([some ⟨w, true, 0, (.lit [(Value.slice (some ⟨n6, 0, none⟩) (n + 1 + (32 - (32 - (((len4 (N4.mk x 0 0 0)) + 7) / 8)))) (n + 1 + (32 - (32 - (((len4 (N4.mk x 0 0 0)) + 7) / 8))) + n7))])⟩, some ⟨n6, true, 0, (spr (n + 1 + (32 - (32 - (((len4 (N4.mk x 0 0 0)) + 7) / 8))) + n7) (n + 1 + (32 - (32 - (((len4 (N4.mk x 0 0 0)) + 7) / 8)))) (fun k => u8 (catU (catU f n (fun _ => (UInt8.ofNat (((len4 (N4.mk x 0 0 0)) + 7) / 8)))) (n + 1) (fun j => bytesF (N4.mk x 0 0 0) ((32 - (((len4 (N4.mk x 0 0 0)) + 7) / 8)) + j)) k)) (u8 0))⟩] : List (Option Blk)) = (fun (ns : List Nat) => [some ⟨w, true, 0, (.lit [(Value.slice (some ⟨(ns.getD 0 0), 0, none⟩) (n + smN x) (n + smN x + (ns.getD 1 0)))])⟩, some ⟨(ns.getD 0 0), true, 0, (spr (n + smN x + (ns.getD 1 0)) (n + smN x) (fun k => u8 (catU f n (smB x) k)) (u8 0))⟩]) ns) [n6, n7] (And.intro (@rfl Nat 2) (And.intro (@rfl Value (Value.tuple #[])) ((show ([some ⟨w, true, 0, (.lit [(Value.slice (some ⟨n6, 0, none⟩) (n + 1 + (32 - (32 - (((len4 (N4.mk x 0 0 0)) + 7) / 8)))) (n + 1 + (32 - (32 - (((len4 (N4.mk x 0 0 0)) + 7) / 8))) + n7))])⟩, some ⟨n6, true, 0, (spr (n + 1 + (32 - (32 - (((len4 (N4.mk x 0 0 0)) + 7) / 8))) + n7) (n + 1 + (32 - (32 - (((len4 (N4.mk x 0 0 0)) + 7) / 8)))) (fun k => u8 (catU (catU f n (fun _ => (UInt8.ofNat (((len4 (N4.mk x 0 0 0)) + 7) / 8)))) (n + 1) (fun j => bytesF (N4.mk x 0 0 0) ((32 - (((len4 (N4.mk x 0 0 0)) + 7) / 8)) + j)) k)) (u8 0))⟩] : List (Option Blk)) = [some ⟨w, true, 0, (.lit [(Value.slice (some ⟨n6, 0, none⟩) (n + smN x) (n + smN x + n7))])⟩, some ⟨n6, true, 0, (spr (n + smN x + n7) (n + smN x) (fun k => u8 (catU f n (smB x) k)) (u8 0))⟩] from by first | (rw [show n + 1 + (32 - (32 - (len4 (N4.mk x 0 0 0) + 7) / 8)) = n + smN x from by unfold smN szU smA; omega]; rw [spr_as (fun k hk => congrArg u8 (small_end k hk))] <;> rfl) | (rw [show n + 1 = n + smN x from by unfold smN szU smA; omega]; rw [spr_as (fun k hk => congrArg u8 (small_end0 (by assumption) k hk))] <;> rfl)))))))) (fun (h1 : (decide (0 < 32 - (32 - (((len4 (N4.mk x 0 0 0)) + 7) / 8)))) = false) => have f2 : ¬ (0 < 32 - (32 - (((len4 (N4.mk x 0 0 0)) + 7) / 8))) := (of_decide_eq_false h1); fun (n8 : Nat) => And.intro (sk (sk (sk (sk (And.intro (And.intro trivial (ad w 0)) (And.intro (And.intro trivial (ad n1 0)) (And.intro (And.intro trivial (bytes_runs (N4.mk x 0 0 0))) (sk (And.intro (And.intro trivial (@is_subn Try.prog 3 3 (.const (.int .i64 32)) (.tmp 30)  32 (((len4 (N4.mk x 0 0 0)) + 7) / 8) (show (((len4 (N4.mk x 0 0 0)) + 7) / 8) ≤ 32 ∧ 32 - (((len4 (N4.mk x 0 0 0)) + 7) / 8) ≤ 9223372036854775807 from by have := len4_le (N4.mk x 0 0 0); omega))) (And.intro (And.intro trivial (@is_slqFrom Try.prog 25 5 (.tmp 29) (.tmp 31) (by kernel_rfl) 1 (by kernel_rfl) (some ⟨n8, 0, none⟩) 32 32 (32 - (((len4 (N4.mk x 0 0 0)) + 7) / 8)) (show 32 - (((len4 (N4.mk x 0 0 0)) + 7) / 8) ≤ 32 ∧ 32 ≤ 32 from by have := len4_le (N4.mk x 0 0 0); omega))) (And.intro (And.intro trivial (srun_append_noneM (P := Try.prog) (t := 25) (ty := 25) (e := 5) (sz := 1) (by kernel_rfl) (by kernel_rfl) (some ⟨n3, 0, none⟩) (n + 1) (n + 1 + n4) (show (n + 1) ≤ (n + 1 + n4) from by omega) (fromA (some ⟨n8, 0, none⟩) 32 (32 - (((len4 (N4.mk x 0 0 0)) + 7) / 8)) 1) (32 - (32 - (((len4 (N4.mk x 0 0 0)) + 7) / 8))) (32 - (32 - (((len4 (N4.mk x 0 0 0)) + 7) / 8))) (show 32 - (32 - (((len4 (N4.mk x 0 0 0)) + 7) / 8)) = 0 from by have := len4_le (N4.mk x 0 0 0); omega))) (sk (sk (And.intro (And.intro trivial (ad w 0)) trivial)))))))))))))) (And.intro trivial (@Exists.intro (List Nat) (fun (ns : List Nat) => ns.length = 2 ∧ ((Value.tuple #[]) : Value) = (fun (ns : List Nat) => (Value.tuple #[])) ns ∧ ([some ⟨w, true, 0, (.lit [(Value.slice (some ⟨n3, 0, none⟩) (n + 1) (n + 1 + n4))])⟩, some ⟨n3, true, 0, (spr (n + 1 + n4) (n + 1) (fun k => u8 (catU f n (fun _ => (UInt8.ofNat (((len4 (N4.mk x 0 0 0)) + 7) / 8))) k)) (u8 0))⟩] : List (Option Blk)) = (fun (ns : List Nat) => [some ⟨w, true, 0, (.lit [(Value.slice (some ⟨(ns.getD 0 0), 0, none⟩) (n + smN x) (n + smN x + (ns.getD 1 0)))])⟩, some ⟨(ns.getD 0 0), true, 0, (spr (n + smN x + (ns.getD 1 0)) (n + smN x) (fun k => u8 (catU f n (smB x) k)) (u8 0))⟩]) ns) [n3, n4] (And.intro (@rfl Nat 2) (And.intro (@rfl Value (Value.tuple #[])) ((show ([some ⟨w, true, 0, (.lit [(Value.slice (some ⟨n3, 0, none⟩) (n + 1) (n + 1 + n4))])⟩, some ⟨n3, true, 0, (spr (n + 1 + n4) (n + 1) (fun k => u8 (catU f n (fun _ => (UInt8.ofNat (((len4 (N4.mk x 0 0 0)) + 7) / 8))) k)) (u8 0))⟩] : List (Option Blk)) = [some ⟨w, true, 0, (.lit [(Value.slice (some ⟨n3, 0, none⟩) (n + smN x) (n + smN x + n4))])⟩, some ⟨n3, true, 0, (spr (n + smN x + n4) (n + smN x) (fun k => u8 (catU f n (smB x) k)) (u8 0))⟩] from by first | (rw [show n + 1 + (32 - (32 - (len4 (N4.mk x 0 0 0) + 7) / 8)) = n + smN x from by unfold smN szU smA; omega]; rw [spr_as (fun k hk => congrArg u8 (small_end k hk))] <;> rfl) | (rw [show n + 1 = n + smN x from by unfold smN szU smA; omega]; rw [spr_as (fun k hk => congrArg u8 (small_end0 (by assumption) k hk))] <;> rfl)))))))))))))
theorem wsmall_nil (w : Nat) (x : UInt64) : Runs Try.prog 19 [(ptr w 0), (u64 x)] [⟨w, true, 0, (.lit [(Value.slice none 0 0)])⟩] 2 (fun (ns : List Nat) => (Value.tuple #[])) (fun (ns : List Nat) => [some ⟨w, true, 0, (.lit [(Value.slice (some ⟨(ns.getD 0 0), 0, none⟩) (smN x) (smN x + (ns.getD 1 0)))])⟩, some ⟨(ns.getD 0 0), true, 0, (spr (smN x + (ns.getD 1 0)) (smN x) (fun k => u8 (smB x k)) (u8 0))⟩]) :=
  runs_of_ev mix Try.func19 rfl rfl 400 (.regn [(0, .g), (1, (.call [] 0 0 (fun _ => (Value.agg #[(u64 x), (u64 0), (u64 0), (u64 0)])) (fun _ => []))), (2, .new), (3, (.st 1 (.lit 0)))] (more (fun n1 => fun _ => (.reg [(0, (.ld 1 (.lit 0))), (1, (.call [] 0 0 (fun _ => (nat (len4 (N4.mk x 0 0 0)))) (fun _ => []))), (2, (.as (nat ((len4 (N4.mk x 0 0 0)) + 7)))), (3, (.as (nat (((len4 (N4.mk x 0 0 0)) + 7) / 8)))), (4, .g)] (.regn [(0, .g), (1, .g), (2, .g), (3, .g), (4, (.ld 0 (.lit 0))), (5, .g), (6, (.as (u8 (UInt8.ofNat (((len4 (N4.mk x 0 0 0)) + 7) / 8))))), (7, (.oth [] 1 1 (fun ns => Value.slice (some ⟨ns.getD 0 0, 0, none⟩) 1 1) (fun ns => [some ⟨ns.getD 0 0, true, 0, .lit [(u8 (UInt8.ofNat (((len4 (N4.mk x 0 0 0)) + 7) / 8)))]⟩]))), (8, (.oth [(2, true)] 2 1 (fun ns => Value.slice (some ⟨(ns.getD 0 0), 0, none⟩) 1 (1 + (ns.getD 1 0))) (fun ns => [none, some ⟨(ns.getD 0 0), true, 0, (spr (1 + (ns.getD 1 0)) 1 (fun k => u8 ((fun _ => (UInt8.ofNat (((len4 (N4.mk x 0 0 0)) + 7) / 8))) k)) (u8 0))⟩]))), (9, .g), (10, .g), (11, (.st 0 (.lit 0)))] (more (fun n2 => more (fun n3 => more (fun n4 => fun _ => (.both (decide (0 < 32 - (32 - (((len4 (N4.mk x 0 0 0)) + 7) / 8)))) (.regn [(0, .g), (1, .g), (2, .g), (3, .g), (4, (.ld 0 (.lit 0))), (5, (.ld 1 (.lit 0))), (6, (.call [] 1 1 (fun ns => Value.slice (some ⟨ns.getD 0 0, 0, none⟩) 32 32) (fun ns => [some ⟨ns.getD 0 0, true, 0, tabF 32 (fun k => u8 (bytesF (N4.mk x 0 0 0) k))⟩]))), (7, .g), (8, (.as (nat (32 - (((len4 (N4.mk x 0 0 0)) + 7) / 8))))), (9, (.asf (slF 1))), (10, (.oth [(3, false), (4, true)] 2 0 (fun ns => Value.slice (some ⟨(ns.getD 0 0), 0, none⟩) (1 + (32 - (32 - (((len4 (N4.mk x 0 0 0)) + 7) / 8)))) (1 + (32 - (32 - (((len4 (N4.mk x 0 0 0)) + 7) / 8))) + (ns.getD 1 0))) (fun ns => [some ⟨(ns.getD 0 0), true, 0, (spr (1 + (32 - (32 - (((len4 (N4.mk x 0 0 0)) + 7) / 8))) + (ns.getD 1 0)) (1 + (32 - (32 - (((len4 (N4.mk x 0 0 0)) + 7) / 8)))) (fun k => u8 (catU (fun _ => (UInt8.ofNat (((len4 (N4.mk x 0 0 0)) + 7) / 8))) 1 (fun j => bytesF (N4.mk x 0 0 0) ((32 - (((len4 (N4.mk x 0 0 0)) + 7) / 8)) + j)) k)) (u8 0))⟩, none]))), (11, .g), (12, .g), (13, (.st 0 (.lit 0)))] (more (fun n5 => more (fun n6 => more (fun n7 => fun _ => .done))))) (.regn [(0, .g), (1, .g), (2, .g), (3, .g), (4, (.ld 0 (.lit 0))), (5, (.ld 1 (.lit 0))), (6, (.call [] 1 1 (fun ns => Value.slice (some ⟨ns.getD 0 0, 0, none⟩) 32 32) (fun ns => [some ⟨ns.getD 0 0, true, 0, tabF 32 (fun k => u8 (bytesF (N4.mk x 0 0 0) k))⟩]))), (7, .g), (8, (.as (nat (32 - (((len4 (N4.mk x 0 0 0)) + 7) / 8))))), (9, (.asf (slF 1))), (10, (.oth [] 0 0 (fun _ => (Value.slice (some ⟨n3, 0, none⟩) 1 (1 + n4))) (fun _ => []))), (11, .g), (12, .g), (13, (.st 0 (.lit 0)))] (more (fun n8 => fun _ => .done))))))))))))) [] [3] rfl
    (have f0 : (len4 (N4.mk x 0 0 0) + 7) / 8 ≤ 8 := (szU_le x); Eq.mp (by kernel_rfl) (fun (n1 : Nat) => And.intro (sk (And.intro (And.intro trivial (small_pure x)) (sk (And.intro (And.intro trivial (ad n1 0)) trivial)))) (And.intro (And.intro (And.intro trivial (ad n1 0)) (And.intro (And.intro trivial (len_pure (N4.mk x 0 0 0))) (And.intro (And.intro trivial (@is_addn Try.prog 3 3 (.tmp 9) (.const (.int .i64 7))  (len4 (N4.mk x 0 0 0)) 7 (show (len4 (N4.mk x 0 0 0)) + 7 ≤ 9223372036854775807 from by have := len4_le (N4.mk x 0 0 0); omega))) (And.intro (And.intro trivial (@is_quon Try.prog 3 3 (.tmp 10) (.const (.int .i64 8))  ((len4 (N4.mk x 0 0 0)) + 7) 8 (show 0 < 8 ∧ ((len4 (N4.mk x 0 0 0)) + 7) ≤ 9223372036854775807 from by have := len4_le (N4.mk x 0 0 0); omega))) (sk trivial))))) (fun (n2 n3 n4 : Nat) => And.intro (sk (sk (sk (sk (And.intro (And.intro trivial (ad w 0)) (sk (And.intro (And.intro trivial (@conv_int_u8 Try.prog 3 5 (.tmp 17) (by kernel_rfl) (by kernel_rfl) (((len4 (N4.mk x 0 0 0)) + 7) / 8))) (And.intro (And.intro trivial (mk_build (P := Try.prog) (t := 25) (e := 5) one5 1 #[(0, (u8 (UInt8.ofNat (((len4 (N4.mk x 0 0 0)) + 7) / 8))))] #[(u8 (UInt8.ofNat (((len4 (N4.mk x 0 0 0)) + 7) / 8)))] (by kernel_rfl) (by decide) (by kernel_rfl))) (And.intro (And.intro trivial (SRuns.dark [true] (mk_append_nil (P := Try.prog) (t := 25) (ty := 25) (e := 5) (by kernel_rfl) one5 n2 0 0 1 1 u8 (fun _ => (UInt8.ofNat (((len4 (N4.mk x 0 0 0)) + 7) / 8))) (.lit [(u8 (UInt8.ofNat (((len4 (N4.mk x 0 0 0)) + 7) / 8)))]) (lit1_get (u8 (UInt8.ofNat (((len4 (N4.mk x 0 0 0)) + 7) / 8)))) (show 0 < 1 ∧ 1 * 1 ≤ 140737488355328 ∧ 1 ≤ 9223372036854775807 from by omega)))) (sk (sk (And.intro (And.intro trivial (ad w 0)) trivial)))))))))))) (And.intro (fun (h1 : (decide (0 < 32 - (32 - (((len4 (N4.mk x 0 0 0)) + 7) / 8)))) = true) => have f1 : (0 < 32 - (32 - (((len4 (N4.mk x 0 0 0)) + 7) / 8))) := (of_decide_eq_true h1); fun (n5 n6 n7 : Nat) => And.intro (sk (sk (sk (sk (And.intro (And.intro trivial (ad w 0)) (And.intro (And.intro trivial (ad n1 0)) (And.intro (And.intro trivial (bytes_runs (N4.mk x 0 0 0))) (sk (And.intro (And.intro trivial (@is_subn Try.prog 3 3 (.const (.int .i64 32)) (.tmp 30)  32 (((len4 (N4.mk x 0 0 0)) + 7) / 8) (show (((len4 (N4.mk x 0 0 0)) + 7) / 8) ≤ 32 ∧ 32 - (((len4 (N4.mk x 0 0 0)) + 7) / 8) ≤ 9223372036854775807 from by have := len4_le (N4.mk x 0 0 0); omega))) (And.intro (And.intro trivial (@is_slqFrom Try.prog 25 5 (.tmp 29) (.tmp 31) (by kernel_rfl) 1 (by kernel_rfl) (some ⟨n5, 0, none⟩) 32 32 (32 - (((len4 (N4.mk x 0 0 0)) + 7) / 8)) (show 32 - (((len4 (N4.mk x 0 0 0)) + 7) / 8) ≤ 32 ∧ 32 ≤ 32 from by have := len4_le (N4.mk x 0 0 0); omega))) (And.intro (And.intro trivial (SRuns.dark [false, true] (mk_appendA (P := Try.prog) (t := 25) (ty := 25) (e := 5) (by kernel_rfl) one5 n3 1 n4 n5 0 (32 - (((len4 (N4.mk x 0 0 0)) + 7) / 8)) (32 - (32 - (((len4 (N4.mk x 0 0 0)) + 7) / 8))) (32 - (32 - (((len4 (N4.mk x 0 0 0)) + 7) / 8))) u8 (fun _ => (UInt8.ofNat (((len4 (N4.mk x 0 0 0)) + 7) / 8))) (fun j => bytesF (N4.mk x 0 0 0) ((32 - (((len4 (N4.mk x 0 0 0)) + 7) / 8)) + j)) (tabF 32 (fun k => u8 (bytesF (N4.mk x 0 0 0) k))) (fun j hj => tabF_in (show (32 - (((len4 (N4.mk x 0 0 0)) + 7) / 8)) + j < 32 from by omega)) (fun _ => rfl) (show (1 + (32 - (32 - (((len4 (N4.mk x 0 0 0)) + 7) / 8)))) * 1 ≤ 140737488355328 ∧ 1 + (32 - (32 - (((len4 (N4.mk x 0 0 0)) + 7) / 8))) ≤ 9223372036854775807 from by have := len4_le (N4.mk x 0 0 0); omega) (fromA_own (show 32 - (((len4 (N4.mk x 0 0 0)) + 7) / 8) < 32 from by have := len4_le (N4.mk x 0 0 0); omega))))) (sk (sk (And.intro (And.intro trivial (ad w 0)) trivial)))))))))))))) (And.intro trivial (@Exists.intro (List Nat) (fun (ns : List Nat) => ns.length = 2 ∧ ((Value.tuple #[]) : Value) = (fun (ns : List Nat) => (Value.tuple #[])) ns ∧ ([some ⟨w, true, 0, (.lit [(Value.slice (some ⟨n6, 0, none⟩) (1 + (32 - (32 - (((len4 (N4.mk x 0 0 0)) + 7) / 8)))) (1 + (32 - (32 - (((len4 (N4.mk x 0 0 0)) + 7) / 8))) + n7))])⟩, some ⟨n6, true, 0, (spr (1 + (32 - (32 - (((len4 (N4.mk x 0 0 0)) + 7) / 8))) + n7) (1 + (32 - (32 - (((len4 (N4.mk x 0 0 0)) + 7) / 8)))) (fun k => u8 (catU (fun _ => (UInt8.ofNat (((len4 (N4.mk x 0 0 0)) + 7) / 8))) 1 (fun j => bytesF (N4.mk x 0 0 0) ((32 - (((len4 (N4.mk x 0 0 0)) + 7) / 8)) + j)) k)) (u8 0))⟩] : List (Option Blk)) = (fun (ns : List Nat) => [some ⟨w, true, 0, (.lit [(Value.slice (some ⟨(ns.getD 0 0), 0, none⟩) (smN x) (smN x + (ns.getD 1 0)))])⟩, some ⟨(ns.getD 0 0), true, 0, (spr (smN x + (ns.getD 1 0)) (smN x) (fun k => u8 (smB x k)) (u8 0))⟩]) ns) [n6, n7] (And.intro (@rfl Nat 2) (And.intro (@rfl Value (Value.tuple #[])) ((show ([some ⟨w, true, 0, (.lit [(Value.slice (some ⟨n6, 0, none⟩) (1 + (32 - (32 - (((len4 (N4.mk x 0 0 0)) + 7) / 8)))) (1 + (32 - (32 - (((len4 (N4.mk x 0 0 0)) + 7) / 8))) + n7))])⟩, some ⟨n6, true, 0, (spr (1 + (32 - (32 - (((len4 (N4.mk x 0 0 0)) + 7) / 8))) + n7) (1 + (32 - (32 - (((len4 (N4.mk x 0 0 0)) + 7) / 8)))) (fun k => u8 (catU (fun _ => (UInt8.ofNat (((len4 (N4.mk x 0 0 0)) + 7) / 8))) 1 (fun j => bytesF (N4.mk x 0 0 0) ((32 - (((len4 (N4.mk x 0 0 0)) + 7) / 8)) + j)) k)) (u8 0))⟩] : List (Option Blk)) = [some ⟨w, true, 0, (.lit [(Value.slice (some ⟨n6, 0, none⟩) (smN x) (smN x + n7))])⟩, some ⟨n6, true, 0, (spr (smN x + n7) (smN x) (fun k => u8 (smB x k)) (u8 0))⟩] from by first | (rw [show 1 + (32 - (32 - (len4 (N4.mk x 0 0 0) + 7) / 8)) = smN x from by unfold smN szU smA; omega]; rw [spr_as (fun k hk => congrArg u8 (small_endN k hk))] <;> rfl) | (rw [show 1 = smN x from by unfold smN szU smA; omega]; rw [spr_as (fun k hk => congrArg u8 (small_endN0 (by assumption) k hk))] <;> rfl)))))))) (fun (h1 : (decide (0 < 32 - (32 - (((len4 (N4.mk x 0 0 0)) + 7) / 8)))) = false) => have f1 : ¬ (0 < 32 - (32 - (((len4 (N4.mk x 0 0 0)) + 7) / 8))) := (of_decide_eq_false h1); fun (n8 : Nat) => And.intro (sk (sk (sk (sk (And.intro (And.intro trivial (ad w 0)) (And.intro (And.intro trivial (ad n1 0)) (And.intro (And.intro trivial (bytes_runs (N4.mk x 0 0 0))) (sk (And.intro (And.intro trivial (@is_subn Try.prog 3 3 (.const (.int .i64 32)) (.tmp 30)  32 (((len4 (N4.mk x 0 0 0)) + 7) / 8) (show (((len4 (N4.mk x 0 0 0)) + 7) / 8) ≤ 32 ∧ 32 - (((len4 (N4.mk x 0 0 0)) + 7) / 8) ≤ 9223372036854775807 from by have := len4_le (N4.mk x 0 0 0); omega))) (And.intro (And.intro trivial (@is_slqFrom Try.prog 25 5 (.tmp 29) (.tmp 31) (by kernel_rfl) 1 (by kernel_rfl) (some ⟨n8, 0, none⟩) 32 32 (32 - (((len4 (N4.mk x 0 0 0)) + 7) / 8)) (show 32 - (((len4 (N4.mk x 0 0 0)) + 7) / 8) ≤ 32 ∧ 32 ≤ 32 from by have := len4_le (N4.mk x 0 0 0); omega))) (And.intro (And.intro trivial (srun_append_noneM (P := Try.prog) (t := 25) (ty := 25) (e := 5) (sz := 1) (by kernel_rfl) (by kernel_rfl) (some ⟨n3, 0, none⟩) 1 (1 + n4) (show 1 ≤ (1 + n4) from by omega) (fromA (some ⟨n8, 0, none⟩) 32 (32 - (((len4 (N4.mk x 0 0 0)) + 7) / 8)) 1) (32 - (32 - (((len4 (N4.mk x 0 0 0)) + 7) / 8))) (32 - (32 - (((len4 (N4.mk x 0 0 0)) + 7) / 8))) (show 32 - (32 - (((len4 (N4.mk x 0 0 0)) + 7) / 8)) = 0 from by have := len4_le (N4.mk x 0 0 0); omega))) (sk (sk (And.intro (And.intro trivial (ad w 0)) trivial)))))))))))))) (And.intro trivial (@Exists.intro (List Nat) (fun (ns : List Nat) => ns.length = 2 ∧ ((Value.tuple #[]) : Value) = (fun (ns : List Nat) => (Value.tuple #[])) ns ∧ ([some ⟨w, true, 0, (.lit [(Value.slice (some ⟨n3, 0, none⟩) 1 (1 + n4))])⟩, some ⟨n3, true, 0, (spr (1 + n4) 1 (fun k => u8 ((fun _ => (UInt8.ofNat (((len4 (N4.mk x 0 0 0)) + 7) / 8))) k)) (u8 0))⟩] : List (Option Blk)) = (fun (ns : List Nat) => [some ⟨w, true, 0, (.lit [(Value.slice (some ⟨(ns.getD 0 0), 0, none⟩) (smN x) (smN x + (ns.getD 1 0)))])⟩, some ⟨(ns.getD 0 0), true, 0, (spr (smN x + (ns.getD 1 0)) (smN x) (fun k => u8 (smB x k)) (u8 0))⟩]) ns) [n3, n4] (And.intro (@rfl Nat 2) (And.intro (@rfl Value (Value.tuple #[])) ((show ([some ⟨w, true, 0, (.lit [(Value.slice (some ⟨n3, 0, none⟩) 1 (1 + n4))])⟩, some ⟨n3, true, 0, (spr (1 + n4) 1 (fun k => u8 ((fun _ => (UInt8.ofNat (((len4 (N4.mk x 0 0 0)) + 7) / 8))) k)) (u8 0))⟩] : List (Option Blk)) = [some ⟨w, true, 0, (.lit [(Value.slice (some ⟨n3, 0, none⟩) (smN x) (smN x + n4))])⟩, some ⟨n3, true, 0, (spr (smN x + n4) (smN x) (fun k => u8 (smB x k)) (u8 0))⟩] from by first | (rw [show 1 + (32 - (32 - (len4 (N4.mk x 0 0 0) + 7) / 8)) = smN x from by unfold smN szU smA; omega]; rw [spr_as (fun k hk => congrArg u8 (small_endN k hk))] <;> rfl) | (rw [show 1 = smN x from by unfold smN szU smA; omega]; rw [spr_as (fun k hk => congrArg u8 (small_endN0 (by assumption) k hk))] <;> rfl)))))))))))))
theorem wbytes_own (w b n r : Nat) (f : Nat → UInt8) (q : BytL) (hn : n ≤ 90000) (hq : OkB q) (hl : q.wn ≤ 100000) : RunsF (famB q) Try.prog 21 [(ptr w 0), (Value.slice q.wa q.wn q.wc)] [⟨w, true, 0, (.lit [(Value.slice (some ⟨b, 0, none⟩) n (n + r))])⟩, ⟨b, true, 0, (spr (n + r) n (fun k => u8 (f k)) (u8 0))⟩] 2 (fun (ns : List Nat) => (Value.tuple #[])) (fun (ns : List Nat) => [some ⟨w, true, 0, (.lit [(Value.slice (some ⟨(ns.getD 0 0), 0, none⟩) (n + byN q.wn) (n + byN q.wn + (ns.getD 1 0)))])⟩, some ⟨(ns.getD 0 0), true, 0, (spr (n + byN q.wn + (ns.getD 1 0)) (n + byN q.wn) (fun k => u8 (catU f n (byB q.wf q.wn) k)) (u8 0))⟩]) :=
  runsF_of_ev (F := (famB q)) mix Try.func21 rfl rfl 400 (.regn [(0, .g), (1, .g), (2, (.as (nat q.wn))), (3, (.as (u64 (UInt64.ofNat q.wn)))), (4, (.call [(0, false), (1, false)] 2 0 (fun _ => Value.tuple #[]) (fun ns => [some ⟨w, true, 0, .lit [(Value.slice (some ⟨(ns.getD 0 0), 0, none⟩) (n + smN (UInt64.ofNat q.wn)) (n + smN (UInt64.ofNat q.wn) + (ns.getD 1 0)))]⟩, some ⟨(ns.getD 0 0), true, 0, (spr (n + smN (UInt64.ofNat q.wn) + (ns.getD 1 0)) (n + smN (UInt64.ofNat q.wn)) (fun k => u8 (catU f n (smB (UInt64.ofNat q.wn)) k)) (u8 0))⟩])))] (more (fun n1 => more (fun n2 => fun _ => (.both (decide (0 < q.wn)) (.openr (bytB q) (.regn [(0, .g), (1, .g), (2, .g), (3, .g), (4, (.ld 0 (.lit 0))), (5, .g), (6, (.oth [(1, false), (2, true)] 2 0 (fun ns => Value.slice (some ⟨(ns.getD 0 0), 0, none⟩) (n + smN (UInt64.ofNat q.wn) + q.wn) (n + smN (UInt64.ofNat q.wn) + q.wn + (ns.getD 1 0))) (fun ns => [some ⟨(ns.getD 0 0), true, 0, (spr (n + smN (UInt64.ofNat q.wn) + q.wn + (ns.getD 1 0)) (n + smN (UInt64.ofNat q.wn) + q.wn) (fun k => u8 (catU (catU f n (smB (UInt64.ofNat q.wn))) (n + smN (UInt64.ofNat q.wn)) q.wf k)) (u8 0))⟩, none]))), (7, .g), (8, .g), (9, (.st 0 (.lit 0)))] (more (fun n3 => more (fun n4 => fun _ => .done))))) (.reg [(0, .g), (1, .g), (2, .g), (3, .g), (4, (.ld 0 (.lit 0))), (5, .g), (6, (.oth [] 0 0 (fun _ => (Value.slice (some ⟨n1, 0, none⟩) (n + smN (UInt64.ofNat q.wn)) (n + smN (UInt64.ofNat q.wn) + n2))) (fun _ => []))), (7, .g), (8, .g), (9, (.st 0 (.lit 0)))] .done)))))) [] [] rfl
    (have f0 : n ≤ 90000 := hn; have f1 : q.wn ≤ 100000 := hl; have f2 : smN (UInt64.ofNat q.wn) ≤ 9 := (smN_le _); Eq.mp (by kernel_rfl) (fun (n1 n2 : Nat) => And.intro (sk (sk (And.intro (And.intro trivial (@is_len Try.prog 25 5 (.tmp 5) (by kernel_rfl) q.wa q.wn q.wc)) (And.intro (And.intro trivial (@conv_int_u64 Try.prog 3 31 (.tmp 6) (by kernel_rfl) (by kernel_rfl) q.wn)) (And.intro (And.intro trivial (wsmall_own w b n r f (UInt64.ofNat q.wn) (show n ≤ 100000 from by omega))) trivial))))) (And.intro (fun (h1 : (decide (0 < q.wn)) = true) => have f3 : (0 < q.wn) := (of_decide_eq_true h1); And.intro (⟨(show 0 < q.wn from by omega), rfl⟩ : famB q (bytB q)) (fun (n3 n4 : Nat) => And.intro (sk (sk (sk (sk (And.intro (And.intro trivial (ad w 0)) (sk (And.intro (And.intro trivial (SRuns.dark [false, true] (mk_appendA (P := Try.prog) (t := 25) (ty := 25) (e := 5) (by kernel_rfl) one5 n1 (n + smN (UInt64.ofNat q.wn)) n2 q.wb q.wo 0 q.wn q.wc u8 (catU f n (smB (UInt64.ofNat q.wn))) q.wf (tabF q.wn (fun k => u8 (q.wf k))) (fun j hj => by rw [Nat.zero_add]; exact tabF_in hj) (fun _ => rfl) (show (n + smN (UInt64.ofNat q.wn) + q.wn) * 1 ≤ 140737488355328 ∧ n + smN (UInt64.ofNat q.wn) + q.wn ≤ 9223372036854775807 from by have := smN_rng  (UInt64.ofNat q.wn); omega) (hq.ad (show 0 < q.wn from by omega))))) (sk (sk (And.intro (And.intro trivial (ad w 0)) trivial)))))))))) (And.intro trivial (@Exists.intro (List Nat) (fun (ns : List Nat) => ns.length = 2 ∧ ((Value.tuple #[]) : Value) = (fun (ns : List Nat) => (Value.tuple #[])) ns ∧ ([some ⟨w, true, 0, (.lit [(Value.slice (some ⟨n3, 0, none⟩) (n + smN (UInt64.ofNat q.wn) + q.wn) (n + smN (UInt64.ofNat q.wn) + q.wn + n4))])⟩, some ⟨n3, true, 0, (spr (n + smN (UInt64.ofNat q.wn) + q.wn + n4) (n + smN (UInt64.ofNat q.wn) + q.wn) (fun k => u8 (catU (catU f n (smB (UInt64.ofNat q.wn))) (n + smN (UInt64.ofNat q.wn)) q.wf k)) (u8 0))⟩] : List (Option Blk)) = (fun (ns : List Nat) => [some ⟨w, true, 0, (.lit [(Value.slice (some ⟨(ns.getD 0 0), 0, none⟩) (n + byN q.wn) (n + byN q.wn + (ns.getD 1 0)))])⟩, some ⟨(ns.getD 0 0), true, 0, (spr (n + byN q.wn + (ns.getD 1 0)) (n + byN q.wn) (fun k => u8 (catU f n (byB q.wf q.wn) k)) (u8 0))⟩]) ns) [n3, n4] (And.intro (@rfl Nat 2) (And.intro (@rfl Value (Value.tuple #[])) ((show ([some ⟨w, true, 0, (.lit [(Value.slice (some ⟨n3, 0, none⟩) (n + smN (UInt64.ofNat q.wn) + q.wn) (n + smN (UInt64.ofNat q.wn) + q.wn + n4))])⟩, some ⟨n3, true, 0, (spr (n + smN (UInt64.ofNat q.wn) + q.wn + n4) (n + smN (UInt64.ofNat q.wn) + q.wn) (fun k => u8 (catU (catU f n (smB (UInt64.ofNat q.wn))) (n + smN (UInt64.ofNat q.wn)) q.wf k)) (u8 0))⟩] : List (Option Blk)) = [some ⟨w, true, 0, (.lit [(Value.slice (some ⟨n3, 0, none⟩) (n + byN q.wn) (n + byN q.wn + n4))])⟩, some ⟨n3, true, 0, (spr (n + byN q.wn + n4) (n + byN q.wn) (fun k => u8 (catU f n (byB q.wf q.wn) k)) (u8 0))⟩] from by first | (rw [show n + smN (UInt64.ofNat q.wn) + q.wn = n + byN q.wn from by unfold byN; omega, catU_assoc] <;> rfl) | (rw [show n + smN (UInt64.ofNat q.wn) = n + byN q.wn from by unfold byN; omega, spr_as (fun k hk => congrArg u8 (bytes_end0 (by omega) k hk))] <;> rfl))))))))) (fun (h1 : (decide (0 < q.wn)) = false) => have f3 : ¬ (0 < q.wn) := (of_decide_eq_false h1); And.intro (sk (sk (sk (sk (And.intro (And.intro trivial (ad w 0)) (sk (And.intro (And.intro trivial (srun_append_noneM (P := Try.prog) (t := 25) (ty := 25) (e := 5) (sz := 1) (by kernel_rfl) (by kernel_rfl) (some ⟨n1, 0, none⟩) (n + smN (UInt64.ofNat q.wn)) (n + smN (UInt64.ofNat q.wn) + n2) (show (n + smN (UInt64.ofNat q.wn)) ≤ (n + smN (UInt64.ofNat q.wn) + n2) from by have := smN_rng  (UInt64.ofNat q.wn); omega) q.wa q.wn q.wc (show q.wn = 0 from by omega))) (sk (sk (And.intro (And.intro trivial (ad w 0)) trivial)))))))))) (And.intro trivial (@Exists.intro (List Nat) (fun (ns : List Nat) => ns.length = 2 ∧ ((Value.tuple #[]) : Value) = (fun (ns : List Nat) => (Value.tuple #[])) ns ∧ ([some ⟨w, true, 0, (.lit [(Value.slice (some ⟨n1, 0, none⟩) (n + smN (UInt64.ofNat q.wn)) (n + smN (UInt64.ofNat q.wn) + n2))])⟩, some ⟨n1, true, 0, (spr (n + smN (UInt64.ofNat q.wn) + n2) (n + smN (UInt64.ofNat q.wn)) (fun k => u8 (catU f n (smB (UInt64.ofNat q.wn)) k)) (u8 0))⟩] : List (Option Blk)) = (fun (ns : List Nat) => [some ⟨w, true, 0, (.lit [(Value.slice (some ⟨(ns.getD 0 0), 0, none⟩) (n + byN q.wn) (n + byN q.wn + (ns.getD 1 0)))])⟩, some ⟨(ns.getD 0 0), true, 0, (spr (n + byN q.wn + (ns.getD 1 0)) (n + byN q.wn) (fun k => u8 (catU f n (byB q.wf q.wn) k)) (u8 0))⟩]) ns) [n1, n2] (And.intro (@rfl Nat 2) (And.intro (@rfl Value (Value.tuple #[])) ((show ([some ⟨w, true, 0, (.lit [(Value.slice (some ⟨n1, 0, none⟩) (n + smN (UInt64.ofNat q.wn)) (n + smN (UInt64.ofNat q.wn) + n2))])⟩, some ⟨n1, true, 0, (spr (n + smN (UInt64.ofNat q.wn) + n2) (n + smN (UInt64.ofNat q.wn)) (fun k => u8 (catU f n (smB (UInt64.ofNat q.wn)) k)) (u8 0))⟩] : List (Option Blk)) = [some ⟨w, true, 0, (.lit [(Value.slice (some ⟨n1, 0, none⟩) (n + byN q.wn) (n + byN q.wn + n2))])⟩, some ⟨n1, true, 0, (spr (n + byN q.wn + n2) (n + byN q.wn) (fun k => u8 (catU f n (byB q.wf q.wn) k)) (u8 0))⟩] from by first | (rw [show n + smN (UInt64.ofNat q.wn) + q.wn = n + byN q.wn from by unfold byN; omega, catU_assoc] <;> rfl) | (rw [show n + smN (UInt64.ofNat q.wn) = n + byN q.wn from by unfold byN; omega, spr_as (fun k hk => congrArg u8 (bytes_end0 (by omega) k hk))] <;> rfl)))))))))))
theorem wbytes_nil (w : Nat) (q : BytL) (hq : OkB q) (hl : q.wn ≤ 100000) : RunsF (famB q) Try.prog 21 [(ptr w 0), (Value.slice q.wa q.wn q.wc)] [⟨w, true, 0, (.lit [(Value.slice none 0 0)])⟩] 2 (fun (ns : List Nat) => (Value.tuple #[])) (fun (ns : List Nat) => [some ⟨w, true, 0, (.lit [(Value.slice (some ⟨(ns.getD 0 0), 0, none⟩) (byN q.wn) (byN q.wn + (ns.getD 1 0)))])⟩, some ⟨(ns.getD 0 0), true, 0, (spr (byN q.wn + (ns.getD 1 0)) (byN q.wn) (fun k => u8 (byB q.wf q.wn k)) (u8 0))⟩]) :=
  runsF_of_ev (F := (famB q)) mix Try.func21 rfl rfl 400 (.regn [(0, .g), (1, .g), (2, (.as (nat q.wn))), (3, (.as (u64 (UInt64.ofNat q.wn)))), (4, (.call [(0, false)] 2 1 (fun _ => Value.tuple #[]) (fun ns => [some ⟨w, true, 0, .lit [(Value.slice (some ⟨(ns.getD 0 0), 0, none⟩) (smN (UInt64.ofNat q.wn)) (smN (UInt64.ofNat q.wn) + (ns.getD 1 0)))]⟩, some ⟨(ns.getD 0 0), true, 0, (spr (smN (UInt64.ofNat q.wn) + (ns.getD 1 0)) (smN (UInt64.ofNat q.wn)) (fun k => u8 (smB (UInt64.ofNat q.wn) k)) (u8 0))⟩])))] (more (fun n1 => more (fun n2 => fun _ => (.both (decide (0 < q.wn)) (.openr (bytB q) (.regn [(0, .g), (1, .g), (2, .g), (3, .g), (4, (.ld 0 (.lit 0))), (5, .g), (6, (.oth [(1, false), (2, true)] 2 0 (fun ns => Value.slice (some ⟨(ns.getD 0 0), 0, none⟩) (smN (UInt64.ofNat q.wn) + q.wn) (smN (UInt64.ofNat q.wn) + q.wn + (ns.getD 1 0))) (fun ns => [some ⟨(ns.getD 0 0), true, 0, (spr (smN (UInt64.ofNat q.wn) + q.wn + (ns.getD 1 0)) (smN (UInt64.ofNat q.wn) + q.wn) (fun k => u8 (catU (smB (UInt64.ofNat q.wn)) (smN (UInt64.ofNat q.wn)) q.wf k)) (u8 0))⟩, none]))), (7, .g), (8, .g), (9, (.st 0 (.lit 0)))] (more (fun n3 => more (fun n4 => fun _ => .done))))) (.reg [(0, .g), (1, .g), (2, .g), (3, .g), (4, (.ld 0 (.lit 0))), (5, .g), (6, (.oth [] 0 0 (fun _ => (Value.slice (some ⟨n1, 0, none⟩) (smN (UInt64.ofNat q.wn)) (smN (UInt64.ofNat q.wn) + n2))) (fun _ => []))), (7, .g), (8, .g), (9, (.st 0 (.lit 0)))] .done)))))) [] [1] rfl
    (have f0 : q.wn ≤ 100000 := hl; have f1 : smN (UInt64.ofNat q.wn) ≤ 9 := (smN_le _); Eq.mp (by kernel_rfl) (fun (n1 n2 : Nat) => And.intro (sk (sk (And.intro (And.intro trivial (@is_len Try.prog 25 5 (.tmp 5) (by kernel_rfl) q.wa q.wn q.wc)) (And.intro (And.intro trivial (@conv_int_u64 Try.prog 3 31 (.tmp 6) (by kernel_rfl) (by kernel_rfl) q.wn)) (And.intro (And.intro trivial (wsmall_nil w (UInt64.ofNat q.wn))) trivial))))) (And.intro (fun (h1 : (decide (0 < q.wn)) = true) => have f2 : (0 < q.wn) := (of_decide_eq_true h1); And.intro (⟨(show 0 < q.wn from by omega), rfl⟩ : famB q (bytB q)) (fun (n3 n4 : Nat) => And.intro (sk (sk (sk (sk (And.intro (And.intro trivial (ad w 0)) (sk (And.intro (And.intro trivial (SRuns.dark [false, true] (mk_appendA (P := Try.prog) (t := 25) (ty := 25) (e := 5) (by kernel_rfl) one5 n1 (smN (UInt64.ofNat q.wn)) n2 q.wb q.wo 0 q.wn q.wc u8 (smB (UInt64.ofNat q.wn)) q.wf (tabF q.wn (fun k => u8 (q.wf k))) (fun j hj => by rw [Nat.zero_add]; exact tabF_in hj) (fun _ => rfl) (show (smN (UInt64.ofNat q.wn) + q.wn) * 1 ≤ 140737488355328 ∧ smN (UInt64.ofNat q.wn) + q.wn ≤ 9223372036854775807 from by have := smN_rng  (UInt64.ofNat q.wn); omega) (hq.ad (show 0 < q.wn from by omega))))) (sk (sk (And.intro (And.intro trivial (ad w 0)) trivial)))))))))) (And.intro trivial (@Exists.intro (List Nat) (fun (ns : List Nat) => ns.length = 2 ∧ ((Value.tuple #[]) : Value) = (fun (ns : List Nat) => (Value.tuple #[])) ns ∧ ([some ⟨w, true, 0, (.lit [(Value.slice (some ⟨n3, 0, none⟩) (smN (UInt64.ofNat q.wn) + q.wn) (smN (UInt64.ofNat q.wn) + q.wn + n4))])⟩, some ⟨n3, true, 0, (spr (smN (UInt64.ofNat q.wn) + q.wn + n4) (smN (UInt64.ofNat q.wn) + q.wn) (fun k => u8 (catU (smB (UInt64.ofNat q.wn)) (smN (UInt64.ofNat q.wn)) q.wf k)) (u8 0))⟩] : List (Option Blk)) = (fun (ns : List Nat) => [some ⟨w, true, 0, (.lit [(Value.slice (some ⟨(ns.getD 0 0), 0, none⟩) (byN q.wn) (byN q.wn + (ns.getD 1 0)))])⟩, some ⟨(ns.getD 0 0), true, 0, (spr (byN q.wn + (ns.getD 1 0)) (byN q.wn) (fun k => u8 (byB q.wf q.wn k)) (u8 0))⟩]) ns) [n3, n4] (And.intro (@rfl Nat 2) (And.intro (@rfl Value (Value.tuple #[])) ((show ([some ⟨w, true, 0, (.lit [(Value.slice (some ⟨n3, 0, none⟩) (smN (UInt64.ofNat q.wn) + q.wn) (smN (UInt64.ofNat q.wn) + q.wn + n4))])⟩, some ⟨n3, true, 0, (spr (smN (UInt64.ofNat q.wn) + q.wn + n4) (smN (UInt64.ofNat q.wn) + q.wn) (fun k => u8 (catU (smB (UInt64.ofNat q.wn)) (smN (UInt64.ofNat q.wn)) q.wf k)) (u8 0))⟩] : List (Option Blk)) = [some ⟨w, true, 0, (.lit [(Value.slice (some ⟨n3, 0, none⟩) (byN q.wn) (byN q.wn + n4))])⟩, some ⟨n3, true, 0, (spr (byN q.wn + n4) (byN q.wn) (fun k => u8 (byB q.wf q.wn k)) (u8 0))⟩] from by first | (rw [show smN (UInt64.ofNat q.wn) + q.wn = byN q.wn from by unfold byN; omega] <;> rfl) | (rw [show smN (UInt64.ofNat q.wn) = byN q.wn from by unfold byN; omega, spr_as (fun k hk => congrArg u8 (bytes_endN (by omega) k hk))] <;> rfl))))))))) (fun (h1 : (decide (0 < q.wn)) = false) => have f2 : ¬ (0 < q.wn) := (of_decide_eq_false h1); And.intro (sk (sk (sk (sk (And.intro (And.intro trivial (ad w 0)) (sk (And.intro (And.intro trivial (srun_append_noneM (P := Try.prog) (t := 25) (ty := 25) (e := 5) (sz := 1) (by kernel_rfl) (by kernel_rfl) (some ⟨n1, 0, none⟩) (smN (UInt64.ofNat q.wn)) (smN (UInt64.ofNat q.wn) + n2) (show (smN (UInt64.ofNat q.wn)) ≤ (smN (UInt64.ofNat q.wn) + n2) from by have := smN_rng  (UInt64.ofNat q.wn); omega) q.wa q.wn q.wc (show q.wn = 0 from by omega))) (sk (sk (And.intro (And.intro trivial (ad w 0)) trivial)))))))))) (And.intro trivial (@Exists.intro (List Nat) (fun (ns : List Nat) => ns.length = 2 ∧ ((Value.tuple #[]) : Value) = (fun (ns : List Nat) => (Value.tuple #[])) ns ∧ ([some ⟨w, true, 0, (.lit [(Value.slice (some ⟨n1, 0, none⟩) (smN (UInt64.ofNat q.wn)) (smN (UInt64.ofNat q.wn) + n2))])⟩, some ⟨n1, true, 0, (spr (smN (UInt64.ofNat q.wn) + n2) (smN (UInt64.ofNat q.wn)) (fun k => u8 (smB (UInt64.ofNat q.wn) k)) (u8 0))⟩] : List (Option Blk)) = (fun (ns : List Nat) => [some ⟨w, true, 0, (.lit [(Value.slice (some ⟨(ns.getD 0 0), 0, none⟩) (byN q.wn) (byN q.wn + (ns.getD 1 0)))])⟩, some ⟨(ns.getD 0 0), true, 0, (spr (byN q.wn + (ns.getD 1 0)) (byN q.wn) (fun k => u8 (byB q.wf q.wn k)) (u8 0))⟩]) ns) [n1, n2] (And.intro (@rfl Nat 2) (And.intro (@rfl Value (Value.tuple #[])) ((show ([some ⟨w, true, 0, (.lit [(Value.slice (some ⟨n1, 0, none⟩) (smN (UInt64.ofNat q.wn)) (smN (UInt64.ofNat q.wn) + n2))])⟩, some ⟨n1, true, 0, (spr (smN (UInt64.ofNat q.wn) + n2) (smN (UInt64.ofNat q.wn)) (fun k => u8 (smB (UInt64.ofNat q.wn) k)) (u8 0))⟩] : List (Option Blk)) = [some ⟨w, true, 0, (.lit [(Value.slice (some ⟨n1, 0, none⟩) (byN q.wn) (byN q.wn + n2))])⟩, some ⟨n1, true, 0, (spr (byN q.wn + n2) (byN q.wn) (fun k => u8 (byB q.wf q.wn k)) (u8 0))⟩] from by first | (rw [show smN (UInt64.ofNat q.wn) + q.wn = byN q.wn from by unfold byN; omega] <;> rfl) | (rw [show smN (UInt64.ofNat q.wn) = byN q.wn from by unfold byN; omega, spr_as (fun k hk => congrArg u8 (bytes_endN (by omega) k hk))] <;> rfl)))))))))))
theorem wnat_own (w b n r : Nat) (f : Nat → UInt8) (a : N4) (hn : n ≤ 100000) : Runs Try.prog 20 [(ptr w 0), (nat4 a)] [⟨w, true, 0, (.lit [(Value.slice (some ⟨b, 0, none⟩) n (n + r))])⟩, ⟨b, true, 0, (spr (n + r) n (fun k => u8 (f k)) (u8 0))⟩] 2 (fun (ns : List Nat) => (Value.tuple #[])) (fun (ns : List Nat) => [some ⟨w, true, 0, (.lit [(Value.slice (some ⟨(ns.getD 0 0), 0, none⟩) (n + 32) (n + 32 + (ns.getD 1 0)))])⟩, some ⟨(ns.getD 0 0), true, 0, (spr (n + 32 + (ns.getD 1 0)) (n + 32) (fun k => u8 (catU f n (bytesF a) k)) (u8 0))⟩]) :=
  runs_of_ev mix Try.func20 rfl rfl 400 (.regn [(0, .new)] (more (fun n1 => fun _ => (.regn [(0, .g), (1, .g), (2, .g), (3, .g), (4, (.ld 0 (.lit 0))), (5, (.ld 2 (.lit 0))), (6, (.call [] 1 1 (fun ns => Value.slice (some ⟨ns.getD 0 0, 0, none⟩) 32 32) (fun ns => [some ⟨ns.getD 0 0, true, 0, tabF 32 (fun k => u8 (bytesF a k))⟩]))), (7, (.oth [(1, false), (3, true)] 2 0 (fun ns => Value.slice (some ⟨(ns.getD 0 0), 0, none⟩) (n + 32) (n + 32 + (ns.getD 1 0))) (fun ns => [some ⟨(ns.getD 0 0), true, 0, (spr (n + 32 + (ns.getD 1 0)) (n + 32) (fun k => u8 (catU f n (bytesF a) k)) (u8 0))⟩, none]))), (8, .g), (9, .g), (10, (.st 0 (.lit 0)))] (more (fun n2 => more (fun n3 => more (fun n4 => fun _ => .done)))))))) [] [] rfl
    (have f0 : n ≤ 100000 := hn; Eq.mp (by kernel_rfl) (fun (n1 : Nat) => And.intro (sk trivial) (fun (n2 n3 n4 : Nat) => And.intro (sk (sk (sk (sk (And.intro (And.intro trivial (ad w 0)) (And.intro (And.intro trivial (ad n1 0)) (And.intro (And.intro trivial (bytes_runs a)) (And.intro (And.intro trivial (SRuns.dark [false, true] (mk_append (P := Try.prog) (t := 25) (ty := 25) (e := 5) (by kernel_rfl) one5 b n r n2 0 0 32 32 u8 f (bytesF a) (tabF 32 (fun k => u8 (bytesF a k))) (fun j hj => by rw [Nat.zero_add]; exact tabF_in hj) (fun _ => rfl) (show (n + 32) * 1 ≤ 140737488355328 ∧ n + 32 ≤ 9223372036854775807 from by omega)))) (sk (sk (And.intro (And.intro trivial (ad w 0)) trivial))))))))))) (And.intro trivial (@Exists.intro (List Nat) (fun (ns : List Nat) => ns.length = 2 ∧ ((Value.tuple #[]) : Value) = (fun (ns : List Nat) => (Value.tuple #[])) ns ∧ ([some ⟨w, true, 0, (.lit [(Value.slice (some ⟨n3, 0, none⟩) (n + 32) (n + 32 + n4))])⟩, some ⟨n3, true, 0, (spr (n + 32 + n4) (n + 32) (fun k => u8 (catU f n (bytesF a) k)) (u8 0))⟩] : List (Option Blk)) = (fun (ns : List Nat) => [some ⟨w, true, 0, (.lit [(Value.slice (some ⟨(ns.getD 0 0), 0, none⟩) (n + 32) (n + 32 + (ns.getD 1 0)))])⟩, some ⟨(ns.getD 0 0), true, 0, (spr (n + 32 + (ns.getD 1 0)) (n + 32) (fun k => u8 (catU f n (bytesF a) k)) (u8 0))⟩]) ns) [n3, n4] (And.intro (@rfl Nat 2) (And.intro (@rfl Value (Value.tuple #[])) (@rfl (List (Option Blk)) [some ⟨w, true, 0, (.lit [(Value.slice (some ⟨n3, 0, none⟩) (n + 32) (n + 32 + n4))])⟩, some ⟨n3, true, 0, (spr (n + 32 + n4) (n + 32) (fun k => u8 (catU f n (bytesF a) k)) (u8 0))⟩]))))))))
theorem wnat_nil (w : Nat) (a : N4) : Runs Try.prog 20 [(ptr w 0), (nat4 a)] [⟨w, true, 0, (.lit [(Value.slice none 0 0)])⟩] 2 (fun (ns : List Nat) => (Value.tuple #[])) (fun (ns : List Nat) => [some ⟨w, true, 0, (.lit [(Value.slice (some ⟨(ns.getD 0 0), 0, none⟩) 32 (32 + (ns.getD 1 0)))])⟩, some ⟨(ns.getD 0 0), true, 0, (spr (32 + (ns.getD 1 0)) 32 (fun k => u8 (bytesF a k)) (u8 0))⟩]) :=
  runs_of_ev mix Try.func20 rfl rfl 400 (.regn [(0, .new)] (more (fun n1 => fun _ => (.regn [(0, .g), (1, .g), (2, .g), (3, .g), (4, (.ld 0 (.lit 0))), (5, (.ld 1 (.lit 0))), (6, (.call [] 1 1 (fun ns => Value.slice (some ⟨ns.getD 0 0, 0, none⟩) 32 32) (fun ns => [some ⟨ns.getD 0 0, true, 0, tabF 32 (fun k => u8 (bytesF a k))⟩]))), (7, (.oth [(2, true)] 2 1 (fun ns => Value.slice (some ⟨(ns.getD 0 0), 0, none⟩) 32 (32 + (ns.getD 1 0))) (fun ns => [none, some ⟨(ns.getD 0 0), true, 0, (spr (32 + (ns.getD 1 0)) 32 (fun k => u8 (bytesF a k)) (u8 0))⟩]))), (8, .g), (9, .g), (10, (.st 0 (.lit 0)))] (more (fun n2 => more (fun n3 => more (fun n4 => fun _ => .done)))))))) [] [3] rfl
    (Eq.mp (by kernel_rfl) (fun (n1 : Nat) => And.intro (sk trivial) (fun (n2 n3 n4 : Nat) => And.intro (sk (sk (sk (sk (And.intro (And.intro trivial (ad w 0)) (And.intro (And.intro trivial (ad n1 0)) (And.intro (And.intro trivial (bytes_runs a)) (And.intro (And.intro trivial (SRuns.dark [true] (mk_append_nil (P := Try.prog) (t := 25) (ty := 25) (e := 5) (by kernel_rfl) one5 n2 0 0 32 32 u8 (bytesF a) (tabF 32 (fun k => u8 (bytesF a k))) (fun j hj => by rw [Nat.zero_add]; exact tabF_in hj) (show 0 < 32 ∧ 32 * 1 ≤ 140737488355328 ∧ 32 ≤ 9223372036854775807 from by omega)))) (sk (sk (And.intro (And.intro trivial (ad w 0)) trivial))))))))))) (And.intro trivial (@Exists.intro (List Nat) (fun (ns : List Nat) => ns.length = 2 ∧ ((Value.tuple #[]) : Value) = (fun (ns : List Nat) => (Value.tuple #[])) ns ∧ ([some ⟨w, true, 0, (.lit [(Value.slice (some ⟨n3, 0, none⟩) 32 (32 + n4))])⟩, some ⟨n3, true, 0, (spr (32 + n4) 32 (fun k => u8 (bytesF a k)) (u8 0))⟩] : List (Option Blk)) = (fun (ns : List Nat) => [some ⟨w, true, 0, (.lit [(Value.slice (some ⟨(ns.getD 0 0), 0, none⟩) 32 (32 + (ns.getD 1 0)))])⟩, some ⟨(ns.getD 0 0), true, 0, (spr (32 + (ns.getD 1 0)) 32 (fun k => u8 (bytesF a k)) (u8 0))⟩]) ns) [n3, n4] (And.intro (@rfl Nat 2) (And.intro (@rfl Value (Value.tuple #[])) (@rfl (List (Option Blk)) [some ⟨w, true, 0, (.lit [(Value.slice (some ⟨n3, 0, none⟩) 32 (32 + n4))])⟩, some ⟨n3, true, 0, (spr (32 + n4) 32 (fun k => u8 (bytesF a k)) (u8 0))⟩]))))))))
end Go.Proofs.Ytelpmalmknpogaa
end
section
namespace Go.Proofs.Ytelpmalmknpogaa
open Go Go.Eng
set_option linter.unusedVariables false
set_option linter.unusedSimpArgs false
set_option maxRecDepth 100000
set_option maxHeartbeats 1000000
theorem clone_runs0 (b o n c : Nat) (f : Nat → UInt8) (h0 : 0 < n) (hl : n ≤ 140737488355328) : Runs Try.prog 28 [(Value.slice (some ⟨b, o, none⟩) n c)] [⟨b, false, o, (tabF n (fun k => u8 (f k)))⟩] 2 (fun (ns : List Nat) => (Value.slice (some ⟨(ns.getD 0 0), 0, none⟩) (0 + n) (0 + n + (ns.getD 1 0)))) (fun (ns : List Nat) => [some ⟨b, false, o, (tabF n (fun k => u8 (f k)))⟩, some ⟨(ns.getD 0 0), true, 0, (spr (0 + n + (ns.getD 1 0)) (0 + n) (fun k => u8 (catU (fun _ => 0) 0 f k)) (u8 0))⟩]) :=
  runs_of_ev mix Try.func28 rfl rfl 400 (.reg [(0, .g)] (.reg [(0, .g), (1, .g)] (.no (.regn [(0, (.oth [] 1 1 (fun ns => Value.slice (some ⟨ns.getD 0 0, 0, none⟩) 0 0) (fun ns => [some ⟨ns.getD 0 0, true, 0, (spr (0 + 0) 0 (fun k => u8 ((fun _ => 0) k)) (u8 0))⟩]))), (1, .g), (2, (.oth [(1, false), (0, true)] 2 0 (fun ns => Value.slice (some ⟨(ns.getD 0 0), 0, none⟩) (0 + n) (0 + n + (ns.getD 1 0))) (fun ns => [some ⟨(ns.getD 0 0), true, 0, (spr (0 + n + (ns.getD 1 0)) (0 + n) (fun k => u8 (catU (fun _ => 0) 0 f k)) (u8 0))⟩, none]))), (3, .g)] (more (fun n1 => more (fun n2 => more (fun n3 => fun _ => .done)))))))) [] [1] rfl
    (have f0 : 0 < n := h0; have f1 : n ≤ 140737488355328 := hl; Eq.mp (by kernel_rfl) (And.intro (sk trivial) (And.intro (sk (sk trivial)) (And.intro trivial (And.intro (@rfl Bool false) (fun (n1 n2 n3 : Nat) => And.intro (And.intro (And.intro trivial (mk_build0 (P := Try.prog) (t := 25) (e := 5) (by kernel_rfl) one5 u8 (fun _ => 0))) (sk (And.intro (And.intro trivial (SRuns.dark [false, true] (mk_append (P := Try.prog) (t := 25) (ty := 25) (e := 5) (by kernel_rfl) one5 n1 0 0 b o 0 n c u8 (fun _ => 0) f (tabF n (fun k => u8 (f k))) (fun j hj => by rw [Nat.zero_add]; exact tabF_in hj) (fun _ => rfl) (show (0 + n) * 1 ≤ 140737488355328 ∧ 0 + n ≤ 9223372036854775807 from by omega)))) (sk trivial)))) (And.intro trivial (@Exists.intro (List Nat) (fun (ns : List Nat) => ns.length = 2 ∧ ((Value.slice (some ⟨n2, 0, none⟩) (0 + n) (0 + n + n3)) : Value) = (fun (ns : List Nat) => (Value.slice (some ⟨(ns.getD 0 0), 0, none⟩) (0 + n) (0 + n + (ns.getD 1 0)))) ns ∧ ([some ⟨b, false, o, (tabF n (fun k => u8 (f k)))⟩, some ⟨n2, true, 0, (spr (0 + n + n3) (0 + n) (fun k => u8 (catU (fun _ => 0) 0 f k)) (u8 0))⟩] : List (Option Blk)) = (fun (ns : List Nat) => [some ⟨b, false, o, (tabF n (fun k => u8 (f k)))⟩, some ⟨(ns.getD 0 0), true, 0, (spr (0 + n + (ns.getD 1 0)) (0 + n) (fun k => u8 (catU (fun _ => 0) 0 f k)) (u8 0))⟩]) ns) [n2, n3] (And.intro (@rfl Nat 2) (And.intro (@rfl Value (Value.slice (some ⟨n2, 0, none⟩) (0 + n) (0 + n + n3))) (@rfl (List (Option Blk)) [some ⟨b, false, o, (tabF n (fun k => u8 (f k)))⟩, some ⟨n2, true, 0, (spr (0 + n + n3) (0 + n) (fun k => u8 (catU (fun _ => 0) 0 f k)) (u8 0))⟩])))))))))))
theorem clone_nil0 : Pure Try.prog 28 [(Value.slice none 0 0)] (Value.slice none 0 0) :=
  pure_of_ev mix Try.func28 rfl rfl 400 (.reg [(0, .g)] (.reg [(0, .g), (1, .g)] (.yes (.reg [(0, .g)] .done)))) []
    (Eq.mp (by kernel_rfl) (And.intro (sk trivial) (And.intro (sk (sk trivial)) (And.intro trivial (And.intro (@rfl Bool true) (And.intro (sk trivial) (And.intro trivial (@rfl Value (Value.slice none 0 0)))))))))
theorem clone_runs (b o n c : Nat) (f : Nat → UInt8) (h0 : 0 < n) (hl : n ≤ 140737488355328) : Runs Try.prog 28 [.slice (some ⟨b, o, none⟩) n c] [⟨b, false, o, tabF n (fun k => u8 (f k))⟩] 2 (fun ns => .slice (some ⟨ns.getD 0 0, 0, none⟩) n (n + ns.getD 1 0)) (fun ns => [some ⟨b, false, o, tabF n (fun k => u8 (f k))⟩, some ⟨ns.getD 0 0, true, 0, spr (n + ns.getD 1 0) n (fun k => u8 (f k)) (u8 0)⟩]) := by
  have h := clone_runs0 b o n c f h0 hl
  simp only [Nat.zero_add, catU_nil] at h
  exact h
theorem clone_fam (q : BytL) (hq : OkB q) (h0 : 0 < q.wn) (hl : q.wn ≤ 140737488355328) : RunsF (famB q) Try.prog 28 [slqV q] [] 2 (fun ns => .slice (some ⟨ns.getD 0 0, 0, none⟩) q.wn (q.wn + ns.getD 1 0)) (fun ns => [some ⟨ns.getD 0 0, true, 0, spr (q.wn + ns.getD 1 0) q.wn (fun k => u8 (q.wf k)) (u8 0)⟩]) := by
  have e : slqV q = .slice (some ⟨q.wb, q.wo, none⟩) q.wn q.wc := by unfold slqV; rw [hq.ad h0]
  rw [e]
  exact (clone_runs q.wb q.wo q.wn q.wc q.wf h0 hl).famN ⟨h0, rfl⟩
theorem clone_nil : Pure Try.prog 28 [.slice none 0 0] (.slice none 0 0) := clone_nil0
theorem clone_zero (A : Addr) (c : Nat) : Runs Try.prog 28 [(Value.slice (some A) 0 c)] [] 1 (fun (ns : List Nat) => (Value.slice (some ⟨(ns.getD 0 0), 0, none⟩) 0 (0 + 0))) (fun (ns : List Nat) => [some ⟨(ns.getD 0 0), true, 0, (spr (0 + 0) 0 (fun k => u8 ((fun _ => 0) k)) (u8 0))⟩]) :=
  runs_of_ev mix Try.func28 rfl rfl 400 (.reg [(0, .g)] (.reg [(0, .g), (1, .g)] (.no (.regn [(0, (.oth [] 1 1 (fun ns => Value.slice (some ⟨ns.getD 0 0, 0, none⟩) 0 0) (fun ns => [some ⟨ns.getD 0 0, true, 0, (spr (0 + 0) 0 (fun k => u8 ((fun _ => 0) k)) (u8 0))⟩]))), (1, .g), (2, (.oth [(0, false)] 1 0 (fun ns => Value.slice (some ⟨(ns.getD 0 0), 0, none⟩) 0 (0 + 0)) (fun ns => [some ⟨(ns.getD 0 0), true, 0, (spr (0 + 0) 0 (fun k => u8 ((fun _ => 0) k)) (u8 0))⟩]))), (3, .g)] (more (fun n1 => more (fun n2 => fun _ => .done))))))) [] [0] rfl
    (Eq.mp (by kernel_rfl) (And.intro (sk trivial) (And.intro (sk (sk trivial)) (And.intro trivial (And.intro (@rfl Bool false) (fun (n1 n2 : Nat) => And.intro (And.intro (And.intro trivial (mk_build0 (P := Try.prog) (t := 25) (e := 5) (by kernel_rfl) one5 u8 (fun _ => 0))) (sk (And.intro (And.intro trivial (SRuns.dark [false] (mk_append0 (P := Try.prog) (t := 25) (ty := 25) (e := 5) (by kernel_rfl) one5 n1 (spr (0 + 0) 0 (fun k => u8 ((fun _ => 0) k)) (u8 0)) (some A) c))) (sk trivial)))) (And.intro trivial (@Exists.intro (List Nat) (fun (ns : List Nat) => ns.length = 1 ∧ ((Value.slice (some ⟨n2, 0, none⟩) 0 (0 + 0)) : Value) = (fun (ns : List Nat) => (Value.slice (some ⟨(ns.getD 0 0), 0, none⟩) 0 (0 + 0))) ns ∧ ([some ⟨n2, true, 0, (spr (0 + 0) 0 (fun k => u8 ((fun _ => 0) k)) (u8 0))⟩] : List (Option Blk)) = (fun (ns : List Nat) => [some ⟨(ns.getD 0 0), true, 0, (spr (0 + 0) 0 (fun k => u8 ((fun _ => 0) k)) (u8 0))⟩]) ns) [n2] (And.intro (@rfl Nat 1) (And.intro (@rfl Value (Value.slice (some ⟨n2, 0, none⟩) 0 (0 + 0))) (@rfl (List (Option Blk)) [some ⟨n2, true, 0, (spr (0 + 0) 0 (fun k => u8 ((fun _ => 0) k)) (u8 0))⟩])))))))))))
theorem wout_own (w b n r : Nat) (f : Nat → UInt8) (h0 : 0 < n) (hl : n ≤ 100000) : Runs Try.prog 23 [(ptr w 0)] [⟨w, false, 0, (.lit [(Value.slice (some ⟨b, 0, none⟩) n (n + r))])⟩, ⟨b, false, 0, (spr (n + r) n (fun k => u8 (f k)) (u8 0))⟩] 2 (fun (ns : List Nat) => (Value.slice (some ⟨(ns.getD 0 0), 0, none⟩) n (n + (ns.getD 1 0)))) (fun (ns : List Nat) => [some ⟨w, false, 0, (.lit [(Value.slice (some ⟨b, 0, none⟩) n (n + r))])⟩, some ⟨b, false, 0, (spr (n + r) n (fun k => u8 (f k)) (u8 0))⟩, some ⟨(ns.getD 0 0), true, 0, (spr (n + (ns.getD 1 0)) n (fun k => u8 (f k)) (u8 0))⟩]) :=
  runs_of_ev mix Try.func23 rfl rfl 400 (.reg [(0, .g)] (.regn [(0, .g), (1, .g), (2, .g), (3, (.ld 0 (.lit 0))), (4, (.callF [(1, true)] 2 1 (fun ns => Value.slice (some ⟨(ns.getD 0 0), 0, none⟩) (n) (n + (ns.getD 1 0))) (fun ns => [none, some ⟨(ns.getD 0 0), true, 0, (spr (n + (ns.getD 1 0)) n (fun k => u8 (f k)) (u8 0))⟩]))), (5, .g)] (more (fun n1 => more (fun n2 => fun _ => .done))))) [] [2] rfl
    (have f0 : 0 < n := h0; have f1 : n ≤ 100000 := hl; Eq.mp (by kernel_rfl) (And.intro (sk trivial) (fun (n1 n2 : Nat) => And.intro (sk (sk (sk (And.intro (And.intro trivial (ad w 0)) (And.intro (And.intro trivial (RunsF.lendG (F' := (fun _ => False)) (bs := []) (cs := [⟨b, false, 0, (spr (n + r) n (fun k => u8 (f k)) (u8 0))⟩]) (o := fun _ => []) (clone_fam (bytO b n (n + r) f) (okb_own (show n ≤ n + r from by omega) (show n ≤ 9223372036854775807 from by omega)) (show 0 < n from by omega) (show n ≤ 140737488355328 from by omega)) (fun _ => rfl) (fun w _ hb => holdb_own (holds_sprB (hb _ (List.Mem.head _)))) (famB_name rfl) (by simp))) (sk trivial)))))) (And.intro trivial (@Exists.intro (List Nat) (fun (ns : List Nat) => ns.length = 2 ∧ ((Value.slice (some ⟨n1, 0, none⟩) n (n + n2)) : Value) = (fun (ns : List Nat) => (Value.slice (some ⟨(ns.getD 0 0), 0, none⟩) n (n + (ns.getD 1 0)))) ns ∧ ([some ⟨w, false, 0, (.lit [(Value.slice (some ⟨b, 0, none⟩) n (n + r))])⟩, some ⟨b, false, 0, (spr (n + r) n (fun k => u8 (f k)) (u8 0))⟩, some ⟨n1, true, 0, (spr (n + n2) n (fun k => u8 (f k)) (u8 0))⟩] : List (Option Blk)) = (fun (ns : List Nat) => [some ⟨w, false, 0, (.lit [(Value.slice (some ⟨b, 0, none⟩) n (n + r))])⟩, some ⟨b, false, 0, (spr (n + r) n (fun k => u8 (f k)) (u8 0))⟩, some ⟨(ns.getD 0 0), true, 0, (spr (n + (ns.getD 1 0)) n (fun k => u8 (f k)) (u8 0))⟩]) ns) [n1, n2] (And.intro (@rfl Nat 2) (And.intro (@rfl Value (Value.slice (some ⟨n1, 0, none⟩) n (n + n2))) (@rfl (List (Option Blk)) [some ⟨w, false, 0, (.lit [(Value.slice (some ⟨b, 0, none⟩) n (n + r))])⟩, some ⟨b, false, 0, (spr (n + r) n (fun k => u8 (f k)) (u8 0))⟩, some ⟨n1, true, 0, (spr (n + n2) n (fun k => u8 (f k)) (u8 0))⟩]))))))))
theorem wout_nil (w : Nat) : Runs Try.prog 23 [(ptr w 0)] [⟨w, false, 0, (.lit [(Value.slice none 0 0)])⟩] 0 (fun (_ : List Nat) => (Value.slice none 0 0)) (fun (_ : List Nat) => [some ⟨w, false, 0, (.lit [(Value.slice none 0 0)])⟩]) :=
  runs_of_ev mix Try.func23 rfl rfl 400 (.reg [(0, .g)] (.reg [(0, .g), (1, .g), (2, .g), (3, (.ld 0 (.lit 0))), (4, (.call [] 0 0 (fun _ => (Value.slice none 0 0)) (fun _ => []))), (5, .g)] .done)) [] [] rfl
    (Eq.mp (by kernel_rfl) (And.intro (sk trivial) (And.intro (sk (sk (sk (And.intro (And.intro trivial (ad w 0)) (And.intro (And.intro trivial clone_nil) (sk trivial)))))) (And.intro trivial (@Exists.intro (List Nat) (fun (ns : List Nat) => ns.length = 0 ∧ ((Value.slice none 0 0) : Value) = (fun (_ : List Nat) => (Value.slice none 0 0)) ns ∧ ([some ⟨w, false, 0, (.lit [(Value.slice none 0 0)])⟩] : List (Option Blk)) = (fun (_ : List Nat) => [some ⟨w, false, 0, (.lit [(Value.slice none 0 0)])⟩]) ns) [] (And.intro (@rfl Nat 0) (And.intro (@rfl Value (Value.slice none 0 0)) (@rfl (List (Option Blk)) [some ⟨w, false, 0, (.lit [(Value.slice none 0 0)])⟩]))))))))
theorem of_fam (q : BytL) (hq : OkB q) : RunsF (famB q) Try.prog 32 [slqV q] [] 0 (fun _ => .tuple #[nat4 (ofN q.wf q.wn), int (ofE q.wn)]) (fun _ => []) := by
  rcases Nat.eq_zero_or_pos q.wn with h0 | h0
  · have e : slqV q = .slice q.wa 0 q.wc := by unfold slqV; rw [h0]
    rw [e, h0, (ofN_nil q.wf).1, (ofN_nil q.wf).2]
    exact (of_nil q.wa q.wc).toF
  · have e : slqV q = .slice (some ⟨q.wb, q.wo, none⟩) q.wn q.wc := by unfold slqV; rw [hq.ad h0]
    rw [e]
    exact (of_runs q.wb q.wo q.wn q.wc q.wf hq.len).fam ⟨h0, rfl⟩
theorem small_fam (q : BytL) (hq : OkB q) (hl : q.wn ≤ 100000) (h0 : 0 < q.wn) (h8 : (q.wf 0).toNat ≤ 8) (h9 : (q.wf 0).toNat + 1 ≤ q.wn) : RunsF (famB q) Try.prog 31 [(Value.slice q.wa q.wn q.wc)] [] 0 (fun (_ : List Nat) => u64 (smV q.wf)) (fun (_ : List Nat) => []) :=
  runsF_of_ev (F := (famB q)) mix Try.func31 rfl rfl 400 (.reg [(0, .g)] (.openr (bytB q) (.regn [(0, .g), (1, .g), (2, (.as (ptr q.wb (q.wo + 0 * 1)))), (3, (.ld 0 (.tab 0 0))), (4, (.as (u8 (1 + (q.wf 0))))), (5, (.as (Value.slice (fromA q.wa q.wc 1 1) (((1 + (q.wf 0)).toNat) - 1) (q.wc - 1)))), (6, (.callF [] 0 0 (fun _ => (Value.tuple #[(nat4 (ofN (bytF (bytT q ((1 + (q.wf 0)).toNat)) 1).wf (bytF (bytT q ((1 + (q.wf 0)).toNat)) 1).wn)), (int (ofE (bytF (bytT q ((1 + (q.wf 0)).toNat)) 1).wn))])) (fun _ => []))), (7, .g), (8, .g), (9, .g), (10, .new), (11, (.st 1 (.lit 0))), (12, .g)] (more (fun n1 => fun _ => (.reg [(0, .g), (1, (.ld 1 (.lit 0))), (2, .g)] .done)))))) [] [] rfl
    (have f0 : q.wn ≤ 100000 := hl; have f1 : q.wn ≤ q.wc := hq.cap; have f2 : 0 < q.wn := h0; have f3 : (q.wf 0).toNat ≤ 8 := h8; have f4 : (q.wf 0).toNat + 1 ≤ q.wn := h9; have f5 : (1 + q.wf 0).toNat = 1 + (q.wf 0).toNat := (add1_8 (Nat.le_trans h8 (by decide))); Eq.mp (by kernel_rfl) (And.intro (sk trivial) (And.intro (⟨(show 0 < q.wn from by omega), rfl⟩ : famB q (bytB q)) (fun (n1 : Nat) => And.intro (sk (sk (And.intro (And.intro trivial (@is_ixSq Try.prog 25 5 (.tmp 7) (.const (.int .i64 0)) 1 (by kernel_rfl) (by kernel_rfl) q.wb q.wo q.wn q.wc 0 q.wa (hq.ad (show 0 < q.wn from by omega)) (show 0 < q.wn from by omega))) (And.intro (And.intro trivial (And.intro (show 0 < q.wn from by omega) (@rfl Value (ptr q.wb (q.wo + 0 * 1))))) (And.intro (And.intro trivial (@is_add8 Try.prog 5 5 (.const (.int .u8 1)) (.tmp 9) 1 (q.wf 0))) (And.intro (And.intro trivial (is_slqPartK (P := Try.prog) (t := 25) (e := 5) (x := (.tmp 6)) (y := (.const (.int .i64 1))) (z := (.tmp 10)) (by kernel_rfl) (sz := 1) (by kernel_rfl) .i64 .u8 q.wa q.wn q.wc 1 ((1 + (q.wf 0)).toNat) (show 1 ≤ (1 + (q.wf 0)).toNat ∧ (1 + (q.wf 0)).toNat ≤ q.wc from by omega))) (And.intro (And.intro trivial (RunsF.lendP (fun w hF => holdb_from (show 1 ≤ ((1 + (q.wf 0)).toNat) from by omega) (holdb_to (show ((1 + (q.wf 0)).toNat) ≤ q.wn from by omega) hF)) (fun x hx => famB_part (show 0 < ((1 + (q.wf 0)).toNat) - 1 → 0 < q.wn from by omega) hx) (of_fam (bytF (bytT q ((1 + (q.wf 0)).toNat)) 1) (okb_from (okb_to hq (show ((1 + (q.wf 0)).toNat) ≤ q.wn from by omega)) (show 1 ≤ ((1 + (q.wf 0)).toNat) from by omega))))) (sk (sk (sk (sk (And.intro (And.intro trivial (ad n1 0)) (sk trivial))))))))))))) (And.intro (sk (And.intro (And.intro trivial (ad n1 0)) (sk trivial))) (And.intro trivial (@Exists.intro (List Nat) (fun (ns : List Nat) => ns.length = 0 ∧ ((u64 ((ofN (bytF (bytT q ((1 + (q.wf 0)).toNat)) 1).wf (bytF (bytT q ((1 + (q.wf 0)).toNat)) 1).wn).a)) : Value) = (fun (_ : List Nat) => u64 (smV q.wf)) ns ∧ ([] : List (Option Blk)) = (fun (_ : List Nat) => []) ns) [] (And.intro (@rfl Nat 0) (And.intro (@rfl Value (u64 (smV q.wf))) (@rfl (List (Option Blk)) []))))))))))
theorem wrong_fam (q : BytL) (l : UInt64) (hq : OkB q) (hl : q.wn ≤ 100000) : RunsF (famB q) Try.prog 30 [(Value.slice q.wa q.wn q.wc), (u64 l)] [] 0 (fun (_ : List Nat) => int (wrE q.wf q.wn l)) (fun (_ : List Nat) => []) :=
  runsF_of_ev (F := (famB q)) mix Try.func30 rfl rfl 400 (.reg [(0, .g)] (.reg [(0, .g), (1, (.as (nat q.wn))), (2, (.as (Value.bool (decide (q.wn = 0))))), (3, .g)] (.br (.reg [(0, .g)] .done) (.openr (bytB q) (.reg [(0, .g), (1, (.as (ptr q.wb (q.wo + 0 * 1)))), (2, (.ld 0 (.tab 0 0))), (3, (.as (Value.bool (decide ((q.wf 0).toNat ≤ 8))))), (4, .g), (5, .opt .g), (6, .opt (.as (nat q.wn))), (7, .opt (.as (nat (q.wn - 1)))), (8, .opt .g), (9, .opt (.as (ptr q.wb (q.wo + 0 * 1)))), (10, .opt (.ld 0 (.tab 0 0))), (11, .opt (.as (nat ((q.wf 0).toNat)))), (12, .opt (.as (Value.bool (decide ((q.wn - 1) < ((q.wf 0).toNat)))))), (13, .pk), (14, .g)] (.br (.reg [(0, .g)] .done) (.openr (bytB q) (.reg [(0, .g), (1, (.as (ptr q.wb (q.wo + 0 * 1)))), (2, (.ld 1 (.tab 0 0))), (3, (.as (Value.bool (decide (8 < (q.wf 0).toNat))))), (4, .g), (5, .opt .g), (6, .opt (.as (ptr q.wb (q.wo + 0 * 1)))), (7, .opt (.ld 1 (.tab 0 0))), (8, .opt (.as (Value.bool (decide (0 < (q.wf 0).toNat))))), (9, .opt .g), (10, .opt .g), (11, .opt (.as (ptr q.wb (q.wo + 1 * 1)))), (12, .opt (.ld 1 (.tab 1 0))), (13, .opt (.as (Value.bool ((q.wf 1) == 0)))), (14, .opt .pk), (15, .pk), (16, .g)] (.br (.reg [(0, .g)] .done) (.reg [(0, .g), (1, (.callF [] 0 0 (fun _ => (u64 (smV q.wf))) (fun _ => []))), (2, .g), (3, (.as (Value.bool (decide (l < (smV q.wf)))))), (4, .g)] (.br (.reg [(0, .g)] .done) (.reg [(0, .g)] .done)))))))))))) [] [] rfl
    (have f0 : q.wn ≤ 100000 := hl; have f1 : q.wn ≤ q.wc := hq.cap; Eq.mp (by kernel_rfl) (And.intro (sk trivial) (And.intro (sk (And.intro (And.intro trivial (@is_len Try.prog 25 5 (.tmp 6) (by kernel_rfl) q.wa q.wn q.wc)) (And.intro (And.intro trivial (@is_eqln Try.prog 3 3 (.tmp 7) (.const (.int .i64 0))  q.wn 0)) (sk trivial)))) (And.intro trivial (And.intro (fun (h1 : (decide (q.wn = 0)) = true) => have f2 : (q.wn = 0) := (of_decide_eq_true h1); And.intro (sk trivial) (And.intro trivial (@Exists.intro (List Nat) (fun (ns : List Nat) => ns.length = 0 ∧ ((int 3) : Value) = (fun (_ : List Nat) => int (wrE q.wf q.wn l)) ns ∧ ([] : List (Option Blk)) = (fun (_ : List Nat) => []) ns) [] (And.intro (@rfl Nat 0) (And.intro ((show (int 3) = int (wrE q.wf q.wn l) from congrArg int (by have hhh1 := h1; first | exact wr_3 (by omega) | exact wr_31s (by omega) (by omega) (by assumption) | exact wr_2 (by omega) (by omega) (wr_not (by assumption)) (by assumption) | exact wr_0 (by omega) (by omega) (wr_not (by assumption)) (by assumption)))) (@rfl (List (Option Blk)) [])))))) (fun (h1 : (decide (q.wn = 0)) = false) => have f2 : ¬ (q.wn = 0) := (of_decide_eq_false h1); And.intro (⟨(show 0 < q.wn from by omega), rfl⟩ : famB q (bytB q)) (And.intro (sk (And.intro (And.intro trivial (@is_ixSq Try.prog 25 5 (.tmp 10) (.const (.int .i64 0)) 1 (by kernel_rfl) (by kernel_rfl) q.wb q.wo q.wn q.wc 0 q.wa (hq.ad (show 0 < q.wn from by omega)) (show 0 < q.wn from by omega))) (And.intro (And.intro trivial (And.intro (show 0 < q.wn from by omega) (@rfl Value (ptr q.wb (q.wo + 0 * 1))))) (And.intro (And.intro trivial (@is_leq8 Try.prog 5 5 (.tmp 12) (.const (.int .u8 8)) (q.wf 0) 8)) (sk (And.intro (fun (hg : (sameB (decide ((q.wf 0).toNat ≤ 8)) true) = true) => t2) (And.intro (fun (hg : (sameB (decide ((q.wf 0).toNat ≤ 8)) true) = true) => have f3 : ((q.wf 0).toNat ≤ 8) := (of_decide_eq_true (sameB_t hg)); (And.intro (And.intro hg trivial) (@is_len Try.prog 25 5 (.tmp 15) (by kernel_rfl) q.wa q.wn q.wc))) (And.intro (fun (hg : (sameB (decide ((q.wf 0).toNat ≤ 8)) true) = true) => have f3 : ((q.wf 0).toNat ≤ 8) := (of_decide_eq_true (sameB_t hg)); (And.intro (And.intro hg trivial) (@is_subn Try.prog 3 3 (.tmp 16) (.const (.int .i64 1))  q.wn 1 (show 1 ≤ q.wn ∧ q.wn - 1 ≤ 9223372036854775807 from by omega)))) (And.intro (fun (hg : (sameB (decide ((q.wf 0).toNat ≤ 8)) true) = true) => t2) (And.intro (fun (hg : (sameB (decide ((q.wf 0).toNat ≤ 8)) true) = true) => have f3 : ((q.wf 0).toNat ≤ 8) := (of_decide_eq_true (sameB_t hg)); (And.intro (And.intro hg trivial) (@is_ixSq Try.prog 25 5 (.tmp 18) (.const (.int .i64 0)) 1 (by kernel_rfl) (by kernel_rfl) q.wb q.wo q.wn q.wc 0 q.wa (hq.ad (show 0 < q.wn from by omega)) (show 0 < q.wn from by omega)))) (And.intro (fun (hg : (sameB (decide ((q.wf 0).toNat ≤ 8)) true) = true) => have f3 : ((q.wf 0).toNat ≤ 8) := (of_decide_eq_true (sameB_t hg)); (And.intro (And.intro hg trivial) (And.intro (show 0 < q.wn from by omega) (@rfl Value (ptr q.wb (q.wo + 0 * 1)))))) (And.intro (fun (hg : (sameB (decide ((q.wf 0).toNat ≤ 8)) true) = true) => have f3 : ((q.wf 0).toNat ≤ 8) := (of_decide_eq_true (sameB_t hg)); (And.intro (And.intro hg trivial) (@conv_u8_int Try.prog 5 3 (.tmp 20) (by kernel_rfl) (by kernel_rfl) (q.wf 0)))) (And.intro (fun (hg : (sameB (decide ((q.wf 0).toNat ≤ 8)) true) = true) => (And.intro (And.intro hg (And.intro hg trivial)) (@is_lssn Try.prog 3 3 (.tmp 17) (.tmp 21)  (q.wn - 1) ((q.wf 0).toNat)))) (And.intro (And.intro trivial (And.intro (fun (hp : (decide ((q.wf 0).toNat ≤ 8)) = true) => (sameB_mk hp)) (fun (_ : (decide ((q.wf 0).toNat ≤ 8)) = false) => trivial))) (sk trivial))))))))))))))) (And.intro trivial (And.intro (fun (h2 : (selB (decide ((q.wf 0).toNat ≤ 8)) (decide ((q.wn - 1) < ((q.wf 0).toNat))) false) = true) => have f3 : ((q.wf 0).toNat ≤ 8) := (of_decide_eq_true (sband_l h2)); have f4 : ((q.wn - 1) < ((q.wf 0).toNat)) := (of_decide_eq_true (sband_r h2)); And.intro (sk trivial) (And.intro trivial (@Exists.intro (List Nat) (fun (ns : List Nat) => ns.length = 0 ∧ ((int 3) : Value) = (fun (_ : List Nat) => int (wrE q.wf q.wn l)) ns ∧ ([] : List (Option Blk)) = (fun (_ : List Nat) => []) ns) [] (And.intro (@rfl Nat 0) (And.intro ((show (int 3) = int (wrE q.wf q.wn l) from congrArg int (by have hhh1 := h1; have hhh2 := h2; first | exact wr_3 (by omega) | exact wr_31s (by omega) (by omega) (by assumption) | exact wr_2 (by omega) (by omega) (wr_not (by assumption)) (by assumption) | exact wr_0 (by omega) (by omega) (wr_not (by assumption)) (by assumption)))) (@rfl (List (Option Blk)) [])))))) (fun (h2 : (selB (decide ((q.wf 0).toNat ≤ 8)) (decide ((q.wn - 1) < ((q.wf 0).toNat))) false) = false) => have f3 : (¬ ((q.wf 0).toNat ≤ 8)) ∨ (¬ ((q.wn - 1) < ((q.wf 0).toNat))) := (Or.imp (fun h => (of_decide_eq_false h)) (fun h => (of_decide_eq_false h)) (sband_f h2)); And.intro (⟨(show 0 < q.wn from by omega), rfl⟩ : famB q (bytB q)) (And.intro (sk (And.intro (And.intro trivial (@is_ixSq Try.prog 25 5 (.tmp 25) (.const (.int .i64 0)) 1 (by kernel_rfl) (by kernel_rfl) q.wb q.wo q.wn q.wc 0 q.wa (hq.ad (show 0 < q.wn from by omega)) (show 0 < q.wn from by omega))) (And.intro (And.intro trivial (And.intro (show 0 < q.wn from by omega) (@rfl Value (ptr q.wb (q.wo + 0 * 1))))) (And.intro (And.intro trivial (@is_gtr8 Try.prog 5 5 (.tmp 27) (.const (.int .u8 8)) (q.wf 0) 8)) (sk (And.intro (fun (hg : (sameB (decide (8 < (q.wf 0).toNat)) false) = true) => t2) (And.intro (fun (hg : (sameB (decide (8 < (q.wf 0).toNat)) false) = true) => have f4 : ¬ (8 < (q.wf 0).toNat) := (of_decide_eq_false (sameB_f hg)); (And.intro (And.intro hg trivial) (@is_ixSq Try.prog 25 5 (.tmp 30) (.const (.int .i64 0)) 1 (by kernel_rfl) (by kernel_rfl) q.wb q.wo q.wn q.wc 0 q.wa (hq.ad (show 0 < q.wn from by omega)) (show 0 < q.wn from by omega)))) (And.intro (fun (hg : (sameB (decide (8 < (q.wf 0).toNat)) false) = true) => have f4 : ¬ (8 < (q.wf 0).toNat) := (of_decide_eq_false (sameB_f hg)); (And.intro (And.intro hg trivial) (And.intro (show 0 < q.wn from by omega) (@rfl Value (ptr q.wb (q.wo + 0 * 1)))))) (And.intro (fun (hg : (sameB (decide (8 < (q.wf 0).toNat)) false) = true) => (And.intro (And.intro hg trivial) (@is_gtr8 Try.prog 5 5 (.tmp 32) (.const (.int .u8 0)) (q.wf 0) 0))) (And.intro (fun (hg : (sameB (decide (8 < (q.wf 0).toNat)) false) = true) => (And.intro (And.intro hg trivial) trivial)) (And.intro (fun (hg : (selB (sameB (decide (8 < (q.wf 0).toNat)) false) (sameB (decide (0 < (q.wf 0).toNat)) true) false) = true) => t2) (And.intro (fun (hg : (selB (sameB (decide (8 < (q.wf 0).toNat)) false) (sameB (decide (0 < (q.wf 0).toNat)) true) false) = true) => have f4 : ¬ (8 < (q.wf 0).toNat) := (of_decide_eq_false (sameB_f (pickl hg))); have f5 : (0 < (q.wf 0).toNat) := (of_decide_eq_true (sameB_t (pickr hg))); (And.intro (And.intro hg trivial) (@is_ixSq Try.prog 25 5 (.tmp 35) (.const (.int .i64 1)) 1 (by kernel_rfl) (by kernel_rfl) q.wb q.wo q.wn q.wc 1 q.wa (hq.ad (show 0 < q.wn from by omega)) (show 1 < q.wn from by omega)))) (And.intro (fun (hg : (selB (sameB (decide (8 < (q.wf 0).toNat)) false) (sameB (decide (0 < (q.wf 0).toNat)) true) false) = true) => have f4 : ¬ (8 < (q.wf 0).toNat) := (of_decide_eq_false (sameB_f (pickl hg))); have f5 : (0 < (q.wf 0).toNat) := (of_decide_eq_true (sameB_t (pickr hg))); (And.intro (And.intro hg trivial) (And.intro (show 1 < q.wn from by omega) (@rfl Value (ptr q.wb (q.wo + 1 * 1)))))) (And.intro (fun (hg : (selB (sameB (decide (8 < (q.wf 0).toNat)) false) (sameB (decide (0 < (q.wf 0).toNat)) true) false) = true) => (And.intro (And.intro hg trivial) (@is_eql8 Try.prog 5 5 (.tmp 37) (.const (.int .u8 0)) (q.wf 1) 0))) (And.intro (fun (hg : (sameB (decide (8 < (q.wf 0).toNat)) false) = true) => (And.intro hg (And.intro (fun (hp : (decide (0 < (q.wf 0).toNat)) = true) => (pickm hg (sameB_mk hp))) (fun (_ : (decide (0 < (q.wf 0).toNat)) = false) => trivial)))) (And.intro (And.intro trivial (And.intro (fun (_ : (decide (8 < (q.wf 0).toNat)) = true) => trivial) (fun (hp : (decide (8 < (q.wf 0).toNat)) = false) => (sameB_mkf hp)))) (sk trivial))))))))))))))))) (And.intro trivial (And.intro (fun (h3 : (selB (decide (8 < (q.wf 0).toNat)) true (selB (decide (0 < (q.wf 0).toNat)) ((q.wf 1) == 0) false)) = true) => have f4 : (selB (decide (8 < (q.wf 0).toNat)) true (selB (decide (0 < (q.wf 0).toNat)) ((q.wf 1) == 0) false)) = true := h3; And.intro (sk trivial) (And.intro trivial (@Exists.intro (List Nat) (fun (ns : List Nat) => ns.length = 0 ∧ ((int 31) : Value) = (fun (_ : List Nat) => int (wrE q.wf q.wn l)) ns ∧ ([] : List (Option Blk)) = (fun (_ : List Nat) => []) ns) [] (And.intro (@rfl Nat 0) (And.intro ((show (int 31) = int (wrE q.wf q.wn l) from congrArg int (by have hhh1 := h1; have hhh2 := h2; have hhh3 := h3; first | exact wr_3 (by omega) | exact wr_31s (by omega) (by omega) (by assumption) | exact wr_2 (by omega) (by omega) (wr_not (by assumption)) (by assumption) | exact wr_0 (by omega) (by omega) (wr_not (by assumption)) (by assumption)))) (@rfl (List (Option Blk)) [])))))) (fun (h3 : (selB (decide (8 < (q.wf 0).toNat)) true (selB (decide (0 < (q.wf 0).toNat)) ((q.wf 1) == 0) false)) = false) => have f4 : ¬ (8 < (q.wf 0).toNat) := (of_decide_eq_false (sbor_l h3)); have f5 : (¬ (0 < (q.wf 0).toNat)) ∨ (((q.wf 1) == 0) = false) := (Or.imp (fun h => (of_decide_eq_false h)) (fun h => h) (sband_f (sbor_r h3))); And.intro (sk (And.intro (And.intro trivial (small_fam q hq (show q.wn ≤ 100000 from by omega) (show 0 < q.wn from by omega) (show (q.wf 0).toNat ≤ 8 from by omega) (show (q.wf 0).toNat + 1 ≤ q.wn from by omega))) (sk (And.intro (And.intro trivial (@is_gtr64 Try.prog 31 31 (.tmp 43) (.tmp 44) (smV q.wf) l)) (sk trivial))))) (And.intro trivial (And.intro (fun (h4 : (decide (l < (smV q.wf))) = true) => have f6 : (l < (smV q.wf)) := (of_decide_eq_true h4); And.intro (sk trivial) (And.intro trivial (@Exists.intro (List Nat) (fun (ns : List Nat) => ns.length = 0 ∧ ((int 2) : Value) = (fun (_ : List Nat) => int (wrE q.wf q.wn l)) ns ∧ ([] : List (Option Blk)) = (fun (_ : List Nat) => []) ns) [] (And.intro (@rfl Nat 0) (And.intro ((show (int 2) = int (wrE q.wf q.wn l) from congrArg int (by have hhh1 := h1; have hhh2 := h2; have hhh3 := h3; have hhh4 := h4; first | exact wr_3 (by omega) | exact wr_31s (by omega) (by omega) (by assumption) | exact wr_2 (by omega) (by omega) (wr_not (by assumption)) (by assumption) | exact wr_0 (by omega) (by omega) (wr_not (by assumption)) (by assumption)))) (@rfl (List (Option Blk)) [])))))) (fun (h4 : (decide (l < (smV q.wf))) = false) => have f6 : ¬ (l < (smV q.wf)) := (of_decide_eq_false h4); And.intro (sk trivial) (And.intro trivial (@Exists.intro (List Nat) (fun (ns : List Nat) => ns.length = 0 ∧ ((int 0) : Value) = (fun (_ : List Nat) => int (wrE q.wf q.wn l)) ns ∧ ([] : List (Option Blk)) = (fun (_ : List Nat) => []) ns) [] (And.intro (@rfl Nat 0) (And.intro ((show (int 0) = int (wrE q.wf q.wn l) from congrArg int (by have hhh1 := h1; have hhh2 := h2; have hhh3 := h3; have hhh4 := h4; first | exact wr_3 (by omega) | exact wr_31s (by omega) (by omega) (by assumption) | exact wr_2 (by omega) (by omega) (wr_not (by assumption)) (by assumption) | exact wr_0 (by omega) (by omega) (wr_not (by assumption)) (by assumption)))) (@rfl (List (Option Blk)) []))))))))))))))))))))))
theorem fail_runs (r : Nat) (V : Value) (e e2 : Int) : Runs Try.prog 29 [(ptr r 0), (int e2)] [⟨r, true, 0, (.lit [V, (int e)])⟩] 0 (fun (_ : List Nat) => Value.tuple #[]) (fun (_ : List Nat) => [some ⟨r, true, 0, (.lit [V, (int (failE e e2))])⟩]) :=
  runs_of_ev mix Try.func29 rfl rfl 400 (.reg [(0, .g), (1, .g), (2, .g), (3, (.ld 0 (.lit 1))), (4, .g)] (.br (.reg [(0, .g), (1, .g), (2, .g), (3, .g), (4, (.st 0 (.lit 1)))] .done) .done)) [] [] rfl
    (Eq.mp (by kernel_rfl) (And.intro (sk (sk (sk (And.intro (And.intro trivial (ad r 1)) (sk trivial))))) (And.intro trivial (And.intro (fun (h1 : ((e : Int) == 0) = true) => have f0 : ((e : Int) == 0) = true := h1; And.intro (sk (sk (sk (sk (And.intro (And.intro trivial (ad r 1)) trivial))))) (And.intro trivial (@Exists.intro (List Nat) (fun (ns : List Nat) => ns.length = 0 ∧ ((Value.tuple #[]) : Value) = (fun (_ : List Nat) => Value.tuple #[]) ns ∧ ([some ⟨r, true, 0, (.lit [V, (int e2)])⟩] : List (Option Blk)) = (fun (_ : List Nat) => [some ⟨r, true, 0, (.lit [V, (int (failE e e2))])⟩]) ns) [] (And.intro (@rfl Nat 0) (And.intro (@rfl Value (Value.tuple #[])) ((show ([some ⟨r, true, 0, (.lit [V, (int e2)])⟩] : List (Option Blk)) = [some ⟨r, true, 0, (.lit [V, (int (failE e e2))])⟩] from by have hhh1 := h1; have hxh1 := (by simpa using h1 : _); unfold failE; first | rw [if_pos (by assumption)] | rw [if_neg (by assumption)]))))))) (fun (h1 : ((e : Int) == 0) = false) => have f0 : ((e : Int) == 0) = false := h1; And.intro trivial (@Exists.intro (List Nat) (fun (ns : List Nat) => ns.length = 0 ∧ ((Value.tuple #[]) : Value) = (fun (_ : List Nat) => Value.tuple #[]) ns ∧ ([some ⟨r, true, 0, (.lit [V, (int e)])⟩] : List (Option Blk)) = (fun (_ : List Nat) => [some ⟨r, true, 0, (.lit [V, (int (failE e e2))])⟩]) ns) [] (And.intro (@rfl Nat 0) (And.intro (@rfl Value (Value.tuple #[])) ((show ([some ⟨r, true, 0, (.lit [V, (int e)])⟩] : List (Option Blk)) = [some ⟨r, true, 0, (.lit [V, (int (failE e e2))])⟩] from by have hhh1 := h1; have hxh1 := (by simpa using h1 : _); unfold failE; first | rw [if_pos (by assumption)] | rw [if_neg (by assumption)]))))))))))
theorem rsmall_fam (r : Nat) (q : BytL) (e : Int) (l : UInt64) (hq : OkB q) (hl : q.wn ≤ 100000) : RunsF (famB q) Try.prog 13 [(ptr r 0), (u64 l)] [⟨r, true, 0, (.lit [(Value.slice q.wa q.wn q.wc), (int e)])⟩] 0 (fun (_ : List Nat) => u64 (rsV q e l)) (fun (_ : List Nat) => [some ⟨r, true, 0, (.lit [(slqV (rsQ q e l)), (int (rsE q e l))])⟩]) :=
  runsF_of_ev (F := (famB q)) mix Try.func13 rfl rfl 400 (.reg [(0, .g)] (.reg [(0, .g), (1, .g), (2, .g), (3, .g), (4, (.ld 0 (.lit 0))), (5, .g), (6, (.callF [] 0 0 (fun _ => (int (wrE q.wf q.wn l))) (fun _ => []))), (7, (.call [(0, false)] 0 0 (fun _ => (Value.tuple #[])) (fun _ => [some ⟨r, true, 0, (.lit [(Value.slice q.wa q.wn q.wc), (int (failE e (wrE q.wf q.wn l)))])⟩])))] (.reg [(0, .g), (1, .g), (2, .g), (3, (.ld 0 (.lit 1))), (4, .g)] (.br (.reg [(0, .g)] .done) (.reg [(0, .g), (1, .g), (2, .g), (3, (.ld 0 (.lit 0))), (4, (.callF [] 0 0 (fun _ => (u64 (smV q.wf))) (fun _ => []))), (5, .g)] (.openr (bytB q) (.reg [(0, .g), (1, .g), (2, .g), (3, .g), (4, (.ld 0 (.lit 0))), (5, .g), (6, .g), (7, .g), (8, (.ld 0 (.lit 0))), (9, (.as (ptr q.wb (q.wo + 0 * 1)))), (10, (.ld 1 (.tab 0 0))), (11, (.as (u8 (1 + (q.wf 0))))), (12, (.as (Value.slice (fromA q.wa q.wc ((1 + (q.wf 0)).toNat) 1) (q.wn - ((1 + (q.wf 0)).toNat)) (q.wc - ((1 + (q.wf 0)).toNat))))), (13, .g), (14, .g), (15, (.st 0 (.lit 0)))] (.reg [(0, .g), (1, .g)] .done)))))))) [] [] rfl
    (have f0 : q.wn ≤ 100000 := hl; have f1 : q.wn ≤ q.wc := hq.cap; Eq.mp (by kernel_rfl) (And.intro (sk trivial) (And.intro (sk (sk (sk (sk (And.intro (And.intro trivial (ad r 0)) (sk (And.intro (And.intro trivial (wrong_fam q l hq (show q.wn ≤ 100000 from by omega))) (And.intro (And.intro trivial (Runs.dark [false] (fail_runs r (Value.slice q.wa q.wn q.wc) e (wrE q.wf q.wn l)))) trivial)))))))) (And.intro (sk (sk (sk (And.intro (And.intro trivial (ad r 1)) (sk trivial))))) (And.intro trivial (And.intro (fun (h1 : (((failE e (wrE q.wf q.wn l)) : Int) != 0) = true) => have f2 : (((failE e (wrE q.wf q.wn l)) : Int) != 0) = true := h1; And.intro (sk trivial) (And.intro trivial (@Exists.intro (List Nat) (fun (ns : List Nat) => ns.length = 0 ∧ ((u64 0) : Value) = (fun (_ : List Nat) => u64 (rsV q e l)) ns ∧ ([some ⟨r, true, 0, (.lit [(Value.slice q.wa q.wn q.wc), (int (failE e (wrE q.wf q.wn l)))])⟩] : List (Option Blk)) = (fun (_ : List Nat) => [some ⟨r, true, 0, (.lit [(slqV (rsQ q e l)), (int (rsE q e l))])⟩]) ns) [] (And.intro (@rfl Nat 0) (And.intro ((show (u64 0) = u64 (rsV q e l) from congrArg u64 (by have hh := h1; rw [(rs_out (q := q) (e := e) (l := l) (by have h5 := hh; simp at h5; exact h5)).2]))) ((show ([some ⟨r, true, 0, (.lit [(Value.slice q.wa q.wn q.wc), (int (failE e (wrE q.wf q.wn l)))])⟩] : List (Option Blk)) = [some ⟨r, true, 0, (.lit [(slqV (rsQ q e l)), (int (rsE q e l))])⟩] from by have hh := h1; rw [(rs_out (q := q) (e := e) (l := l) (by have h5 := hh; simp at h5; exact h5)).1] <;> rfl))))))) (fun (h1 : (((failE e (wrE q.wf q.wn l)) : Int) != 0) = false) => have f2 : (((failE e (wrE q.wf q.wn l)) : Int) != 0) = false := h1; And.intro (sk (sk (sk (And.intro (And.intro trivial (ad r 0)) (And.intro (And.intro trivial (small_fam q hq (show q.wn ≤ 100000 from by have g0 := (rs_zero (q := q) (e := e) (l := l) (by have h5 := h1; simp at h5; exact h5)); omega) (show 0 < q.wn from by have g0 := (rs_zero (q := q) (e := e) (l := l) (by have h5 := h1; simp at h5; exact h5)); omega) (show (q.wf 0).toNat ≤ 8 from by have g0 := (rs_zero (q := q) (e := e) (l := l) (by have h5 := h1; simp at h5; exact h5)); omega) (show (q.wf 0).toNat + 1 ≤ q.wn from by have g0 := (rs_zero (q := q) (e := e) (l := l) (by have h5 := h1; simp at h5; exact h5)); omega))) (sk trivial)))))) (And.intro (⟨(show 0 < q.wn from by have g0 := (rs_zero (q := q) (e := e) (l := l) (by have h5 := h1; simp at h5; exact h5)); omega), rfl⟩ : famB q (bytB q)) (And.intro (sk (sk (sk (sk (And.intro (And.intro trivial (ad r 0)) (sk (sk (sk (And.intro (And.intro trivial (ad r 0)) (And.intro (And.intro trivial (@is_ixSq Try.prog 25 5 (.tmp 32) (.const (.int .i64 0)) 1 (by kernel_rfl) (by kernel_rfl) q.wb q.wo q.wn q.wc 0 q.wa (hq.ad (show 0 < q.wn from by have g0 := (rs_zero (q := q) (e := e) (l := l) (by have h5 := h1; simp at h5; exact h5)); omega)) (show 0 < q.wn from by have g0 := (rs_zero (q := q) (e := e) (l := l) (by have h5 := h1; simp at h5; exact h5)); omega))) (And.intro (And.intro trivial (And.intro (show 0 < q.wn from by have g0 := (rs_zero (q := q) (e := e) (l := l) (by have h5 := h1; simp at h5; exact h5)); omega) (@rfl Value (ptr q.wb (q.wo + 0 * 1))))) (And.intro (And.intro trivial (@is_add8 Try.prog 5 5 (.const (.int .u8 1)) (.tmp 34) 1 (q.wf 0))) (And.intro (And.intro trivial (is_slqFromK (P := Try.prog) (t := 25) (e := 5) (x := (.tmp 28)) (y := (.tmp 35)) (by kernel_rfl) (sz := 1) (by kernel_rfl) .u8 q.wa q.wn q.wc ((1 + (q.wf 0)).toNat) (show (1 + (q.wf 0)).toNat ≤ q.wn ∧ q.wn ≤ q.wc from by have g0 := (rs_zero (q := q) (e := e) (l := l) (by have h5 := h1; simp at h5; exact h5)); omega))) (sk (sk (And.intro (And.intro trivial (ad r 0)) trivial)))))))))))))))) (And.intro (sk (sk trivial)) (And.intro trivial (@Exists.intro (List Nat) (fun (ns : List Nat) => ns.length = 0 ∧ ((u64 (smV q.wf)) : Value) = (fun (_ : List Nat) => u64 (rsV q e l)) ns ∧ ([some ⟨r, true, 0, (.lit [(Value.slice (fromA q.wa q.wc ((1 + (q.wf 0)).toNat) 1) (q.wn - ((1 + (q.wf 0)).toNat)) (q.wc - ((1 + (q.wf 0)).toNat))), (int (failE e (wrE q.wf q.wn l)))])⟩] : List (Option Blk)) = (fun (_ : List Nat) => [some ⟨r, true, 0, (.lit [(slqV (rsQ q e l)), (int (rsE q e l))])⟩]) ns) [] (And.intro (@rfl Nat 0) (And.intro ((show (u64 (smV q.wf)) = u64 (rsV q e l) from congrArg u64 (by have hh := h1; rw [(rs_in (q := q) (e := e) (l := l) (by have h5 := hh; simp at h5; exact h5)).2]))) ((show ([some ⟨r, true, 0, (.lit [(Value.slice (fromA q.wa q.wc ((1 + (q.wf 0)).toNat) 1) (q.wn - ((1 + (q.wf 0)).toNat)) (q.wc - ((1 + (q.wf 0)).toNat))), (int (failE e (wrE q.wf q.wn l)))])⟩] : List (Option Blk)) = [some ⟨r, true, 0, (.lit [(slqV (rsQ q e l)), (int (rsE q e l))])⟩] from by have hh := h1; rw [(rs_in (q := q) (e := e) (l := l) (by have h5 := hh; simp at h5; exact h5)).1] <;> rfl))))))))))))))))
theorem rend_runs (r : Nat) (q : BytL) (e : Int) : Runs Try.prog 18 [(ptr r 0)] [⟨r, false, 0, (.lit [(Value.slice q.wa q.wn q.wc), (int e)])⟩] 0 (fun (_ : List Nat) => int (endE q.wn e)) (fun (_ : List Nat) => [some ⟨r, false, 0, (.lit [(Value.slice q.wa q.wn q.wc), (int e)])⟩]) :=
  runs_of_ev mix Try.func18 rfl rfl 400 (.reg [(0, .g)] (.reg [(0, .g), (1, .g), (2, .g), (3, (.ld 0 (.lit 1))), (4, .g), (5, .g), (6, .opt .g), (7, .opt .g), (8, .opt .g), (9, .opt (.ld 0 (.lit 0))), (10, .opt (.as (nat q.wn))), (11, .opt (.as (Value.bool (decide (0 < q.wn))))), (12, .pk)] (.br (.reg [(0, .g)] .done) (.reg [(0, .g), (1, .g), (2, .g), (3, (.ld 0 (.lit 1))), (4, .g)] .done)))) [] [] rfl
    (Eq.mp (by kernel_rfl) (And.intro (sk trivial) (And.intro (sk (sk (sk (And.intro (And.intro trivial (ad r 1)) (sk (sk (And.intro (fun (hg : (sameB ((e : Int) == 0) true) = true) => t2) (And.intro (fun (hg : (sameB ((e : Int) == 0) true) = true) => (And.intro (And.intro hg trivial) trivial)) (And.intro (fun (hg : (sameB ((e : Int) == 0) true) = true) => (And.intro (And.intro hg trivial) trivial)) (And.intro (fun (hg : (sameB ((e : Int) == 0) true) = true) => (And.intro (And.intro hg trivial) (ad r 0))) (And.intro (fun (hg : (sameB ((e : Int) == 0) true) = true) => have f0 : ((e : Int) == 0) = true := (sameB_t hg); (And.intro (And.intro hg trivial) (@is_len Try.prog 25 5 (.tmp 12) (by kernel_rfl) q.wa q.wn q.wc))) (And.intro (fun (hg : (sameB ((e : Int) == 0) true) = true) => (And.intro (And.intro hg trivial) (@is_gtrn Try.prog 3 3 (.tmp 13) (.const (.int .i64 0))  q.wn 0))) (And.intro (And.intro trivial (And.intro (fun (hp : ((e : Int) == 0) = true) => (sameB_mk hp)) (fun (_ : ((e : Int) == 0) = false) => trivial))) trivial))))))))))))) (And.intro trivial (And.intro (fun (h1 : (selB ((e : Int) == 0) (decide (0 < q.wn)) false) = true) => have f0 : ((e : Int) == 0) = true := (sband_l h1); have f1 : (0 < q.wn) := (of_decide_eq_true (sband_r h1)); And.intro (sk trivial) (And.intro trivial (@Exists.intro (List Nat) (fun (ns : List Nat) => ns.length = 0 ∧ ((int 30) : Value) = (fun (_ : List Nat) => int (endE q.wn e)) ns ∧ ([some ⟨r, false, 0, (.lit [(Value.slice q.wa q.wn q.wc), (int e)])⟩] : List (Option Blk)) = (fun (_ : List Nat) => [some ⟨r, false, 0, (.lit [(Value.slice q.wa q.wn q.wc), (int e)])⟩]) ns) [] (And.intro (@rfl Nat 0) (And.intro ((show (int 30) = int (endE q.wn e) from congrArg int (by have hhh1 := (by simpa [selB_and] using h1 : _); unfold endE; first | rw [if_pos (by omega)] | rw [if_neg (by omega)]))) (@rfl (List (Option Blk)) [some ⟨r, false, 0, (.lit [(Value.slice q.wa q.wn q.wc), (int e)])⟩])))))) (fun (h1 : (selB ((e : Int) == 0) (decide (0 < q.wn)) false) = false) => have f0 : (((e : Int) == 0) = false) ∨ (¬ (0 < q.wn)) := (Or.imp (fun h => h) (fun h => (of_decide_eq_false h)) (sband_f h1)); And.intro (sk (sk (sk (And.intro (And.intro trivial (ad r 1)) (sk trivial))))) (And.intro trivial (@Exists.intro (List Nat) (fun (ns : List Nat) => ns.length = 0 ∧ ((int e) : Value) = (fun (_ : List Nat) => int (endE q.wn e)) ns ∧ ([some ⟨r, false, 0, (.lit [(Value.slice q.wa q.wn q.wc), (int e)])⟩] : List (Option Blk)) = (fun (_ : List Nat) => [some ⟨r, false, 0, (.lit [(Value.slice q.wa q.wn q.wc), (int e)])⟩]) ns) [] (And.intro (@rfl Nat 0) (And.intro ((show (int e) = int (endE q.wn e) from congrArg int (by have hhh1 := (by simpa [selB_and] using h1 : _); unfold endE; first | rw [if_pos (by omega)] | rw [if_neg (by omega)]))) (@rfl (List (Option Blk)) [some ⟨r, false, 0, (.lit [(Value.slice q.wa q.wn q.wc), (int e)])⟩])))))))))))
theorem new_pos (q : BytL) (hq : OkB q) (h0 : 0 < q.wn) (hl : q.wn ≤ 140737488355328) : RunsF (famB q) Try.prog 12 [(Value.slice q.wa q.wn q.wc)] [] 3 (fun (ns : List Nat) => (ptr (ns.getD 0 0) 0)) (fun (ns : List Nat) => [some ⟨(ns.getD 0 0), true, 0, (.lit [(Value.slice (some ⟨(ns.getD 1 0), 0, none⟩) q.wn (q.wn + (ns.getD 2 0))), (int 0)])⟩, some ⟨(ns.getD 1 0), true, 0, (spr (q.wn + (ns.getD 2 0)) q.wn (fun k => u8 (q.wf k)) (u8 0))⟩]) :=
  runsF_of_ev (F := (famB q)) mix Try.func12 rfl rfl 400 (.reg [(0, .g)] (.regn [(0, .g), (1, (.callF [] 2 1 (fun ns => Value.slice (some ⟨(ns.getD 0 0), 0, none⟩) (q.wn) (q.wn + (ns.getD 1 0))) (fun ns => [some ⟨(ns.getD 0 0), true, 0, (spr (q.wn + (ns.getD 1 0)) q.wn (fun k => u8 (q.wf k)) (u8 0))⟩]))), (2, .g), (3, .new), (4, .g)] (more (fun n1 => more (fun n2 => more (fun n3 => fun _ => .done)))))) [] [1, 0] rfl
    (have f0 : q.wn ≤ 140737488355328 := hl; have f1 : 0 < q.wn := h0; Eq.mp (by kernel_rfl) (And.intro (sk trivial) (fun (n1 n2 n3 : Nat) => And.intro (sk (And.intro (And.intro trivial (RunsF.mono (fun x hx => hx) (clone_fam q hq (show 0 < q.wn from by omega) (show q.wn ≤ 140737488355328 from by omega)))) (sk (sk (sk trivial))))) (And.intro trivial (@Exists.intro (List Nat) (fun (ns : List Nat) => ns.length = 3 ∧ ((ptr n3 0) : Value) = (fun (ns : List Nat) => (ptr (ns.getD 0 0) 0)) ns ∧ ([some ⟨n3, true, 0, (.lit [(Value.slice (some ⟨n1, 0, none⟩) q.wn (q.wn + n2)), (int 0)])⟩, some ⟨n1, true, 0, (spr (q.wn + n2) q.wn (fun k => u8 (q.wf k)) (u8 0))⟩] : List (Option Blk)) = (fun (ns : List Nat) => [some ⟨(ns.getD 0 0), true, 0, (.lit [(Value.slice (some ⟨(ns.getD 1 0), 0, none⟩) q.wn (q.wn + (ns.getD 2 0))), (int 0)])⟩, some ⟨(ns.getD 1 0), true, 0, (spr (q.wn + (ns.getD 2 0)) q.wn (fun k => u8 (q.wf k)) (u8 0))⟩]) ns) [n3, n1, n2] (And.intro (@rfl Nat 3) (And.intro (@rfl Value (ptr n3 0)) (@rfl (List (Option Blk)) [some ⟨n3, true, 0, (.lit [(Value.slice (some ⟨n1, 0, none⟩) q.wn (q.wn + n2)), (int 0)])⟩, some ⟨n1, true, 0, (spr (q.wn + n2) q.wn (fun k => u8 (q.wf k)) (u8 0))⟩]))))))))
end Go.Proofs.Ytelpmalmknpogaa
end
section
namespace Go.Proofs.Ytelpmalmknpogaa
open Go Go.Eng
set_option linter.unusedVariables false
set_option linter.unusedSimpArgs false
set_option maxRecDepth 100000
set_option maxHeartbeats 1000000
def same_fam_S1 (x : BytL) (y : BytL) (x1 : Nat) : St := ⟨[(0, .v (Value.slice x.wa x.wn x.wc)), (1, .v (Value.slice y.wa y.wn y.wc)), (5, .v (nat x1))], [], 0⟩
def same_fam_R1 (x : BytL) (y : BytL) (x1 : Nat) : Prop := (x1 ≤ x.wn) ∧ (∀ k, k < x1 → x.wf k = y.wf k)
def same_fam_mu1 (x : BytL) (y : BytL) (x1 : Nat) : Nat := x.wn - x1
theorem same_fam (x y : BytL) (hx : OkB x) (hy : OkB y) : RunsF (famBB x y) Try.prog 11 [(Value.slice x.wa x.wn x.wc), (Value.slice y.wa y.wn y.wc)] [] 0 (fun (_ : List Nat) => Value.bool (sameS x.wf x.wn y.wf y.wn)) (fun (_ : List Nat) => []) :=
  runsF_of_ev (F := (famBB x y)) mix Try.func11 rfl rfl 400 (.reg [(0, .g)] (.reg [(0, .g), (1, (.as (nat x.wn))), (2, .g), (3, (.as (nat y.wn))), (4, (.as (Value.bool (!(decide (x.wn = y.wn))))))] (.br (.reg [(0, .g)] .done) (.reg [(0, .g)] (.inv [0, 1, 5] [] 0 (same_fam_R1 x y) (same_fam_S1 x y) (same_fam_mu1 x y) (0 : Nat) (fun (x1 : Nat) => (.reg [(0, .g), (1, .g), (2, (.as (nat x.wn))), (3, (.as (Value.bool (decide (x1 < x.wn)))))] (.br (.openr (bytB x) (.openr (bytB y) (.reg [(0, .g), (1, .g), (2, (.as (ptr x.wb (x.wo + x1 * 1)))), (3, (.ld 0 (.tab x1 0))), (4, .g), (5, .g), (6, (.as (ptr y.wb (y.wo + x1 * 1)))), (7, (.ld 1 (.tab x1 0))), (8, (.as (Value.bool (!((x.wf x1) == (y.wf x1))))))] (.br (.reg [(0, .g)] .done) (.reg [(0, .g), (1, (.as (nat (x1 + 1)))), (2, .g)] .done))))) (.reg [(0, .g)] .done))))))))) [] [] rfl
    (have f0 : x.wn ≤ 9223372036854775807 := hx.len; have f1 : y.wn ≤ 9223372036854775807 := hy.len; Eq.mp (by kernel_rfl) (And.intro (sk trivial) (And.intro (sk (And.intro (And.intro trivial (@is_len Try.prog 25 5 (.tmp 6) (by kernel_rfl) x.wa x.wn x.wc)) (sk (And.intro (And.intro trivial (@is_len Try.prog 25 5 (.tmp 8) (by kernel_rfl) y.wa y.wn y.wc)) (And.intro (And.intro trivial (@is_neqn Try.prog 3 3 (.tmp 7) (.tmp 9)  x.wn y.wn)) trivial))))) (And.intro trivial (And.intro (fun (h1 : (!(decide (x.wn = y.wn))) = true) => have f2 : ¬ (x.wn = y.wn) := (of_decide_eq_false (bnot_t h1)); And.intro (sk trivial) (And.intro trivial (@Exists.intro (List Nat) (fun (ns : List Nat) => ns.length = 0 ∧ ((Value.bool false) : Value) = (fun (_ : List Nat) => Value.bool (sameS x.wf x.wn y.wf y.wn)) ns ∧ ([] : List (Option Blk)) = (fun (_ : List Nat) => []) ns) [] (And.intro (@rfl Nat 0) (And.intro ((show (Value.bool false) = Value.bool (sameS x.wf x.wn y.wf y.wn) from congrArg Value.bool (by first | exact same_len (by omega) | exact same_not (by omega) (same_ne (by assumption))))) (@rfl (List (Option Blk)) [])))))) (fun (h1 : (!(decide (x.wn = y.wn))) = false) => have f2 : (x.wn = y.wn) := (of_decide_eq_true (bnot_f h1)); And.intro (sk trivial) (And.intro (show (same_fam_R1 x y) (0 : Nat) from (show (0 ≤ x.wn) ∧ (∀ k, k < 0 → x.wf k = y.wf k) from by exact ⟨by omega, fun k hk => absurd hk (by omega)⟩)) (And.intro (@rfl St ((same_fam_S1 x y) (0 : Nat))) (fun (x1 : Nat) (hx1 : (same_fam_R1 x y) x1) => have B0 : x1 ≤ x.wn := hx1.1; have B1 : ∀ k, k < x1 → x.wf k = y.wf k := hx1.2; And.intro (sk (sk (And.intro (And.intro trivial (@is_len Try.prog 25 5 (.tmp 12) (by kernel_rfl) x.wa x.wn x.wc)) (And.intro (And.intro trivial (@is_lssn Try.prog 3 3 (.tmp 11) (.tmp 13)  x1 x.wn)) trivial)))) (And.intro trivial (And.intro (fun (h2 : (decide (x1 < x.wn)) = true) => have f5 : (x1 < x.wn) := (of_decide_eq_true h2); And.intro (Or.inl ⟨(show 0 < x.wn from by omega), rfl⟩ : famBB x y (bytB x)) (And.intro (Or.inr ⟨(show 0 < y.wn from by omega), rfl⟩ : famBB x y (bytB y)) (And.intro (sk (sk (And.intro (And.intro trivial (@is_ixSq Try.prog 25 5 (.tmp 17) (.tmp 18) 1 (by kernel_rfl) (by kernel_rfl) x.wb x.wo x.wn x.wc x1 x.wa (hx.ad (show 0 < x.wn from by omega)) (show x1 < x.wn from by omega))) (And.intro (And.intro trivial (And.intro (show x1 < x.wn from by omega) (@rfl Value (ptr x.wb (x.wo + x1 * 1))))) (sk (sk (And.intro (And.intro trivial (@is_ixSq Try.prog 25 5 (.tmp 21) (.tmp 22) 1 (by kernel_rfl) (by kernel_rfl) y.wb y.wo y.wn y.wc x1 y.wa (hy.ad (show 0 < y.wn from by omega)) (show x1 < y.wn from by omega))) (And.intro (And.intro trivial (And.intro (show x1 < y.wn from by omega) (@rfl Value (ptr y.wb (y.wo + x1 * 1))))) (And.intro (And.intro trivial (@is_neq8 Try.prog 5 5 (.tmp 20) (.tmp 24) (x.wf x1) (y.wf x1))) trivial))))))))) (And.intro trivial (And.intro (fun (h3 : (!((x.wf x1) == (y.wf x1))) = true) => have f6 : ((x.wf x1) == (y.wf x1)) = false := (bnot_t h3); And.intro (sk trivial) (And.intro trivial (@Exists.intro (List Nat) (fun (ns : List Nat) => ns.length = 0 ∧ ((Value.bool false) : Value) = (fun (_ : List Nat) => Value.bool (sameS x.wf x.wn y.wf y.wn)) ns ∧ ([] : List (Option Blk)) = (fun (_ : List Nat) => []) ns) [] (And.intro (@rfl Nat 0) (And.intro ((show (Value.bool false) = Value.bool (sameS x.wf x.wn y.wf y.wn) from congrArg Value.bool (by first | exact same_len (by omega) | exact same_not (by omega) (same_ne (by assumption))))) (@rfl (List (Option Blk)) [])))))) (fun (h3 : (!((x.wf x1) == (y.wf x1))) = false) => have f6 : ((x.wf x1) == (y.wf x1)) = true := (bnot_f h3); And.intro (sk (And.intro (And.intro trivial (@is_addn Try.prog 3 3 (.tmp 15) (.const (.int .i64 1))  x1 1 (show x1 + 1 ≤ 9223372036854775807 from by omega))) (sk trivial))) ((rnd (same_fam_R1 x y) (same_fam_S1 x y) (same_fam_mu1 x y) x1 (x1 + 1 : Nat) (show (same_fam_R1 x y) (x1 + 1 : Nat) ∧ (same_fam_mu1 x y) (x1 + 1 : Nat) < (same_fam_mu1 x y) x1 from (show (((x1 + 1) ≤ x.wn) ∧ (∀ k, k < (x1 + 1) → x.wf k = y.wf k)) ∧ (x.wn - (x1 + 1)) < (x.wn - x1) from by exact ⟨⟨by omega, same_next B1 (by assumption)⟩, by omega⟩)))))))))) (fun (h2 : (decide (x1 < x.wn)) = false) => have f5 : ¬ (x1 < x.wn) := (of_decide_eq_false h2); And.intro (sk trivial) (And.intro trivial (@Exists.intro (List Nat) (fun (ns : List Nat) => ns.length = 0 ∧ ((Value.bool true) : Value) = (fun (_ : List Nat) => Value.bool (sameS x.wf x.wn y.wf y.wn)) ns ∧ ([] : List (Option Blk)) = (fun (_ : List Nat) => []) ns) [] (And.intro (@rfl Nat 0) (And.intro ((show (Value.bool true) = Value.bool (sameS x.wf x.wn y.wf y.wn) from congrArg Value.bool (by exact same_yes (by omega) (by omega) B1))) (@rfl (List (Option Blk)) [])))))))))))))))))
theorem awake_pure : Pure Try.prog 8 [] (Value.bool true) :=
  pure_of_ev mix Try.func8 rfl rfl 400 (.reg [(0, .g)] (.regn [(0, .g), (1, .new), (2, .g)] (more (fun n1 => fun _ => (.regn [(0, .g), (1, (.call [(0, false)] 2 1 (fun _ => Value.tuple #[]) (fun ns => [some ⟨n1, true, 0, .lit [(Value.slice (some ⟨(ns.getD 0 0), 0, none⟩) (smN 0) (smN 0 + (ns.getD 1 0)))]⟩, some ⟨(ns.getD 0 0), true, 0, (spr (smN 0 + (ns.getD 1 0)) (smN 0) (fun k => u8 (smB 0 k)) (u8 0))⟩])))] (more (fun n2 => more (fun n3 => fun _ => (.regn [(0, .g), (1, (.call [(0, false), (1, false)] 2 0 (fun _ => Value.tuple #[]) (fun ns => [some ⟨n1, true, 0, .lit [(Value.slice (some ⟨(ns.getD 0 0), 0, none⟩) ((smN 0) + smN 300) ((smN 0) + smN 300 + (ns.getD 1 0)))]⟩, some ⟨(ns.getD 0 0), true, 0, (spr ((smN 0) + smN 300 + (ns.getD 1 0)) ((smN 0) + smN 300) (fun k => u8 (catU (smB 0) (smN 0) (smB 300) k)) (u8 0))⟩])))] (more (fun n4 => more (fun n5 => fun _ => (.regn [(0, .g), (1, (.oth [] 1 1 (fun ns => Value.slice (some ⟨ns.getD 0 0, 0, none⟩) 1 1) (fun ns => [some ⟨ns.getD 0 0, true, 0, .lit [(u8 7)]⟩]))), (2, (.callF [(0, false), (1, false), (2, true)] 2 0 (fun _ => Value.tuple #[]) (fun ns => [some ⟨n1, true, 0, .lit [(Value.slice (some ⟨(ns.getD 0 0), 0, none⟩) (((smN 0) + smN 300) + byN 1) (((smN 0) + smN 300) + byN 1 + (ns.getD 1 0)))]⟩, some ⟨(ns.getD 0 0), true, 0, (spr (((smN 0) + smN 300) + byN 1 + (ns.getD 1 0)) (((smN 0) + smN 300) + byN 1) (fun k => u8 (catU (catU (smB 0) (smN 0) (smB 300)) ((smN 0) + smN 300) (byB (bytsOf [7]) 1) k)) (u8 0))⟩, none])))] (more (fun n6 => more (fun n7 => more (fun n8 => fun _ => (.regn [(0, .g), (1, (.call [(0, true), (1, true)] 2 1 (fun ns => Value.slice (some ⟨(ns.getD 0 0), 0, none⟩) (((smN 0) + smN 300) + byN 1) (((smN 0) + smN 300) + byN 1 + (ns.getD 1 0))) (fun ns => [none, none, some ⟨(ns.getD 0 0), true, 0, (spr (((smN 0) + smN 300) + byN 1 + (ns.getD 1 0)) (((smN 0) + smN 300) + byN 1) (fun k => u8 (catU (catU (smB 0) (smN 0) (smB 300)) ((smN 0) + smN 300) (byB (bytsOf [7]) 1) k)) (u8 0))⟩]))), (2, .g)] (more (fun n9 => more (fun n10 => fun _ => (.regn [(0, (.oth [] 1 1 (fun ns => Value.slice (some ⟨ns.getD 0 0, 0, none⟩) 2 2) (fun ns => [some ⟨ns.getD 0 0, true, 0, .lit [(u8 1), (u8 0)]⟩]))), (1, (.callF [(4, true)] 3 2 (fun ns => ptr (ns.getD 0 0) 0) (fun ns => [none, some ⟨(ns.getD 0 0), true, 0, (.lit [(Value.slice (some ⟨(ns.getD 1 0), 0, none⟩) 2 (2 + (ns.getD 2 0))), (int 0)])⟩, some ⟨(ns.getD 1 0), true, 0, (spr (2 + (ns.getD 2 0)) 2 (fun k => u8 ((bytsOf [1, 0]) k)) (u8 0))⟩]))), (2, .g)] (more (fun n11 => more (fun n12 => more (fun n13 => more (fun n14 => fun _ => (.regn [(0, (.oth [] 1 1 (fun ns => Value.slice (some ⟨ns.getD 0 0, 0, none⟩) 2 2) (fun ns => [some ⟨ns.getD 0 0, true, 0, .lit [(u8 1), (u8 9)]⟩]))), (1, (.callF [(7, true)] 3 2 (fun ns => ptr (ns.getD 0 0) 0) (fun ns => [none, some ⟨(ns.getD 0 0), true, 0, (.lit [(Value.slice (some ⟨(ns.getD 1 0), 0, none⟩) 2 (2 + (ns.getD 2 0))), (int 0)])⟩, some ⟨(ns.getD 1 0), true, 0, (spr (2 + (ns.getD 2 0)) 2 (fun k => u8 ((bytsOf [1, 9]) k)) (u8 0))⟩]))), (2, .g)] (more (fun n15 => more (fun n16 => more (fun n17 => more (fun n18 => fun _ => (.regn [(0, (.oth [] 1 1 (fun ns => Value.slice (some ⟨ns.getD 0 0, 0, none⟩) 2 2) (fun ns => [some ⟨ns.getD 0 0, true, 0, .lit [(u8 1), (u8 9)]⟩]))), (1, (.callF [(10, true)] 3 2 (fun ns => ptr (ns.getD 0 0) 0) (fun ns => [none, some ⟨(ns.getD 0 0), true, 0, (.lit [(Value.slice (some ⟨(ns.getD 1 0), 0, none⟩) 2 (2 + (ns.getD 2 0))), (int 0)])⟩, some ⟨(ns.getD 1 0), true, 0, (spr (2 + (ns.getD 2 0)) 2 (fun k => u8 ((bytsOf [1, 9]) k)) (u8 0))⟩]))), (2, .g)] (more (fun n19 => more (fun n20 => more (fun n21 => more (fun n22 => fun _ => (.reg [(0, .g), (1, .g), (2, .g), (3, .run .g), (4, .run .g), (5, .pk), (6, .g), (7, .run .g), (8, .run .g), (9, .pk)] (.no (.reg [(0, .g), (1, (.callF [(5, false), (6, true)] 0 0 (fun _ => (u64 (rsV (bytO n13 2 (2 + n14) (bytsOf [1, 0])) 0 9))) (fun _ => [some ⟨n12, true, 0, (.lit [(slqV (rsQ (bytO n13 2 (2 + n14) (bytsOf [1, 0])) 0 9)), (int (rsE (bytO n13 2 (2 + n14) (bytsOf [1, 0])) 0 9))])⟩, none])))] (.reg [(0, .g), (1, (.callF [(8, false), (9, true)] 0 0 (fun _ => (u64 (rsV (bytO n17 2 (2 + n18) (bytsOf [1, 9])) 0 8))) (fun _ => [some ⟨n16, true, 0, (.lit [(slqV (rsQ (bytO n17 2 (2 + n18) (bytsOf [1, 9])) 0 8)), (int (rsE (bytO n17 2 (2 + n18) (bytsOf [1, 9])) 0 8))])⟩, none])))] (.reg [(0, .g), (1, (.callF [(11, false), (12, true)] 0 0 (fun _ => (u64 (rsV (bytO n21 2 (2 + n22) (bytsOf [1, 9])) 0 9))) (fun _ => [some ⟨n20, true, 0, (.lit [(slqV (rsQ (bytO n21 2 (2 + n22) (bytsOf [1, 9])) 0 9)), (int (rsE (bytO n21 2 (2 + n22) (bytsOf [1, 9])) 0 9))])⟩, none]))), (2, .g)] (.reg [(0, .g), (1, (.call [(5, true)] 0 0 (fun _ => (int (endE (rsQ (bytO n13 2 (2 + n14) (bytsOf [1, 0])) 0 9).wn (rsE (bytO n13 2 (2 + n14) (bytsOf [1, 0])) 0 9)))) (fun _ => [none]))), (2, .g)] (.reg [(0, .g), (1, (.call [(8, true)] 0 0 (fun _ => (int (endE (rsQ (bytO n17 2 (2 + n18) (bytsOf [1, 9])) 0 8).wn (rsE (bytO n17 2 (2 + n18) (bytsOf [1, 9])) 0 8)))) (fun _ => [none]))), (2, .g)] (.reg [(0, .g), (1, (.call [(11, true)] 0 0 (fun _ => (int (endE (rsQ (bytO n21 2 (2 + n22) (bytsOf [1, 9])) 0 9).wn (rsE (bytO n21 2 (2 + n22) (bytsOf [1, 9])) 0 9)))) (fun _ => [none]))), (2, .g)] (.regn [(0, .g), (1, (.oth [] 1 1 (fun ns => Value.slice (some ⟨ns.getD 0 0, 0, none⟩) 7 7) (fun ns => [some ⟨ns.getD 0 0, true, 0, .lit [(u8 0), (u8 2), (u8 1), (u8 44), (u8 1), (u8 1), (u8 7)]⟩]))), (2, (.callF [(3, true), (13, true)] 0 0 (fun _ => (Value.bool (sameS (catU (catU (smB 0) (smN 0) (smB 300)) ((smN 0) + smN 300) (byB (bytsOf [7]) 1)) (((smN 0) + smN 300) + byN 1) (bytsOf [0, 2, 1, 44, 1, 1, 7]) 7))) (fun _ => [none, none]))), (3, .g), (4, .opt .g), (5, .opt .g), (6, .pk), (7, .g), (8, .opt .g), (9, .opt .g), (10, .pk), (11, .g), (12, .opt .g), (13, .opt (.as (Value.bool ((rsV (bytO n21 2 (2 + n22) (bytsOf [1, 9])) 0 9) == 9)))), (14, .pk), (15, .g), (16, .opt .g), (17, .opt .g), (18, .pk), (19, .g)] (more (fun n23 => fun _ => .done)))))))))))))))))))))))))))))))))))))))))))))))))) []
    (Eq.mp (by kernel_rfl) (And.intro (sk trivial) (fun (n1 : Nat) => And.intro (sk (sk (sk trivial))) (fun (n2 n3 : Nat) => And.intro (sk (And.intro (And.intro trivial (wsmall_nil n1 0)) trivial)) (fun (n4 n5 : Nat) => And.intro (sk (And.intro (And.intro trivial (wsmall_own n1 n2 (smN 0) n3 (smB 0) 300 (show smN 0 ≤ 100000 from by have := smN_rng  0; omega))) trivial)) (fun (n6 n7 n8 : Nat) => And.intro (sk (And.intro (And.intro trivial (mk_build (P := Try.prog) (t := 25) (e := 5) one5 1 #[(0, (u8 7))] #[(u8 7)] (by kernel_rfl) (by decide) (by kernel_rfl))) (And.intro (And.intro trivial (RunsF.lendG (F' := (fun _ => False)) (bs := [⟨n1, true, 0, (.lit [(Value.slice (some ⟨n4, 0, none⟩) ((smN 0) + smN 300) ((smN 0) + smN 300 + n5))])⟩, ⟨n4, true, 0, (spr ((smN 0) + smN 300 + n5) ((smN 0) + smN 300) (fun k => u8 (catU (smB 0) (smN 0) (smB 300) k)) (u8 0))⟩]) (cs := [⟨n6, false, 0, (.lit [(u8 7)])⟩]) (o := (fun ns => [some ⟨n1, true, 0, .lit [(Value.slice (some ⟨(ns.getD 0 0), 0, none⟩) (((smN 0) + smN 300) + byN 1) (((smN 0) + smN 300) + byN 1 + (ns.getD 1 0)))]⟩, some ⟨(ns.getD 0 0), true, 0, (spr (((smN 0) + smN 300) + byN 1 + (ns.getD 1 0)) (((smN 0) + smN 300) + byN 1) (fun k => u8 (catU (catU (smB 0) (smN 0) (smB 300)) ((smN 0) + smN 300) (byB (bytsOf [7]) 1) k)) (u8 0))⟩])) (nw := (fun ns => [])) (wbytes_own n1 n4 ((smN 0) + smN 300) n5 (catU (smB 0) (smN 0) (smB 300)) (bytO n6 1 1 (bytsOf [7])) (show (smN 0) + smN 300 ≤ 90000 from by have := smN_rng  0; have := smN_rng  300; omega) (okb_own (by decide) (by decide)) (show 1 ≤ 100000 from by omega)) (fun _ => rfl) (fun w hF hb => (holdb_own (holds_litB (hb _ (List.Mem.head _)) rfl))) (famB_name rfl) (by simp))) trivial))) (fun (n9 n10 : Nat) => And.intro (sk (And.intro (And.intro trivial (Runs.dark [true, true] (wout_own n1 n7 (((smN 0) + smN 300) + byN 1) n8 (catU (catU (smB 0) (smN 0) (smB 300)) ((smN 0) + smN 300) (byB (bytsOf [7]) 1)) (show 0 < ((smN 0) + smN 300) + byN 1 from by have := smN_rng  0; have := smN_rng  300; have := byN_rng  1; omega) (show ((smN 0) + smN 300) + byN 1 ≤ 100000 from by have := smN_rng  0; have := smN_rng  300; have := byN_rng  1; omega)))) (sk trivial))) (fun (n11 n12 n13 n14 : Nat) => And.intro (And.intro (And.intro trivial (mk_build (P := Try.prog) (t := 25) (e := 5) one5 2 #[(0, (u8 1)), (1, (u8 0))] #[(u8 1), (u8 0)] (by kernel_rfl) (by decide) (by kernel_rfl))) (And.intro (And.intro trivial (RunsF.lendG (F' := (fun _ => False)) (bs := []) (cs := [⟨n11, false, 0, (.lit [(u8 1), (u8 0)])⟩]) (o := fun _ => []) (nw := (fun ns => [some ⟨(ns.getD 0 0), true, 0, (.lit [(Value.slice (some ⟨(ns.getD 1 0), 0, none⟩) 2 (2 + (ns.getD 2 0))), (int 0)])⟩, some ⟨(ns.getD 1 0), true, 0, (spr (2 + (ns.getD 2 0)) 2 (fun k => u8 ((bytsOf [1, 0]) k)) (u8 0))⟩])) (new_pos (bytO n11 2 2 (bytsOf [1, 0])) (okb_own (by decide) (by decide)) (show 0 < 2 from by omega) (show 2 ≤ 140737488355328 from by omega)) (fun _ => rfl) (fun w hF hb => (holdb_own (holds_litB (hb _ (List.Mem.head _)) rfl))) (famB_name rfl) (by simp))) (sk trivial))) (fun (n15 n16 n17 n18 : Nat) => And.intro (And.intro (And.intro trivial (mk_build (P := Try.prog) (t := 25) (e := 5) one5 2 #[(0, (u8 1)), (1, (u8 9))] #[(u8 1), (u8 9)] (by kernel_rfl) (by decide) (by kernel_rfl))) (And.intro (And.intro trivial (RunsF.lendG (F' := (fun _ => False)) (bs := []) (cs := [⟨n15, false, 0, (.lit [(u8 1), (u8 9)])⟩]) (o := fun _ => []) (nw := (fun ns => [some ⟨(ns.getD 0 0), true, 0, (.lit [(Value.slice (some ⟨(ns.getD 1 0), 0, none⟩) 2 (2 + (ns.getD 2 0))), (int 0)])⟩, some ⟨(ns.getD 1 0), true, 0, (spr (2 + (ns.getD 2 0)) 2 (fun k => u8 ((bytsOf [1, 9]) k)) (u8 0))⟩])) (new_pos (bytO n15 2 2 (bytsOf [1, 9])) (okb_own (by decide) (by decide)) (show 0 < 2 from by omega) (show 2 ≤ 140737488355328 from by omega)) (fun _ => rfl) (fun w hF hb => (holdb_own (holds_litB (hb _ (List.Mem.head _)) rfl))) (famB_name rfl) (by simp))) (sk trivial))) (fun (n19 n20 n21 n22 : Nat) => And.intro (And.intro (And.intro trivial (mk_build (P := Try.prog) (t := 25) (e := 5) one5 2 #[(0, (u8 1)), (1, (u8 9))] #[(u8 1), (u8 9)] (by kernel_rfl) (by decide) (by kernel_rfl))) (And.intro (And.intro trivial (RunsF.lendG (F' := (fun _ => False)) (bs := []) (cs := [⟨n19, false, 0, (.lit [(u8 1), (u8 9)])⟩]) (o := fun _ => []) (nw := (fun ns => [some ⟨(ns.getD 0 0), true, 0, (.lit [(Value.slice (some ⟨(ns.getD 1 0), 0, none⟩) 2 (2 + (ns.getD 2 0))), (int 0)])⟩, some ⟨(ns.getD 1 0), true, 0, (spr (2 + (ns.getD 2 0)) 2 (fun k => u8 ((bytsOf [1, 9]) k)) (u8 0))⟩])) (new_pos (bytO n19 2 2 (bytsOf [1, 9])) (okb_own (by decide) (by decide)) (show 0 < 2 from by omega) (show 2 ≤ 140737488355328 from by omega)) (fun _ => rfl) (fun w hF hb => (holdb_own (holds_litB (hb _ (List.Mem.head _)) rfl))) (famB_name rfl) (by simp))) (sk trivial))) (And.intro (sk (sk (sk (And.intro (And.intro (@rfl Bool true) t2) (And.intro (And.intro (@rfl Bool true) t2) (And.intro (And.intro trivial (And.intro (fun (_ : false = true) => trivial) (fun (_ : false = false) => trivial))) (sk (And.intro (And.intro (@rfl Bool true) t2) (And.intro (And.intro (@rfl Bool true) t2) (And.intro (And.intro trivial (And.intro (fun (_ : false = true) => trivial) (fun (_ : false = false) => trivial))) trivial)))))))))) (And.intro trivial (And.intro (@rfl Bool false) (And.intro (sk (And.intro (And.intro trivial (RunsF.lendG (F' := (fun _ => False)) (bs := [⟨n12, true, 0, (.lit [(Value.slice (some ⟨n13, 0, none⟩) 2 (2 + n14)), (int 0)])⟩]) (cs := [⟨n13, false, 0, (spr (2 + n14) 2 (fun k => u8 (bytsOf [1, 0] k)) (u8 0))⟩]) (o := (fun _ => [some ⟨n12, true, 0, (.lit [(slqV (rsQ (bytO n13 2 (2 + n14) (bytsOf [1, 0])) 0 9)), (int (rsE (bytO n13 2 (2 + n14) (bytsOf [1, 0])) 0 9))])⟩])) (nw := fun _ => []) (rsmall_fam n12 (bytO n13 2 (2 + n14) (bytsOf [1, 0])) 0 9 (okb_own (show 2 ≤ 2 + n14 from by omega) (show 2 ≤ 9223372036854775807 from by omega)) (show 2 ≤ 100000 from by omega)) (fun _ => rfl) (fun w hF hb => (holdb_ownT (show 2 ≤ 2 from by omega) (hb _ (List.Mem.head _)))) (famB_name rfl) (by simp))) trivial)) (And.intro (sk (And.intro (And.intro trivial (RunsF.lendG (F' := (fun _ => False)) (bs := [⟨n16, true, 0, (.lit [(Value.slice (some ⟨n17, 0, none⟩) 2 (2 + n18)), (int 0)])⟩]) (cs := [⟨n17, false, 0, (spr (2 + n18) 2 (fun k => u8 (bytsOf [1, 9] k)) (u8 0))⟩]) (o := (fun _ => [some ⟨n16, true, 0, (.lit [(slqV (rsQ (bytO n17 2 (2 + n18) (bytsOf [1, 9])) 0 8)), (int (rsE (bytO n17 2 (2 + n18) (bytsOf [1, 9])) 0 8))])⟩])) (nw := fun _ => []) (rsmall_fam n16 (bytO n17 2 (2 + n18) (bytsOf [1, 9])) 0 8 (okb_own (show 2 ≤ 2 + n18 from by omega) (show 2 ≤ 9223372036854775807 from by omega)) (show 2 ≤ 100000 from by omega)) (fun _ => rfl) (fun w hF hb => (holdb_ownT (show 2 ≤ 2 from by omega) (hb _ (List.Mem.head _)))) (famB_name rfl) (by simp))) trivial)) (And.intro (sk (And.intro (And.intro trivial (RunsF.lendG (F' := (fun _ => False)) (bs := [⟨n20, true, 0, (.lit [(Value.slice (some ⟨n21, 0, none⟩) 2 (2 + n22)), (int 0)])⟩]) (cs := [⟨n21, false, 0, (spr (2 + n22) 2 (fun k => u8 (bytsOf [1, 9] k)) (u8 0))⟩]) (o := (fun _ => [some ⟨n20, true, 0, (.lit [(slqV (rsQ (bytO n21 2 (2 + n22) (bytsOf [1, 9])) 0 9)), (int (rsE (bytO n21 2 (2 + n22) (bytsOf [1, 9])) 0 9))])⟩])) (nw := fun _ => []) (rsmall_fam n20 (bytO n21 2 (2 + n22) (bytsOf [1, 9])) 0 9 (okb_own (show 2 ≤ 2 + n22 from by omega) (show 2 ≤ 9223372036854775807 from by omega)) (show 2 ≤ 100000 from by omega)) (fun _ => rfl) (fun w hF hb => (holdb_ownT (show 2 ≤ 2 from by omega) (hb _ (List.Mem.head _)))) (famB_name rfl) (by simp))) (sk trivial))) (And.intro (sk (And.intro (And.intro trivial (Runs.dark [true] (rend_runs n12 (rsQ (bytO n13 2 (2 + n14) (bytsOf [1, 0])) 0 9) (rsE (bytO n13 2 (2 + n14) (bytsOf [1, 0])) 0 9)))) (sk trivial))) (And.intro (sk (And.intro (And.intro trivial (Runs.dark [true] (rend_runs n16 (rsQ (bytO n17 2 (2 + n18) (bytsOf [1, 9])) 0 8) (rsE (bytO n17 2 (2 + n18) (bytsOf [1, 9])) 0 8)))) (sk trivial))) (And.intro (sk (And.intro (And.intro trivial (Runs.dark [true] (rend_runs n20 (rsQ (bytO n21 2 (2 + n22) (bytsOf [1, 9])) 0 9) (rsE (bytO n21 2 (2 + n22) (bytsOf [1, 9])) 0 9)))) (sk trivial))) (fun (n23 : Nat) => And.intro (sk (And.intro (And.intro trivial (mk_build (P := Try.prog) (t := 25) (e := 5) one5 7 #[(0, (u8 0)), (1, (u8 2)), (2, (u8 1)), (3, (u8 44)), (4, (u8 1)), (5, (u8 1)), (6, (u8 7))] #[(u8 0), (u8 2), (u8 1), (u8 44), (u8 1), (u8 1), (u8 7)] (by kernel_rfl) (by decide) (by kernel_rfl))) (And.intro (And.intro trivial (RunsF.lendS (F' := (fun _ => False)) (cs := [⟨n9, false, 0, (spr (((smN 0) + smN 300) + byN 1 + n10) (((smN 0) + smN 300) + byN 1) (fun k => u8 (catU (catU (smB 0) (smN 0) (smB 300)) ((smN 0) + smN 300) (byB (bytsOf [7]) 1) k)) (u8 0))⟩, ⟨n23, false, 0, (.lit [(u8 0), (u8 2), (u8 1), (u8 44), (u8 1), (u8 1), (u8 7)])⟩]) (same_fam (bytO n9 (((smN 0) + smN 300) + byN 1) (((smN 0) + smN 300) + byN 1 + n10) (catU (catU (smB 0) (smN 0) (smB 300)) ((smN 0) + smN 300) (byB (bytsOf [7]) 1))) (bytO n23 7 7 (bytsOf [0, 2, 1, 44, 1, 1, 7])) (okb_own (show ((smN 0) + smN 300) + byN 1 ≤ ((smN 0) + smN 300) + byN 1 + n10 from by have := smN_rng  0; have := smN_rng  300; have := byN_rng  1; omega) (show ((smN 0) + smN 300) + byN 1 ≤ 9223372036854775807 from by have := smN_rng  0; have := smN_rng  300; have := byN_rng  1; omega)) (okb_own (by decide) (by decide))) (fun w hF hb => hold_or (holdb_ownT (show ((smN 0) + smN 300) + byN 1 ≤ ((smN 0) + smN 300) + byN 1 from by have := smN_rng  0; have := smN_rng  300; have := byN_rng  1; omega) (hb _ (List.Mem.head _))) (holdb_own (holds_litB (hb _ (List.Mem.tail _ (List.Mem.head _))) rfl))) (by simp))) (sk (And.intro (fun (hg : (sameB (sameS (catU (catU (smB 0) (smN 0) (smB 300)) ((smN 0) + smN 300) (byB (bytsOf [7]) 1)) (((smN 0) + smN 300) + byN 1) (bytsOf [0, 2, 1, 44, 1, 1, 7]) 7) true) = true) => t2) (And.intro (fun (hg : (sameB (sameS (catU (catU (smB 0) (smN 0) (smB 300)) ((smN 0) + smN 300) (byB (bytsOf [7]) 1)) (((smN 0) + smN 300) + byN 1) (bytsOf [0, 2, 1, 44, 1, 1, 7]) 7) true) = true) => (And.intro (And.intro hg trivial) trivial)) (And.intro (And.intro trivial (And.intro (fun (hp : (sameS (catU (catU (smB 0) (smN 0) (smB 300)) ((smN 0) + smN 300) (byB (bytsOf [7]) 1)) (((smN 0) + smN 300) + byN 1) (bytsOf [0, 2, 1, 44, 1, 1, 7]) 7) = true) => (sameB_mk hp)) (fun (_ : (sameS (catU (catU (smB 0) (smN 0) (smB 300)) ((smN 0) + smN 300) (byB (bytsOf [7]) 1)) (((smN 0) + smN 300) + byN 1) (bytsOf [0, 2, 1, 44, 1, 1, 7]) 7) = false) => trivial))) (sk (And.intro (fun (hg : (sameB (selB (sameS (catU (catU (smB 0) (smN 0) (smB 300)) ((smN 0) + smN 300) (byB (bytsOf [7]) 1)) (((smN 0) + smN 300) + byN 1) (bytsOf [0, 2, 1, 44, 1, 1, 7]) 7) (((endE (rsQ (bytO n13 2 (2 + n14) (bytsOf [1, 0])) 0 9).wn (rsE (bytO n13 2 (2 + n14) (bytsOf [1, 0])) 0 9)) : Int) == 31) false) true) = true) => t2) (And.intro (fun (hg : (sameB (selB (sameS (catU (catU (smB 0) (smN 0) (smB 300)) ((smN 0) + smN 300) (byB (bytsOf [7]) 1)) (((smN 0) + smN 300) + byN 1) (bytsOf [0, 2, 1, 44, 1, 1, 7]) 7) (((endE (rsQ (bytO n13 2 (2 + n14) (bytsOf [1, 0])) 0 9).wn (rsE (bytO n13 2 (2 + n14) (bytsOf [1, 0])) 0 9)) : Int) == 31) false) true) = true) => (And.intro (And.intro hg trivial) trivial)) (And.intro (And.intro trivial (And.intro (fun (hp : (selB (sameS (catU (catU (smB 0) (smN 0) (smB 300)) ((smN 0) + smN 300) (byB (bytsOf [7]) 1)) (((smN 0) + smN 300) + byN 1) (bytsOf [0, 2, 1, 44, 1, 1, 7]) 7) (((endE (rsQ (bytO n13 2 (2 + n14) (bytsOf [1, 0])) 0 9).wn (rsE (bytO n13 2 (2 + n14) (bytsOf [1, 0])) 0 9)) : Int) == 31) false) = true) => (sameB_mk hp)) (fun (_ : (selB (sameS (catU (catU (smB 0) (smN 0) (smB 300)) ((smN 0) + smN 300) (byB (bytsOf [7]) 1)) (((smN 0) + smN 300) + byN 1) (bytsOf [0, 2, 1, 44, 1, 1, 7]) 7) (((endE (rsQ (bytO n13 2 (2 + n14) (bytsOf [1, 0])) 0 9).wn (rsE (bytO n13 2 (2 + n14) (bytsOf [1, 0])) 0 9)) : Int) == 31) false) = false) => trivial))) (sk (And.intro (fun (hg : (sameB (selB (selB (sameS (catU (catU (smB 0) (smN 0) (smB 300)) ((smN 0) + smN 300) (byB (bytsOf [7]) 1)) (((smN 0) + smN 300) + byN 1) (bytsOf [0, 2, 1, 44, 1, 1, 7]) 7) (((endE (rsQ (bytO n13 2 (2 + n14) (bytsOf [1, 0])) 0 9).wn (rsE (bytO n13 2 (2 + n14) (bytsOf [1, 0])) 0 9)) : Int) == 31) false) (((endE (rsQ (bytO n17 2 (2 + n18) (bytsOf [1, 9])) 0 8).wn (rsE (bytO n17 2 (2 + n18) (bytsOf [1, 9])) 0 8)) : Int) == 2) false) true) = true) => t2) (And.intro (fun (hg : (sameB (selB (selB (sameS (catU (catU (smB 0) (smN 0) (smB 300)) ((smN 0) + smN 300) (byB (bytsOf [7]) 1)) (((smN 0) + smN 300) + byN 1) (bytsOf [0, 2, 1, 44, 1, 1, 7]) 7) (((endE (rsQ (bytO n13 2 (2 + n14) (bytsOf [1, 0])) 0 9).wn (rsE (bytO n13 2 (2 + n14) (bytsOf [1, 0])) 0 9)) : Int) == 31) false) (((endE (rsQ (bytO n17 2 (2 + n18) (bytsOf [1, 9])) 0 8).wn (rsE (bytO n17 2 (2 + n18) (bytsOf [1, 9])) 0 8)) : Int) == 2) false) true) = true) => (And.intro (And.intro hg trivial) (@is_eql64 Try.prog 31 31 (.tmp 61) (.const (.int .u64 9)) (rsV (bytO n21 2 (2 + n22) (bytsOf [1, 9])) 0 9) 9))) (And.intro (And.intro trivial (And.intro (fun (hp : (selB (selB (sameS (catU (catU (smB 0) (smN 0) (smB 300)) ((smN 0) + smN 300) (byB (bytsOf [7]) 1)) (((smN 0) + smN 300) + byN 1) (bytsOf [0, 2, 1, 44, 1, 1, 7]) 7) (((endE (rsQ (bytO n13 2 (2 + n14) (bytsOf [1, 0])) 0 9).wn (rsE (bytO n13 2 (2 + n14) (bytsOf [1, 0])) 0 9)) : Int) == 31) false) (((endE (rsQ (bytO n17 2 (2 + n18) (bytsOf [1, 9])) 0 8).wn (rsE (bytO n17 2 (2 + n18) (bytsOf [1, 9])) 0 8)) : Int) == 2) false) = true) => (sameB_mk hp)) (fun (_ : (selB (selB (sameS (catU (catU (smB 0) (smN 0) (smB 300)) ((smN 0) + smN 300) (byB (bytsOf [7]) 1)) (((smN 0) + smN 300) + byN 1) (bytsOf [0, 2, 1, 44, 1, 1, 7]) 7) (((endE (rsQ (bytO n13 2 (2 + n14) (bytsOf [1, 0])) 0 9).wn (rsE (bytO n13 2 (2 + n14) (bytsOf [1, 0])) 0 9)) : Int) == 31) false) (((endE (rsQ (bytO n17 2 (2 + n18) (bytsOf [1, 9])) 0 8).wn (rsE (bytO n17 2 (2 + n18) (bytsOf [1, 9])) 0 8)) : Int) == 2) false) = false) => trivial))) (sk (And.intro (fun (hg : (sameB (selB (selB (selB (sameS (catU (catU (smB 0) (smN 0) (smB 300)) ((smN 0) + smN 300) (byB (bytsOf [7]) 1)) (((smN 0) + smN 300) + byN 1) (bytsOf [0, 2, 1, 44, 1, 1, 7]) 7) (((endE (rsQ (bytO n13 2 (2 + n14) (bytsOf [1, 0])) 0 9).wn (rsE (bytO n13 2 (2 + n14) (bytsOf [1, 0])) 0 9)) : Int) == 31) false) (((endE (rsQ (bytO n17 2 (2 + n18) (bytsOf [1, 9])) 0 8).wn (rsE (bytO n17 2 (2 + n18) (bytsOf [1, 9])) 0 8)) : Int) == 2) false) ((rsV (bytO n21 2 (2 + n22) (bytsOf [1, 9])) 0 9) == 9) false) true) = true) => t2) (And.intro (fun (hg : (sameB (selB (selB (selB (sameS (catU (catU (smB 0) (smN 0) (smB 300)) ((smN 0) + smN 300) (byB (bytsOf [7]) 1)) (((smN 0) + smN 300) + byN 1) (bytsOf [0, 2, 1, 44, 1, 1, 7]) 7) (((endE (rsQ (bytO n13 2 (2 + n14) (bytsOf [1, 0])) 0 9).wn (rsE (bytO n13 2 (2 + n14) (bytsOf [1, 0])) 0 9)) : Int) == 31) false) (((endE (rsQ (bytO n17 2 (2 + n18) (bytsOf [1, 9])) 0 8).wn (rsE (bytO n17 2 (2 + n18) (bytsOf [1, 9])) 0 8)) : Int) == 2) false) ((rsV (bytO n21 2 (2 + n22) (bytsOf [1, 9])) 0 9) == 9) false) true) = true) => (And.intro (And.intro hg trivial) trivial)) (And.intro (And.intro trivial (And.intro (fun (hp : (selB (selB (selB (sameS (catU (catU (smB 0) (smN 0) (smB 300)) ((smN 0) + smN 300) (byB (bytsOf [7]) 1)) (((smN 0) + smN 300) + byN 1) (bytsOf [0, 2, 1, 44, 1, 1, 7]) 7) (((endE (rsQ (bytO n13 2 (2 + n14) (bytsOf [1, 0])) 0 9).wn (rsE (bytO n13 2 (2 + n14) (bytsOf [1, 0])) 0 9)) : Int) == 31) false) (((endE (rsQ (bytO n17 2 (2 + n18) (bytsOf [1, 9])) 0 8).wn (rsE (bytO n17 2 (2 + n18) (bytsOf [1, 9])) 0 8)) : Int) == 2) false) ((rsV (bytO n21 2 (2 + n22) (bytsOf [1, 9])) 0 9) == 9) false) = true) => (sameB_mk hp)) (fun (_ : (selB (selB (selB (sameS (catU (catU (smB 0) (smN 0) (smB 300)) ((smN 0) + smN 300) (byB (bytsOf [7]) 1)) (((smN 0) + smN 300) + byN 1) (bytsOf [0, 2, 1, 44, 1, 1, 7]) 7) (((endE (rsQ (bytO n13 2 (2 + n14) (bytsOf [1, 0])) 0 9).wn (rsE (bytO n13 2 (2 + n14) (bytsOf [1, 0])) 0 9)) : Int) == 31) false) (((endE (rsQ (bytO n17 2 (2 + n18) (bytsOf [1, 9])) 0 8).wn (rsE (bytO n17 2 (2 + n18) (bytsOf [1, 9])) 0 8)) : Int) == 2) false) ((rsV (bytO n21 2 (2 + n22) (bytsOf [1, 9])) 0 9) == 9) false) = false) => trivial))) (sk trivial)))))))))))))))))))) (And.intro trivial ((show (Value.bool (selB (selB (selB (selB (sameS (catU (catU (smB 0) (smN 0) (smB 300)) ((smN 0) + smN 300) (byB (bytsOf [7]) 1)) (((smN 0) + smN 300) + byN 1) (bytsOf [0, 2, 1, 44, 1, 1, 7]) 7) (((endE (rsQ (bytO n13 2 (2 + n14) (bytsOf [1, 0])) 0 9).wn (rsE (bytO n13 2 (2 + n14) (bytsOf [1, 0])) 0 9)) : Int) == 31) false) (((endE (rsQ (bytO n17 2 (2 + n18) (bytsOf [1, 9])) 0 8).wn (rsE (bytO n17 2 (2 + n18) (bytsOf [1, 9])) 0 8)) : Int) == 2) false) ((rsV (bytO n21 2 (2 + n22) (bytsOf [1, 9])) 0 9) == 9) false) (((endE (rsQ (bytO n21 2 (2 + n22) (bytsOf [1, 9])) 0 9).wn (rsE (bytO n21 2 (2 + n22) (bytsOf [1, 9])) 0 9)) : Int) == 0) false)) = Value.bool true from congrArg Value.bool (by kernel_rfl))))))))))))))))))))))))
end Go.Proofs.Ytelpmalmknpogaa
end
section
set_option linter.unusedSimpArgs false
set_option linter.unusedVariables false
set_option maxRecDepth 100000
namespace Go.Eng
def u64i (m : Int) : UInt64 := UInt64.ofNat (m % 18446744073709551616).toNat
theorem conv_i64_u64 {P : Program} {s d : TypeId} {x : Operand} (hs : P.underlying s = some (.int .i64)) (hd : P.underlying d = some (.int .u64)) (m : Int) : IsOp P (.convert s d x) [int m] (u64 (u64i m)) := by
  have h := conv_int (x := x) hs hd m
  have e : (IntKind.u64.wrap m) = ((u64i m).toNat : Int) := by
    unfold u64i
    rw [UInt64.toNat_ofNat']
    have h0 : IntKind.u64.wrap m = m % 18446744073709551616 := by simp [IntKind.wrap, IntKind.signed, IntKind.bits]
    rw [h0]
    omega
  rw [e] at h; exact h
theorem u64i_nat {m : Int} (h : 0 ≤ m) (h2 : m ≤ 9223372036854775807) : (u64i m).toNat = m.toNat := by
  unfold u64i; rw [UInt64.toNat_ofNat']; omega
theorem rsE_ne {q : BytL} {e : Int} {l : UInt64} (h : e ≠ 0) : rsE q e l = e := if_neg h
theorem rsV_le (q : BytL) (e : Int) (l : UInt64) : (rsV q e l).toNat ≤ l.toNat := by
  unfold rsV
  split
  · rename_i h
    obtain ⟨_, _, _, _, h5, _⟩ := wrE_zero (failE_zero h).2
    rw [UInt64.lt_iff_toNat_lt] at h5
    omega
  · exact Nat.zero_le _
def ctE1 (e m : Int) : Int := if m < 0 then failE e 2 else e
def ctV (q : BytL) (e m : Int) : Nat := (rsV q (ctE1 e m) (u64i m)).toNat
def ctQ (q : BytL) (e m : Int) : BytL := rsQ q (ctE1 e m) (u64i m)
def ctE (q : BytL) (e m : Int) (z : Nat) : Int := if (ctQ q e m).wn / z < ctV q e m then failE (rsE q (ctE1 e m) (u64i m)) 3 else rsE q (ctE1 e m) (u64i m)
def ctN (q : BytL) (e m : Int) (z : Nat) : Nat := if (ctQ q e m).wn / z < ctV q e m then 0 else ctV q e m
theorem ctE1_ne {e m : Int} (h : m < 0) : ctE1 e m ≠ 0 := by
  unfold ctE1 failE; rw [if_pos h]; split <;> omega
theorem ctV_le {q : BytL} {e m : Int} (h2 : m ≤ 9223372036854775807) : ctV q e m ≤ 9223372036854775807 := by
  unfold ctV
  by_cases h : m < 0
  · have h1 : rsV q (ctE1 e m) (u64i m) = 0 := if_neg (by rw [rsE_ne (ctE1_ne h)]; exact ctE1_ne h)
    rw [h1]; exact Nat.zero_le _
  · have h3 := rsV_le q (ctE1 e m) (u64i m)
    rw [u64i_nat (by omega) h2] at h3
    omega
theorem ctN_le (q : BytL) (e m : Int) {z : Nat} (hz : 0 < z) : ctN q e m z * z ≤ (ctQ q e m).wn := by
  unfold ctN
  split
  · omega
  · rename_i h
    have := Nat.div_mul_le_self (ctQ q e m).wn z
    exact Nat.le_trans (Nat.mul_le_mul_right z (by omega)) this
theorem rsQ_wn (q : BytL) (e : Int) (l : UInt64) : (rsQ q e l).wn ≤ q.wn := by
  unfold rsQ
  split
  · exact Nat.sub_le _ _
  · exact Nat.le_refl _
theorem ctQ_wn (q : BytL) (e m : Int) : (ctQ q e m).wn ≤ q.wn := rsQ_wn _ _ _
def tkE (q : BytL) (e : Int) (n : Nat) : Int := if q.wn < n then failE e 3 else e
def tkQ (q : BytL) (e : Int) (n : Nat) : BytL := if tkE q e n = 0 then bytF q n else q
theorem tkE_zero {q : BytL} {e : Int} {n : Nat} (h : tkE q e n = 0) : e = 0 ∧ n ≤ q.wn := by
  unfold tkE at h
  by_cases h1 : q.wn < n
  · rw [if_pos h1] at h; exact absurd (failE_zero h).2 (by decide)
  · rw [if_neg h1] at h; exact ⟨h, by omega⟩
theorem tk_in {q : BytL} {e : Int} {n : Nat} (h : tkE q e n = 0) : tkQ q e n = bytF q n := if_pos h
theorem tk_out {q : BytL} {e : Int} {n : Nat} (h : tkE q e n ≠ 0) : tkQ q e n = q := if_neg h
theorem okb_tk {q : BytL} (hq : OkB q) (e : Int) (n : Nat) : OkB (tkQ q e n) := by
  unfold tkQ
  split
  · rename_i h; exact okb_from hq (tkE_zero h).2
  · exact hq
theorem holdb_tk {q : BytL} {e : Int} {n : Nat} {w : World} (h : FamH (famB q) w) : FamH (famB (tkQ q e n)) w := by
  unfold tkQ
  split
  · rename_i h0; exact holdb_from (tkE_zero h0).2 h
  · exact h
theorem tk_wb {q : BytL} {e : Int} {n : Nat} : (tkQ q e n).wb = q.wb := by unfold tkQ; split <;> rfl
theorem tkQ_wn (q : BytL) (e : Int) (n : Nat) : (tkQ q e n).wn ≤ q.wn := by
  unfold tkQ
  split
  · exact Nat.sub_le _ _
  · exact Nat.le_refl _
def zA (b : Bool) (n : Nat) : Option Addr := match b with
  | true => none
  | false => some ⟨n, 0, none⟩
def zV (b : Bool) (n : Nat) : Value := .slice (zA b n) 0 0
def rnV (q : BytL) (e : Int) : N4 := if tkE q e 32 = 0 then ofN q.wf 32 else N4.mk 0 0 0 0
def rbN (q : BytL) (e m : Int) : Nat := if tkE (ctQ q e m) (ctE q e m 1) (ctN q e m 1) = 0 then ctN q e m 1 else 0
def rbE (q : BytL) (e m : Int) : Int := tkE (ctQ q e m) (ctE q e m 1) (ctN q e m 1)
def rbQ (q : BytL) (e m : Int) : BytL := tkQ (ctQ q e m) (ctE q e m 1) (ctN q e m 1)
end Go.Eng
namespace Go.Eng
theorem ct_in {q : BytL} {e m : Int} {z : Nat} (h : (rsQ q (ctE1 e m) (u64i m)).wn / z < (rsV q (ctE1 e m) (u64i m)).toNat) : ctE q e m z = failE (rsE q (ctE1 e m) (u64i m)) 3 ∧ ctN q e m z = 0 := ⟨if_pos h, if_pos h⟩
theorem ct_out {q : BytL} {e m : Int} {z : Nat} (h : ¬ (rsQ q (ctE1 e m) (u64i m)).wn / z < (rsV q (ctE1 e m) (u64i m)).toNat) : ctE q e m z = rsE q (ctE1 e m) (u64i m) ∧ ctN q e m z = (rsV q (ctE1 e m) (u64i m)).toNat := ⟨if_neg h, if_neg h⟩
theorem okb_ct {q : BytL} (hq : OkB q) (e m : Int) : OkB (ctQ q e m) := okb_rs hq _ _
theorem holdb_ct {q : BytL} {e m : Int} {w : World} (h : FamH (famB q) w) : FamH (famB (ctQ q e m)) w := holdb_rs h
theorem ct_wb {q : BytL} {e m : Int} : (ctQ q e m).wb = q.wb := rs_wb
theorem rb_wn (q : BytL) (e m : Int) : (rbQ q e m).wn ≤ q.wn := Nat.le_trans (tkQ_wn _ _ _) (ctQ_wn _ _ _)
theorem okb_rb {q : BytL} (hq : OkB q) (e m : Int) : OkB (rbQ q e m) := okb_tk (okb_ct hq e m) _ _
theorem holdb_rb {q : BytL} {e m : Int} {w : World} (h : FamH (famB q) w) : FamH (famB (rbQ q e m)) w := holdb_tk (holdb_ct h)
theorem rb_wb {q : BytL} {e m : Int} : (rbQ q e m).wb = q.wb := tk_wb.trans ct_wb
theorem rn_in {q : BytL} {e : Int} (h : tkE q e 32 = 0) : rnV q e = ofN q.wf 32 := if_pos h
theorem rn_out {q : BytL} {e : Int} (h : tkE q e 32 ≠ 0) : rnV q e = N4.mk 0 0 0 0 := if_neg h
def nsE (q : BytL) (e : Int) : Nat → BytL × Int
  | 0 => (q, e)
  | k + 1 => (tkQ (nsE q e k).1 (nsE q e k).2 32, tkE (nsE q e k).1 (nsE q e k).2 32)
def nsV (q : BytL) (e : Int) (k : Nat) : N4 := rnV (nsE q e k).1 (nsE q e k).2
theorem okb_ns {q : BytL} (hq : OkB q) (e : Int) : ∀ k, OkB (nsE q e k).1
  | 0 => hq
  | k + 1 => okb_tk (okb_ns hq e k) _ _
theorem holdb_ns {q : BytL} {e : Int} {w : World} (h : FamH (famB q) w) : ∀ k, FamH (famB (nsE q e k).1) w
  | 0 => h
  | k + 1 => holdb_tk (holdb_ns h k)
theorem ns_wb {q : BytL} {e : Int} : ∀ k, (nsE q e k).1.wb = q.wb
  | 0 => rfl
  | k + 1 => tk_wb.trans (ns_wb k)
theorem ns_wn {q : BytL} {e : Int} : ∀ k, (nsE q e k).1.wn ≤ q.wn
  | 0 => Nat.le_refl _
  | k + 1 => Nat.le_trans (tkQ_wn _ _ _) (ns_wn k)
end Go.Eng
namespace Go.Eng
def rbZ (q : BytL) (e m : Int) : Bool := if rbE q e m = 0 then (ctQ q e m).wa.isNone else true
theorem rb_bad {q : BytL} {e m : Int} (h : tkE (ctQ q e m) (ctE q e m 1) (ctN q e m 1) ≠ 0) : rbN q e m = 0 ∧ rbZ q e m = true := ⟨if_neg h, if_neg h⟩
theorem rb_good {q : BytL} {e m : Int} (h : tkE (ctQ q e m) (ctE q e m 1) (ctN q e m 1) = 0) : rbN q e m = ctN q e m 1 ∧ rbZ q e m = (ctQ q e m).wa.isNone := ⟨if_pos h, if_pos h⟩
end Go.Eng
namespace Go.Eng
theorem slqV_from {q : BytL} {A : Option Addr} {k : Nat} (hA : q.wa = A) : slqV (bytF q k) = .slice (fromA A q.wc k 1) (q.wn - k) (q.wc - k) := by subst hA; rfl
end Go.Eng
namespace Go.Eng
def rsQ2 (q : BytL) (e m : Int) : BytL := (nsE (ctQ q e m) (ctE q e m 32) (ctN q e m 32)).1
def rsE2 (q : BytL) (e m : Int) : Int := (nsE (ctQ q e m) (ctE q e m 32) (ctN q e m 32)).2
def nsG (q : BytL) (e : Int) (i : Nat) : Nat → N4 := fun k => if k < i then nsV q e k else N4.mk 0 0 0 0
def rsF (q : BytL) (e m : Int) : Nat → N4 := nsG (ctQ q e m) (ctE q e m 32) (ctN q e m 32)
theorem okb_n2 {q : BytL} (hq : OkB q) (e m : Int) : OkB (rsQ2 q e m) := okb_ns (okb_ct hq e m) _ _
theorem holdb_n2 {q : BytL} {e m : Int} {w : World} (h : FamH (famB q) w) : FamH (famB (rsQ2 q e m)) w := holdb_ns (holdb_ct h) _
theorem n2_wb {q : BytL} {e m : Int} : (rsQ2 q e m).wb = q.wb := (ns_wb _).trans ct_wb
theorem n2_wn (q : BytL) (e m : Int) : (rsQ2 q e m).wn ≤ q.wn := Nat.le_trans (ns_wn _) (ctQ_wn _ _ _)
theorem ns_step {q : BytL} {e : Int} {i : Nat} {Q : BytL} {E : Int} {g : Nat → N4} (h1 : Q = (nsE q e i).1) (h2 : E = (nsE q e i).2) (h3 : g = nsG q e i) :
    tkQ Q E 32 = (nsE q e (i + 1)).1 ∧ tkE Q E 32 = (nsE q e (i + 1)).2 ∧ upd g i (rnV Q E) = nsG q e (i + 1) := by
  subst h1 h2 h3
  refine ⟨rfl, rfl, ?_⟩
  funext k
  unfold upd nsG
  by_cases h : k = i
  · subst h; rw [if_pos rfl, if_pos (by omega)]; rfl
  · rw [if_neg h]
    by_cases h2 : k < i
    · rw [if_pos h2, if_pos (by omega)]
    · rw [if_neg h2, if_neg (by omega)]
theorem nsG_zero (q : BytL) (e : Int) : (fun _ => N4.mk 0 0 0 0) = nsG q e 0 := by funext k; unfold nsG; rw [if_neg (by omega)]
end Go.Eng
end
section
namespace Go.Proofs.Ytelpmalmknpogaa
open Go Go.Eng
set_option linter.unusedVariables false
set_option linter.unusedSimpArgs false
set_option maxRecDepth 100000
set_option maxHeartbeats 1000000
theorem count_1 (r : Nat) (q : BytL) (e m : Int) (hq : OkB q) (hl : q.wn ≤ 100000) (hm : m ≤ 9223372036854775807) : RunsF (famB q) Try.prog 34 [(ptr r 0), (int m), (int 1)] [⟨r, true, 0, (.lit [(Value.slice q.wa q.wn q.wc), (int e)])⟩] 0 (fun (_ : List Nat) => nat (ctN q e m 1)) (fun (_ : List Nat) => [some ⟨r, true, 0, (.lit [(slqV (ctQ q e m)), (int (ctE q e m 1))])⟩]) :=
  runsF_of_ev (F := (famB q)) mix Try.func34 rfl rfl 400 (.reg [(0, .g)] (.reg [(0, .g), (1, .g)] (.br (.reg [(0, .g), (1, (.call [(0, false)] 0 0 (fun _ => (Value.tuple #[])) (fun _ => [some ⟨r, true, 0, (.lit [(Value.slice q.wa q.wn q.wc), (int (failE e 2))])⟩])))] (.keep [0, 1, 2, 6, 8, 9, 10, 11] [0] 1 (.told ⟨[(0, .v (ptr r 0)), (1, .v (int m)), (2, .v (int 1)), (6, .v (int 0)), (8, .v (int m)), (9, .v (Value.bool (decide ((m : Int) < 0)))), (10, .v (ptr r 0)), (11, .v (Value.tuple #[]))], [(0, some ⟨r, true, 0, (.lit [(Value.slice q.wa q.wn q.wc), (int (ctE1 e m))])⟩)], 1⟩ (.reg [(0, .g), (1, .g), (2, (.as (u64 (u64i m)))), (3, (.callF [(0, false)] 0 0 (fun _ => (u64 (rsV q (ctE1 e m) (u64i m)))) (fun _ => [some ⟨r, true, 0, (.lit [(slqV (rsQ q (ctE1 e m) (u64i m))), (int (rsE q (ctE1 e m) (u64i m)))])⟩]))), (4, (.as (nat ((rsV q (ctE1 e m) (u64i m)).toNat)))), (5, .g)] (.reg [(0, .g), (1, .g), (2, .g), (3, .g), (4, (.ld 0 (.lit 0))), (5, (.as (nat ((rsQ q (ctE1 e m) (u64i m)).wn)))), (6, .g), (7, (.as (nat (((rsQ q (ctE1 e m) (u64i m)).wn) / 1)))), (8, (.as (Value.bool (decide ((((rsQ q (ctE1 e m) (u64i m)).wn) / 1) < ((rsV q (ctE1 e m) (u64i m)).toNat))))))] (.br (.reg [(0, .g), (1, (.call [(0, false)] 0 0 (fun _ => (Value.tuple #[])) (fun _ => [some ⟨r, true, 0, (.lit [(Value.slice ((rsQ q (ctE1 e m) (u64i m)).wa) ((rsQ q (ctE1 e m) (u64i m)).wn) ((rsQ q (ctE1 e m) (u64i m)).wc)), (int (failE (rsE q (ctE1 e m) (u64i m)) 3))])⟩])))] (.reg [(0, .g)] .done)) (.reg [(0, .g), (1, .g)] .done))))))) (.keep [0, 1, 2, 6, 8, 9] [0] 1 (.told ⟨[(0, .v (ptr r 0)), (1, .v (int m)), (2, .v (int 1)), (6, .v (int 0)), (8, .v (int m)), (9, .v (Value.bool (decide ((m : Int) < 0))))], [(0, some ⟨r, true, 0, (.lit [(Value.slice q.wa q.wn q.wc), (int (ctE1 e m))])⟩)], 1⟩ (.reg [(0, .g), (1, .g), (2, (.as (u64 (u64i m)))), (3, (.callF [(0, false)] 0 0 (fun _ => (u64 (rsV q (ctE1 e m) (u64i m)))) (fun _ => [some ⟨r, true, 0, (.lit [(slqV (rsQ q (ctE1 e m) (u64i m))), (int (rsE q (ctE1 e m) (u64i m)))])⟩]))), (4, (.as (nat ((rsV q (ctE1 e m) (u64i m)).toNat)))), (5, .g)] (.reg [(0, .g), (1, .g), (2, .g), (3, .g), (4, (.ld 0 (.lit 0))), (5, (.as (nat ((rsQ q (ctE1 e m) (u64i m)).wn)))), (6, .g), (7, (.as (nat (((rsQ q (ctE1 e m) (u64i m)).wn) / 1)))), (8, (.as (Value.bool (decide ((((rsQ q (ctE1 e m) (u64i m)).wn) / 1) < ((rsV q (ctE1 e m) (u64i m)).toNat))))))] (.br (.reg [(0, .g), (1, (.call [(0, false)] 0 0 (fun _ => (Value.tuple #[])) (fun _ => [some ⟨r, true, 0, (.lit [(Value.slice ((rsQ q (ctE1 e m) (u64i m)).wa) ((rsQ q (ctE1 e m) (u64i m)).wn) ((rsQ q (ctE1 e m) (u64i m)).wc)), (int (failE (rsE q (ctE1 e m) (u64i m)) 3))])⟩])))] (.reg [(0, .g)] .done)) (.reg [(0, .g), (1, .g)] .done))))))))) [] [] rfl
    (have f0 : q.wn ≤ 100000 := hl; have f1 : q.wn ≤ q.wc := hq.cap; have f2 : (rsV q (ctE1 e m) (u64i m)).toNat ≤ 9223372036854775807 := (ctV_le hm); Eq.mp (by kernel_rfl) (And.intro (sk trivial) (And.intro (sk (sk trivial)) (And.intro trivial (And.intro (fun (h1 : (decide ((m : Int) < 0)) = true) => have f3 : ((m : Int) < 0) := (of_decide_eq_true h1); And.intro (sk (And.intro (And.intro trivial (Runs.dark [false] (fail_runs r (Value.slice q.wa q.wn q.wc) e 2))) trivial)) (And.intro (show (⟨[(0, .v (ptr r 0)), (1, .v (int m)), (2, .v (int 1)), (6, .v (int 0)), (8, .v (int m)), (9, .v (Value.bool (decide ((m : Int) < 0)))), (10, .v (ptr r 0)), (11, .v (Value.tuple #[]))], [(0, some ⟨r, true, 0, (.lit [(Value.slice q.wa q.wn q.wc), (int (failE e 2))])⟩)], 1⟩ : St) = ⟨[(0, .v (ptr r 0)), (1, .v (int m)), (2, .v (int 1)), (6, .v (int 0)), (8, .v (int m)), (9, .v (Value.bool (decide ((m : Int) < 0)))), (10, .v (ptr r 0)), (11, .v (Value.tuple #[]))], [(0, some ⟨r, true, 0, (.lit [(Value.slice q.wa q.wn q.wc), (int (ctE1 e m))])⟩)], 1⟩ from by have ee : failE e 2 = ctE1 e m := (by unfold ctE1; first | rw [if_pos (by omega)] | rw [if_neg (by omega)]); rw [ee]) (And.intro (sk (sk (And.intro (And.intro trivial (@conv_i64_u64 Try.prog 3 31 (.tmp 13) (by kernel_rfl) (by kernel_rfl) m)) (And.intro (And.intro trivial (RunsF.lendP (F' := (famB q)) (fun w hF => hF) (fun x hx => famB_part (show 0 < q.wn → 0 < q.wn from by omega) hx rfl) (rsmall_fam r q (ctE1 e m) (u64i m) hq (show q.wn ≤ 100000 from by omega)))) (And.intro (And.intro trivial (@conv_u64_int Try.prog 31 3 (.tmp 15) (by kernel_rfl) (by kernel_rfl) (rsV q (ctE1 e m) (u64i m)) (show (rsV q (ctE1 e m) (u64i m)).toNat ≤ 9223372036854775807 from by omega))) (sk trivial)))))) (And.intro (sk (sk (sk (sk (And.intro (And.intro trivial (ad r 0)) (And.intro (And.intro trivial (@is_len Try.prog 25 5 (.tmp 21) (by kernel_rfl) ((rsQ q (ctE1 e m) (u64i m)).wa) ((rsQ q (ctE1 e m) (u64i m)).wn) ((rsQ q (ctE1 e m) (u64i m)).wc))) (sk (And.intro (And.intro trivial (@is_quon Try.prog 3 3 (.tmp 22) (.tmp 23)  ((rsQ q (ctE1 e m) (u64i m)).wn) 1 (show 0 < 1 ∧ ((rsQ q (ctE1 e m) (u64i m)).wn) ≤ 9223372036854775807 from by have := rsQ_wn  q (ctE1 e m) (u64i m); omega))) (And.intro (And.intro trivial (@is_gtrn Try.prog 3 3 (.tmp 17) (.tmp 24)  ((rsV q (ctE1 e m) (u64i m)).toNat) (((rsQ q (ctE1 e m) (u64i m)).wn) / 1))) trivial))))))))) (And.intro trivial (And.intro (fun (h2 : (decide ((((rsQ q (ctE1 e m) (u64i m)).wn) / 1) < ((rsV q (ctE1 e m) (u64i m)).toNat))) = true) => have f4 : ((((rsQ q (ctE1 e m) (u64i m)).wn) / 1) < ((rsV q (ctE1 e m) (u64i m)).toNat)) := (of_decide_eq_true h2); And.intro (sk (And.intro (And.intro trivial (Runs.dark [false] (fail_runs r (Value.slice ((rsQ q (ctE1 e m) (u64i m)).wa) ((rsQ q (ctE1 e m) (u64i m)).wn) ((rsQ q (ctE1 e m) (u64i m)).wc)) (rsE q (ctE1 e m) (u64i m)) 3))) trivial)) (And.intro (sk trivial) (And.intro trivial (@Exists.intro (List Nat) (fun (ns : List Nat) => ns.length = 0 ∧ ((int 0) : Value) = (fun (_ : List Nat) => nat (ctN q e m 1)) ns ∧ ([some ⟨r, true, 0, (.lit [(Value.slice ((rsQ q (ctE1 e m) (u64i m)).wa) ((rsQ q (ctE1 e m) (u64i m)).wn) ((rsQ q (ctE1 e m) (u64i m)).wc)), (int (failE (rsE q (ctE1 e m) (u64i m)) 3))])⟩] : List (Option Blk)) = (fun (_ : List Nat) => [some ⟨r, true, 0, (.lit [(slqV (ctQ q e m)), (int (ctE q e m 1))])⟩]) ns) [] (And.intro (@rfl Nat 0) (And.intro ((show (int 0) = nat (ctN q e m 1) from by first | rw [(ct_in (by assumption)).2] <;> rfl | rw [(ct_out (by assumption)).2] <;> rfl)) ((show ([some ⟨r, true, 0, (.lit [(Value.slice ((rsQ q (ctE1 e m) (u64i m)).wa) ((rsQ q (ctE1 e m) (u64i m)).wn) ((rsQ q (ctE1 e m) (u64i m)).wc)), (int (failE (rsE q (ctE1 e m) (u64i m)) 3))])⟩] : List (Option Blk)) = [some ⟨r, true, 0, (.lit [(slqV (ctQ q e m)), (int (ctE q e m 1))])⟩] from by first | (rw [(ct_in (z := 1) (by assumption)).1] <;> rfl) | (rw [(ct_out (z := 1) (by assumption)).1] <;> rfl))))))))) (fun (h2 : (decide ((((rsQ q (ctE1 e m) (u64i m)).wn) / 1) < ((rsV q (ctE1 e m) (u64i m)).toNat))) = false) => have f4 : ¬ ((((rsQ q (ctE1 e m) (u64i m)).wn) / 1) < ((rsV q (ctE1 e m) (u64i m)).toNat)) := (of_decide_eq_false h2); And.intro (sk (sk trivial)) (And.intro trivial (@Exists.intro (List Nat) (fun (ns : List Nat) => ns.length = 0 ∧ ((nat ((rsV q (ctE1 e m) (u64i m)).toNat)) : Value) = (fun (_ : List Nat) => nat (ctN q e m 1)) ns ∧ ([some ⟨r, true, 0, (.lit [(Value.slice ((rsQ q (ctE1 e m) (u64i m)).wa) ((rsQ q (ctE1 e m) (u64i m)).wn) ((rsQ q (ctE1 e m) (u64i m)).wc)), (int (rsE q (ctE1 e m) (u64i m)))])⟩] : List (Option Blk)) = (fun (_ : List Nat) => [some ⟨r, true, 0, (.lit [(slqV (ctQ q e m)), (int (ctE q e m 1))])⟩]) ns) [] (And.intro (@rfl Nat 0) (And.intro ((show (nat ((rsV q (ctE1 e m) (u64i m)).toNat)) = nat (ctN q e m 1) from by first | rw [(ct_in (by assumption)).2] <;> rfl | rw [(ct_out (by assumption)).2] <;> rfl)) ((show ([some ⟨r, true, 0, (.lit [(Value.slice ((rsQ q (ctE1 e m) (u64i m)).wa) ((rsQ q (ctE1 e m) (u64i m)).wn) ((rsQ q (ctE1 e m) (u64i m)).wc)), (int (rsE q (ctE1 e m) (u64i m)))])⟩] : List (Option Blk)) = [some ⟨r, true, 0, (.lit [(slqV (ctQ q e m)), (int (ctE q e m 1))])⟩] from by first | (rw [(ct_in (z := 1) (by assumption)).1] <;> rfl) | (rw [(ct_out (z := 1) (by assumption)).1] <;> rfl)))))))))))))) (fun (h1 : (decide ((m : Int) < 0)) = false) => have f3 : ¬ ((m : Int) < 0) := (of_decide_eq_false h1); And.intro (show (⟨[(0, .v (ptr r 0)), (1, .v (int m)), (2, .v (int 1)), (6, .v (int 0)), (8, .v (int m)), (9, .v (Value.bool (decide ((m : Int) < 0))))], [(0, some ⟨r, true, 0, (.lit [(Value.slice q.wa q.wn q.wc), (int e)])⟩)], 1⟩ : St) = ⟨[(0, .v (ptr r 0)), (1, .v (int m)), (2, .v (int 1)), (6, .v (int 0)), (8, .v (int m)), (9, .v (Value.bool (decide ((m : Int) < 0))))], [(0, some ⟨r, true, 0, (.lit [(Value.slice q.wa q.wn q.wc), (int (ctE1 e m))])⟩)], 1⟩ from congrArg (fun zz => (⟨[(0, .v (ptr r 0)), (1, .v (int m)), (2, .v (int 1)), (6, .v (int 0)), (8, .v (int m)), (9, .v (Value.bool (decide ((m : Int) < 0))))], [(0, some ⟨r, true, 0, (.lit [(Value.slice q.wa q.wn q.wc), (int zz)])⟩)], 1⟩ : St)) (show e = ctE1 e m from by unfold ctE1; first | rw [if_pos (by omega)] | rw [if_neg (by omega)])) (And.intro (sk (sk (And.intro (And.intro trivial (@conv_i64_u64 Try.prog 3 31 (.tmp 13) (by kernel_rfl) (by kernel_rfl) m)) (And.intro (And.intro trivial (RunsF.lendP (F' := (famB q)) (fun w hF => hF) (fun x hx => famB_part (show 0 < q.wn → 0 < q.wn from by omega) hx rfl) (rsmall_fam r q (ctE1 e m) (u64i m) hq (show q.wn ≤ 100000 from by omega)))) (And.intro (And.intro trivial (@conv_u64_int Try.prog 31 3 (.tmp 15) (by kernel_rfl) (by kernel_rfl) (rsV q (ctE1 e m) (u64i m)) (show (rsV q (ctE1 e m) (u64i m)).toNat ≤ 9223372036854775807 from by omega))) (sk trivial)))))) (And.intro (sk (sk (sk (sk (And.intro (And.intro trivial (ad r 0)) (And.intro (And.intro trivial (@is_len Try.prog 25 5 (.tmp 21) (by kernel_rfl) ((rsQ q (ctE1 e m) (u64i m)).wa) ((rsQ q (ctE1 e m) (u64i m)).wn) ((rsQ q (ctE1 e m) (u64i m)).wc))) (sk (And.intro (And.intro trivial (@is_quon Try.prog 3 3 (.tmp 22) (.tmp 23)  ((rsQ q (ctE1 e m) (u64i m)).wn) 1 (show 0 < 1 ∧ ((rsQ q (ctE1 e m) (u64i m)).wn) ≤ 9223372036854775807 from by have := rsQ_wn  q (ctE1 e m) (u64i m); omega))) (And.intro (And.intro trivial (@is_gtrn Try.prog 3 3 (.tmp 17) (.tmp 24)  ((rsV q (ctE1 e m) (u64i m)).toNat) (((rsQ q (ctE1 e m) (u64i m)).wn) / 1))) trivial))))))))) (And.intro trivial (And.intro (fun (h3 : (decide ((((rsQ q (ctE1 e m) (u64i m)).wn) / 1) < ((rsV q (ctE1 e m) (u64i m)).toNat))) = true) => have f4 : ((((rsQ q (ctE1 e m) (u64i m)).wn) / 1) < ((rsV q (ctE1 e m) (u64i m)).toNat)) := (of_decide_eq_true h3); And.intro (sk (And.intro (And.intro trivial (Runs.dark [false] (fail_runs r (Value.slice ((rsQ q (ctE1 e m) (u64i m)).wa) ((rsQ q (ctE1 e m) (u64i m)).wn) ((rsQ q (ctE1 e m) (u64i m)).wc)) (rsE q (ctE1 e m) (u64i m)) 3))) trivial)) (And.intro (sk trivial) (And.intro trivial (@Exists.intro (List Nat) (fun (ns : List Nat) => ns.length = 0 ∧ ((int 0) : Value) = (fun (_ : List Nat) => nat (ctN q e m 1)) ns ∧ ([some ⟨r, true, 0, (.lit [(Value.slice ((rsQ q (ctE1 e m) (u64i m)).wa) ((rsQ q (ctE1 e m) (u64i m)).wn) ((rsQ q (ctE1 e m) (u64i m)).wc)), (int (failE (rsE q (ctE1 e m) (u64i m)) 3))])⟩] : List (Option Blk)) = (fun (_ : List Nat) => [some ⟨r, true, 0, (.lit [(slqV (ctQ q e m)), (int (ctE q e m 1))])⟩]) ns) [] (And.intro (@rfl Nat 0) (And.intro ((show (int 0) = nat (ctN q e m 1) from by first | rw [(ct_in (by assumption)).2] <;> rfl | rw [(ct_out (by assumption)).2] <;> rfl)) ((show ([some ⟨r, true, 0, (.lit [(Value.slice ((rsQ q (ctE1 e m) (u64i m)).wa) ((rsQ q (ctE1 e m) (u64i m)).wn) ((rsQ q (ctE1 e m) (u64i m)).wc)), (int (failE (rsE q (ctE1 e m) (u64i m)) 3))])⟩] : List (Option Blk)) = [some ⟨r, true, 0, (.lit [(slqV (ctQ q e m)), (int (ctE q e m 1))])⟩] from by first | (rw [(ct_in (z := 1) (by assumption)).1] <;> rfl) | (rw [(ct_out (z := 1) (by assumption)).1] <;> rfl))))))))) (fun (h3 : (decide ((((rsQ q (ctE1 e m) (u64i m)).wn) / 1) < ((rsV q (ctE1 e m) (u64i m)).toNat))) = false) => have f4 : ¬ ((((rsQ q (ctE1 e m) (u64i m)).wn) / 1) < ((rsV q (ctE1 e m) (u64i m)).toNat)) := (of_decide_eq_false h3); And.intro (sk (sk trivial)) (And.intro trivial (@Exists.intro (List Nat) (fun (ns : List Nat) => ns.length = 0 ∧ ((nat ((rsV q (ctE1 e m) (u64i m)).toNat)) : Value) = (fun (_ : List Nat) => nat (ctN q e m 1)) ns ∧ ([some ⟨r, true, 0, (.lit [(Value.slice ((rsQ q (ctE1 e m) (u64i m)).wa) ((rsQ q (ctE1 e m) (u64i m)).wn) ((rsQ q (ctE1 e m) (u64i m)).wc)), (int (rsE q (ctE1 e m) (u64i m)))])⟩] : List (Option Blk)) = (fun (_ : List Nat) => [some ⟨r, true, 0, (.lit [(slqV (ctQ q e m)), (int (ctE q e m 1))])⟩]) ns) [] (And.intro (@rfl Nat 0) (And.intro ((show (nat ((rsV q (ctE1 e m) (u64i m)).toNat)) = nat (ctN q e m 1) from by first | rw [(ct_in (by assumption)).2] <;> rfl | rw [(ct_out (by assumption)).2] <;> rfl)) ((show ([some ⟨r, true, 0, (.lit [(Value.slice ((rsQ q (ctE1 e m) (u64i m)).wa) ((rsQ q (ctE1 e m) (u64i m)).wn) ((rsQ q (ctE1 e m) (u64i m)).wc)), (int (rsE q (ctE1 e m) (u64i m)))])⟩] : List (Option Blk)) = [some ⟨r, true, 0, (.lit [(slqV (ctQ q e m)), (int (ctE q e m 1))])⟩] from by first | (rw [(ct_in (z := 1) (by assumption)).1] <;> rfl) | (rw [(ct_out (z := 1) (by assumption)).1] <;> rfl))))))))))))))))))
theorem count_32 (r : Nat) (q : BytL) (e m : Int) (hq : OkB q) (hl : q.wn ≤ 100000) (hm : m ≤ 9223372036854775807) : RunsF (famB q) Try.prog 34 [(ptr r 0), (int m), (int 32)] [⟨r, true, 0, (.lit [(Value.slice q.wa q.wn q.wc), (int e)])⟩] 0 (fun (_ : List Nat) => nat (ctN q e m 32)) (fun (_ : List Nat) => [some ⟨r, true, 0, (.lit [(slqV (ctQ q e m)), (int (ctE q e m 32))])⟩]) :=
  runsF_of_ev (F := (famB q)) mix Try.func34 rfl rfl 400 (.reg [(0, .g)] (.reg [(0, .g), (1, .g)] (.br (.reg [(0, .g), (1, (.call [(0, false)] 0 0 (fun _ => (Value.tuple #[])) (fun _ => [some ⟨r, true, 0, (.lit [(Value.slice q.wa q.wn q.wc), (int (failE e 2))])⟩])))] (.keep [0, 1, 2, 6, 8, 9, 10, 11] [0] 1 (.told ⟨[(0, .v (ptr r 0)), (1, .v (int m)), (2, .v (int 32)), (6, .v (int 0)), (8, .v (int m)), (9, .v (Value.bool (decide ((m : Int) < 0)))), (10, .v (ptr r 0)), (11, .v (Value.tuple #[]))], [(0, some ⟨r, true, 0, (.lit [(Value.slice q.wa q.wn q.wc), (int (ctE1 e m))])⟩)], 1⟩ (.reg [(0, .g), (1, .g), (2, (.as (u64 (u64i m)))), (3, (.callF [(0, false)] 0 0 (fun _ => (u64 (rsV q (ctE1 e m) (u64i m)))) (fun _ => [some ⟨r, true, 0, (.lit [(slqV (rsQ q (ctE1 e m) (u64i m))), (int (rsE q (ctE1 e m) (u64i m)))])⟩]))), (4, (.as (nat ((rsV q (ctE1 e m) (u64i m)).toNat)))), (5, .g)] (.reg [(0, .g), (1, .g), (2, .g), (3, .g), (4, (.ld 0 (.lit 0))), (5, (.as (nat ((rsQ q (ctE1 e m) (u64i m)).wn)))), (6, .g), (7, (.as (nat (((rsQ q (ctE1 e m) (u64i m)).wn) / 32)))), (8, (.as (Value.bool (decide ((((rsQ q (ctE1 e m) (u64i m)).wn) / 32) < ((rsV q (ctE1 e m) (u64i m)).toNat))))))] (.br (.reg [(0, .g), (1, (.call [(0, false)] 0 0 (fun _ => (Value.tuple #[])) (fun _ => [some ⟨r, true, 0, (.lit [(Value.slice ((rsQ q (ctE1 e m) (u64i m)).wa) ((rsQ q (ctE1 e m) (u64i m)).wn) ((rsQ q (ctE1 e m) (u64i m)).wc)), (int (failE (rsE q (ctE1 e m) (u64i m)) 3))])⟩])))] (.reg [(0, .g)] .done)) (.reg [(0, .g), (1, .g)] .done))))))) (.keep [0, 1, 2, 6, 8, 9] [0] 1 (.told ⟨[(0, .v (ptr r 0)), (1, .v (int m)), (2, .v (int 32)), (6, .v (int 0)), (8, .v (int m)), (9, .v (Value.bool (decide ((m : Int) < 0))))], [(0, some ⟨r, true, 0, (.lit [(Value.slice q.wa q.wn q.wc), (int (ctE1 e m))])⟩)], 1⟩ (.reg [(0, .g), (1, .g), (2, (.as (u64 (u64i m)))), (3, (.callF [(0, false)] 0 0 (fun _ => (u64 (rsV q (ctE1 e m) (u64i m)))) (fun _ => [some ⟨r, true, 0, (.lit [(slqV (rsQ q (ctE1 e m) (u64i m))), (int (rsE q (ctE1 e m) (u64i m)))])⟩]))), (4, (.as (nat ((rsV q (ctE1 e m) (u64i m)).toNat)))), (5, .g)] (.reg [(0, .g), (1, .g), (2, .g), (3, .g), (4, (.ld 0 (.lit 0))), (5, (.as (nat ((rsQ q (ctE1 e m) (u64i m)).wn)))), (6, .g), (7, (.as (nat (((rsQ q (ctE1 e m) (u64i m)).wn) / 32)))), (8, (.as (Value.bool (decide ((((rsQ q (ctE1 e m) (u64i m)).wn) / 32) < ((rsV q (ctE1 e m) (u64i m)).toNat))))))] (.br (.reg [(0, .g), (1, (.call [(0, false)] 0 0 (fun _ => (Value.tuple #[])) (fun _ => [some ⟨r, true, 0, (.lit [(Value.slice ((rsQ q (ctE1 e m) (u64i m)).wa) ((rsQ q (ctE1 e m) (u64i m)).wn) ((rsQ q (ctE1 e m) (u64i m)).wc)), (int (failE (rsE q (ctE1 e m) (u64i m)) 3))])⟩])))] (.reg [(0, .g)] .done)) (.reg [(0, .g), (1, .g)] .done))))))))) [] [] rfl
    (have f0 : q.wn ≤ 100000 := hl; have f1 : q.wn ≤ q.wc := hq.cap; have f2 : (rsV q (ctE1 e m) (u64i m)).toNat ≤ 9223372036854775807 := (ctV_le hm); Eq.mp (by kernel_rfl) (And.intro (sk trivial) (And.intro (sk (sk trivial)) (And.intro trivial (And.intro (fun (h1 : (decide ((m : Int) < 0)) = true) => have f3 : ((m : Int) < 0) := (of_decide_eq_true h1); And.intro (sk (And.intro (And.intro trivial (Runs.dark [false] (fail_runs r (Value.slice q.wa q.wn q.wc) e 2))) trivial)) (And.intro (show (⟨[(0, .v (ptr r 0)), (1, .v (int m)), (2, .v (int 32)), (6, .v (int 0)), (8, .v (int m)), (9, .v (Value.bool (decide ((m : Int) < 0)))), (10, .v (ptr r 0)), (11, .v (Value.tuple #[]))], [(0, some ⟨r, true, 0, (.lit [(Value.slice q.wa q.wn q.wc), (int (failE e 2))])⟩)], 1⟩ : St) = ⟨[(0, .v (ptr r 0)), (1, .v (int m)), (2, .v (int 32)), (6, .v (int 0)), (8, .v (int m)), (9, .v (Value.bool (decide ((m : Int) < 0)))), (10, .v (ptr r 0)), (11, .v (Value.tuple #[]))], [(0, some ⟨r, true, 0, (.lit [(Value.slice q.wa q.wn q.wc), (int (ctE1 e m))])⟩)], 1⟩ from by have ee : failE e 2 = ctE1 e m := (by unfold ctE1; first | rw [if_pos (by omega)] | rw [if_neg (by omega)]); rw [ee]) (And.intro (sk (sk (And.intro (And.intro trivial (@conv_i64_u64 Try.prog 3 31 (.tmp 13) (by kernel_rfl) (by kernel_rfl) m)) (And.intro (And.intro trivial (RunsF.lendP (F' := (famB q)) (fun w hF => hF) (fun x hx => famB_part (show 0 < q.wn → 0 < q.wn from by omega) hx rfl) (rsmall_fam r q (ctE1 e m) (u64i m) hq (show q.wn ≤ 100000 from by omega)))) (And.intro (And.intro trivial (@conv_u64_int Try.prog 31 3 (.tmp 15) (by kernel_rfl) (by kernel_rfl) (rsV q (ctE1 e m) (u64i m)) (show (rsV q (ctE1 e m) (u64i m)).toNat ≤ 9223372036854775807 from by omega))) (sk trivial)))))) (And.intro (sk (sk (sk (sk (And.intro (And.intro trivial (ad r 0)) (And.intro (And.intro trivial (@is_len Try.prog 25 5 (.tmp 21) (by kernel_rfl) ((rsQ q (ctE1 e m) (u64i m)).wa) ((rsQ q (ctE1 e m) (u64i m)).wn) ((rsQ q (ctE1 e m) (u64i m)).wc))) (sk (And.intro (And.intro trivial (@is_quon Try.prog 3 3 (.tmp 22) (.tmp 23)  ((rsQ q (ctE1 e m) (u64i m)).wn) 32 (show 0 < 32 ∧ ((rsQ q (ctE1 e m) (u64i m)).wn) ≤ 9223372036854775807 from by have := rsQ_wn  q (ctE1 e m) (u64i m); omega))) (And.intro (And.intro trivial (@is_gtrn Try.prog 3 3 (.tmp 17) (.tmp 24)  ((rsV q (ctE1 e m) (u64i m)).toNat) (((rsQ q (ctE1 e m) (u64i m)).wn) / 32))) trivial))))))))) (And.intro trivial (And.intro (fun (h2 : (decide ((((rsQ q (ctE1 e m) (u64i m)).wn) / 32) < ((rsV q (ctE1 e m) (u64i m)).toNat))) = true) => have f4 : ((((rsQ q (ctE1 e m) (u64i m)).wn) / 32) < ((rsV q (ctE1 e m) (u64i m)).toNat)) := (of_decide_eq_true h2); And.intro (sk (And.intro (And.intro trivial (Runs.dark [false] (fail_runs r (Value.slice ((rsQ q (ctE1 e m) (u64i m)).wa) ((rsQ q (ctE1 e m) (u64i m)).wn) ((rsQ q (ctE1 e m) (u64i m)).wc)) (rsE q (ctE1 e m) (u64i m)) 3))) trivial)) (And.intro (sk trivial) (And.intro trivial (@Exists.intro (List Nat) (fun (ns : List Nat) => ns.length = 0 ∧ ((int 0) : Value) = (fun (_ : List Nat) => nat (ctN q e m 32)) ns ∧ ([some ⟨r, true, 0, (.lit [(Value.slice ((rsQ q (ctE1 e m) (u64i m)).wa) ((rsQ q (ctE1 e m) (u64i m)).wn) ((rsQ q (ctE1 e m) (u64i m)).wc)), (int (failE (rsE q (ctE1 e m) (u64i m)) 3))])⟩] : List (Option Blk)) = (fun (_ : List Nat) => [some ⟨r, true, 0, (.lit [(slqV (ctQ q e m)), (int (ctE q e m 32))])⟩]) ns) [] (And.intro (@rfl Nat 0) (And.intro ((show (int 0) = nat (ctN q e m 32) from by first | rw [(ct_in (by assumption)).2] <;> rfl | rw [(ct_out (by assumption)).2] <;> rfl)) ((show ([some ⟨r, true, 0, (.lit [(Value.slice ((rsQ q (ctE1 e m) (u64i m)).wa) ((rsQ q (ctE1 e m) (u64i m)).wn) ((rsQ q (ctE1 e m) (u64i m)).wc)), (int (failE (rsE q (ctE1 e m) (u64i m)) 3))])⟩] : List (Option Blk)) = [some ⟨r, true, 0, (.lit [(slqV (ctQ q e m)), (int (ctE q e m 32))])⟩] from by first | (rw [(ct_in (z := 32) (by assumption)).1] <;> rfl) | (rw [(ct_out (z := 32) (by assumption)).1] <;> rfl))))))))) (fun (h2 : (decide ((((rsQ q (ctE1 e m) (u64i m)).wn) / 32) < ((rsV q (ctE1 e m) (u64i m)).toNat))) = false) => have f4 : ¬ ((((rsQ q (ctE1 e m) (u64i m)).wn) / 32) < ((rsV q (ctE1 e m) (u64i m)).toNat)) := (of_decide_eq_false h2); And.intro (sk (sk trivial)) (And.intro trivial (@Exists.intro (List Nat) (fun (ns : List Nat) => ns.length = 0 ∧ ((nat ((rsV q (ctE1 e m) (u64i m)).toNat)) : Value) = (fun (_ : List Nat) => nat (ctN q e m 32)) ns ∧ ([some ⟨r, true, 0, (.lit [(Value.slice ((rsQ q (ctE1 e m) (u64i m)).wa) ((rsQ q (ctE1 e m) (u64i m)).wn) ((rsQ q (ctE1 e m) (u64i m)).wc)), (int (rsE q (ctE1 e m) (u64i m)))])⟩] : List (Option Blk)) = (fun (_ : List Nat) => [some ⟨r, true, 0, (.lit [(slqV (ctQ q e m)), (int (ctE q e m 32))])⟩]) ns) [] (And.intro (@rfl Nat 0) (And.intro ((show (nat ((rsV q (ctE1 e m) (u64i m)).toNat)) = nat (ctN q e m 32) from by first | rw [(ct_in (by assumption)).2] <;> rfl | rw [(ct_out (by assumption)).2] <;> rfl)) ((show ([some ⟨r, true, 0, (.lit [(Value.slice ((rsQ q (ctE1 e m) (u64i m)).wa) ((rsQ q (ctE1 e m) (u64i m)).wn) ((rsQ q (ctE1 e m) (u64i m)).wc)), (int (rsE q (ctE1 e m) (u64i m)))])⟩] : List (Option Blk)) = [some ⟨r, true, 0, (.lit [(slqV (ctQ q e m)), (int (ctE q e m 32))])⟩] from by first | (rw [(ct_in (z := 32) (by assumption)).1] <;> rfl) | (rw [(ct_out (z := 32) (by assumption)).1] <;> rfl)))))))))))))) (fun (h1 : (decide ((m : Int) < 0)) = false) => have f3 : ¬ ((m : Int) < 0) := (of_decide_eq_false h1); And.intro (show (⟨[(0, .v (ptr r 0)), (1, .v (int m)), (2, .v (int 32)), (6, .v (int 0)), (8, .v (int m)), (9, .v (Value.bool (decide ((m : Int) < 0))))], [(0, some ⟨r, true, 0, (.lit [(Value.slice q.wa q.wn q.wc), (int e)])⟩)], 1⟩ : St) = ⟨[(0, .v (ptr r 0)), (1, .v (int m)), (2, .v (int 32)), (6, .v (int 0)), (8, .v (int m)), (9, .v (Value.bool (decide ((m : Int) < 0))))], [(0, some ⟨r, true, 0, (.lit [(Value.slice q.wa q.wn q.wc), (int (ctE1 e m))])⟩)], 1⟩ from congrArg (fun zz => (⟨[(0, .v (ptr r 0)), (1, .v (int m)), (2, .v (int 32)), (6, .v (int 0)), (8, .v (int m)), (9, .v (Value.bool (decide ((m : Int) < 0))))], [(0, some ⟨r, true, 0, (.lit [(Value.slice q.wa q.wn q.wc), (int zz)])⟩)], 1⟩ : St)) (show e = ctE1 e m from by unfold ctE1; first | rw [if_pos (by omega)] | rw [if_neg (by omega)])) (And.intro (sk (sk (And.intro (And.intro trivial (@conv_i64_u64 Try.prog 3 31 (.tmp 13) (by kernel_rfl) (by kernel_rfl) m)) (And.intro (And.intro trivial (RunsF.lendP (F' := (famB q)) (fun w hF => hF) (fun x hx => famB_part (show 0 < q.wn → 0 < q.wn from by omega) hx rfl) (rsmall_fam r q (ctE1 e m) (u64i m) hq (show q.wn ≤ 100000 from by omega)))) (And.intro (And.intro trivial (@conv_u64_int Try.prog 31 3 (.tmp 15) (by kernel_rfl) (by kernel_rfl) (rsV q (ctE1 e m) (u64i m)) (show (rsV q (ctE1 e m) (u64i m)).toNat ≤ 9223372036854775807 from by omega))) (sk trivial)))))) (And.intro (sk (sk (sk (sk (And.intro (And.intro trivial (ad r 0)) (And.intro (And.intro trivial (@is_len Try.prog 25 5 (.tmp 21) (by kernel_rfl) ((rsQ q (ctE1 e m) (u64i m)).wa) ((rsQ q (ctE1 e m) (u64i m)).wn) ((rsQ q (ctE1 e m) (u64i m)).wc))) (sk (And.intro (And.intro trivial (@is_quon Try.prog 3 3 (.tmp 22) (.tmp 23)  ((rsQ q (ctE1 e m) (u64i m)).wn) 32 (show 0 < 32 ∧ ((rsQ q (ctE1 e m) (u64i m)).wn) ≤ 9223372036854775807 from by have := rsQ_wn  q (ctE1 e m) (u64i m); omega))) (And.intro (And.intro trivial (@is_gtrn Try.prog 3 3 (.tmp 17) (.tmp 24)  ((rsV q (ctE1 e m) (u64i m)).toNat) (((rsQ q (ctE1 e m) (u64i m)).wn) / 32))) trivial))))))))) (And.intro trivial (And.intro (fun (h3 : (decide ((((rsQ q (ctE1 e m) (u64i m)).wn) / 32) < ((rsV q (ctE1 e m) (u64i m)).toNat))) = true) => have f4 : ((((rsQ q (ctE1 e m) (u64i m)).wn) / 32) < ((rsV q (ctE1 e m) (u64i m)).toNat)) := (of_decide_eq_true h3); And.intro (sk (And.intro (And.intro trivial (Runs.dark [false] (fail_runs r (Value.slice ((rsQ q (ctE1 e m) (u64i m)).wa) ((rsQ q (ctE1 e m) (u64i m)).wn) ((rsQ q (ctE1 e m) (u64i m)).wc)) (rsE q (ctE1 e m) (u64i m)) 3))) trivial)) (And.intro (sk trivial) (And.intro trivial (@Exists.intro (List Nat) (fun (ns : List Nat) => ns.length = 0 ∧ ((int 0) : Value) = (fun (_ : List Nat) => nat (ctN q e m 32)) ns ∧ ([some ⟨r, true, 0, (.lit [(Value.slice ((rsQ q (ctE1 e m) (u64i m)).wa) ((rsQ q (ctE1 e m) (u64i m)).wn) ((rsQ q (ctE1 e m) (u64i m)).wc)), (int (failE (rsE q (ctE1 e m) (u64i m)) 3))])⟩] : List (Option Blk)) = (fun (_ : List Nat) => [some ⟨r, true, 0, (.lit [(slqV (ctQ q e m)), (int (ctE q e m 32))])⟩]) ns) [] (And.intro (@rfl Nat 0) (And.intro ((show (int 0) = nat (ctN q e m 32) from by first | rw [(ct_in (by assumption)).2] <;> rfl | rw [(ct_out (by assumption)).2] <;> rfl)) ((show ([some ⟨r, true, 0, (.lit [(Value.slice ((rsQ q (ctE1 e m) (u64i m)).wa) ((rsQ q (ctE1 e m) (u64i m)).wn) ((rsQ q (ctE1 e m) (u64i m)).wc)), (int (failE (rsE q (ctE1 e m) (u64i m)) 3))])⟩] : List (Option Blk)) = [some ⟨r, true, 0, (.lit [(slqV (ctQ q e m)), (int (ctE q e m 32))])⟩] from by first | (rw [(ct_in (z := 32) (by assumption)).1] <;> rfl) | (rw [(ct_out (z := 32) (by assumption)).1] <;> rfl))))))))) (fun (h3 : (decide ((((rsQ q (ctE1 e m) (u64i m)).wn) / 32) < ((rsV q (ctE1 e m) (u64i m)).toNat))) = false) => have f4 : ¬ ((((rsQ q (ctE1 e m) (u64i m)).wn) / 32) < ((rsV q (ctE1 e m) (u64i m)).toNat)) := (of_decide_eq_false h3); And.intro (sk (sk trivial)) (And.intro trivial (@Exists.intro (List Nat) (fun (ns : List Nat) => ns.length = 0 ∧ ((nat ((rsV q (ctE1 e m) (u64i m)).toNat)) : Value) = (fun (_ : List Nat) => nat (ctN q e m 32)) ns ∧ ([some ⟨r, true, 0, (.lit [(Value.slice ((rsQ q (ctE1 e m) (u64i m)).wa) ((rsQ q (ctE1 e m) (u64i m)).wn) ((rsQ q (ctE1 e m) (u64i m)).wc)), (int (rsE q (ctE1 e m) (u64i m)))])⟩] : List (Option Blk)) = (fun (_ : List Nat) => [some ⟨r, true, 0, (.lit [(slqV (ctQ q e m)), (int (ctE q e m 32))])⟩]) ns) [] (And.intro (@rfl Nat 0) (And.intro ((show (nat ((rsV q (ctE1 e m) (u64i m)).toNat)) = nat (ctN q e m 32) from by first | rw [(ct_in (by assumption)).2] <;> rfl | rw [(ct_out (by assumption)).2] <;> rfl)) ((show ([some ⟨r, true, 0, (.lit [(Value.slice ((rsQ q (ctE1 e m) (u64i m)).wa) ((rsQ q (ctE1 e m) (u64i m)).wn) ((rsQ q (ctE1 e m) (u64i m)).wc)), (int (rsE q (ctE1 e m) (u64i m)))])⟩] : List (Option Blk)) = [some ⟨r, true, 0, (.lit [(slqV (ctQ q e m)), (int (ctE q e m 32))])⟩] from by first | (rw [(ct_in (z := 32) (by assumption)).1] <;> rfl) | (rw [(ct_out (z := 32) (by assumption)).1] <;> rfl))))))))))))))))))
theorem take_bad (r : Nat) (q : BytL) (e : Int) (n : Nat) (hq : OkB q) (hl : q.wn ≤ 100000) (h : tkE q e n ≠ 0) : RunsF (famB q) Try.prog 33 [(ptr r 0), (nat n)] [⟨r, true, 0, (.lit [(Value.slice q.wa q.wn q.wc), (int e)])⟩] 0 (fun (_ : List Nat) => (Value.slice none 0 0)) (fun (_ : List Nat) => [some ⟨r, true, 0, (.lit [(slqV (tkQ q e n)), (int (tkE q e n))])⟩]) :=
  runsF_of_ev (F := (famB q)) mix Try.func33 rfl rfl 400 (.reg [(0, .g)] (.reg [(0, .g), (1, .g), (2, .g), (3, (.ld 0 (.lit 0))), (4, (.as (nat q.wn))), (5, .g), (6, (.as (Value.bool (decide (q.wn < n)))))] (.br (.reg [(0, .g), (1, (.call [(0, false)] 0 0 (fun _ => (Value.tuple #[])) (fun _ => [some ⟨r, true, 0, (.lit [(Value.slice q.wa q.wn q.wc), (int (failE e 3))])⟩])))] (.keep [0, 1, 4, 6, 7, 8, 9, 10, 11, 12, 13, 14] [0] 1 (.told ⟨[(0, .v (ptr r 0)), (1, .v (nat n)), (4, .v (Value.slice none 0 0)), (6, .v (ptr r 0)), (7, .v (ptr r 0)), (8, .v (ptr r 0)), (9, .v (Value.slice q.wa q.wn q.wc)), (10, .v (nat q.wn)), (11, .v (nat n)), (12, .v (Value.bool (decide (q.wn < n)))), (13, .v (ptr r 0)), (14, .v (Value.tuple #[]))], [(0, some ⟨r, true, 0, (.lit [(Value.slice q.wa q.wn q.wc), (int (tkE q e n))])⟩)], 1⟩ (.reg [(0, .g), (1, .g), (2, .g), (3, (.ld 0 (.lit 1))), (4, .g)] (.yes (.reg [(0, .g)] .done)))))) (.keep [0, 1, 4, 6, 7, 8, 9, 10, 11, 12] [0] 1 (.told ⟨[(0, .v (ptr r 0)), (1, .v (nat n)), (4, .v (Value.slice none 0 0)), (6, .v (ptr r 0)), (7, .v (ptr r 0)), (8, .v (ptr r 0)), (9, .v (Value.slice q.wa q.wn q.wc)), (10, .v (nat q.wn)), (11, .v (nat n)), (12, .v (Value.bool (decide (q.wn < n))))], [(0, some ⟨r, true, 0, (.lit [(Value.slice q.wa q.wn q.wc), (int (tkE q e n))])⟩)], 1⟩ (.reg [(0, .g), (1, .g), (2, .g), (3, (.ld 0 (.lit 1))), (4, .g)] (.yes (.reg [(0, .g)] .done)))))))) [] [] rfl
    (have f0 : q.wn ≤ 100000 := hl; have f1 : q.wn ≤ q.wc := hq.cap; Eq.mp (by kernel_rfl) (And.intro (sk trivial) (And.intro (sk (sk (sk (And.intro (And.intro trivial (ad r 0)) (And.intro (And.intro trivial (@is_len Try.prog 25 5 (.tmp 9) (by kernel_rfl) q.wa q.wn q.wc)) (sk (And.intro (And.intro trivial (@is_lssn Try.prog 3 3 (.tmp 10) (.tmp 11)  q.wn n)) trivial))))))) (And.intro trivial (And.intro (fun (h1 : (decide (q.wn < n)) = true) => have f2 : (q.wn < n) := (of_decide_eq_true h1); And.intro (sk (And.intro (And.intro trivial (Runs.dark [false] (fail_runs r (Value.slice q.wa q.wn q.wc) e 3))) trivial)) (And.intro (show (⟨[(0, .v (ptr r 0)), (1, .v (nat n)), (4, .v (Value.slice none 0 0)), (6, .v (ptr r 0)), (7, .v (ptr r 0)), (8, .v (ptr r 0)), (9, .v (Value.slice q.wa q.wn q.wc)), (10, .v (nat q.wn)), (11, .v (nat n)), (12, .v (Value.bool (decide (q.wn < n)))), (13, .v (ptr r 0)), (14, .v (Value.tuple #[]))], [(0, some ⟨r, true, 0, (.lit [(Value.slice q.wa q.wn q.wc), (int (failE e 3))])⟩)], 1⟩ : St) = ⟨[(0, .v (ptr r 0)), (1, .v (nat n)), (4, .v (Value.slice none 0 0)), (6, .v (ptr r 0)), (7, .v (ptr r 0)), (8, .v (ptr r 0)), (9, .v (Value.slice q.wa q.wn q.wc)), (10, .v (nat q.wn)), (11, .v (nat n)), (12, .v (Value.bool (decide (q.wn < n)))), (13, .v (ptr r 0)), (14, .v (Value.tuple #[]))], [(0, some ⟨r, true, 0, (.lit [(Value.slice q.wa q.wn q.wc), (int (tkE q e n))])⟩)], 1⟩ from by have ee : failE e 3 = tkE q e n := (by unfold tkE; first | rw [if_pos (by omega)] | rw [if_neg (by omega)]); rw [ee]) (And.intro (sk (sk (sk (And.intro (And.intro trivial (ad r 1)) (sk trivial))))) ((fun (hp2 : (((tkE q e n) : Int) != 0) = true) => have f3 : (((tkE q e n) : Int) != 0) = true := hp2; And.intro trivial (And.intro hp2 (And.intro (sk trivial) (And.intro trivial (@Exists.intro (List Nat) (fun (ns : List Nat) => ns.length = 0 ∧ ((Value.slice none 0 0) : Value) = (fun (_ : List Nat) => (Value.slice none 0 0)) ns ∧ ([some ⟨r, true, 0, (.lit [(Value.slice q.wa q.wn q.wc), (int (tkE q e n))])⟩] : List (Option Blk)) = (fun (_ : List Nat) => [some ⟨r, true, 0, (.lit [(slqV (tkQ q e n)), (int (tkE q e n))])⟩]) ns) [] (And.intro (@rfl Nat 0) (And.intro (@rfl Value (Value.slice none 0 0)) ((show ([some ⟨r, true, 0, (.lit [(Value.slice q.wa q.wn q.wc), (int (tkE q e n))])⟩] : List (Option Blk)) = [some ⟨r, true, 0, (.lit [(slqV (tkQ q e n)), (int (tkE q e n))])⟩] from by rw [tk_out h] <;> rfl))))))))) (show (((tkE q e n) : Int) != 0) = true from by simpa using h))))) (fun (h1 : (decide (q.wn < n)) = false) => have f2 : ¬ (q.wn < n) := (of_decide_eq_false h1); And.intro (show (⟨[(0, .v (ptr r 0)), (1, .v (nat n)), (4, .v (Value.slice none 0 0)), (6, .v (ptr r 0)), (7, .v (ptr r 0)), (8, .v (ptr r 0)), (9, .v (Value.slice q.wa q.wn q.wc)), (10, .v (nat q.wn)), (11, .v (nat n)), (12, .v (Value.bool (decide (q.wn < n))))], [(0, some ⟨r, true, 0, (.lit [(Value.slice q.wa q.wn q.wc), (int e)])⟩)], 1⟩ : St) = ⟨[(0, .v (ptr r 0)), (1, .v (nat n)), (4, .v (Value.slice none 0 0)), (6, .v (ptr r 0)), (7, .v (ptr r 0)), (8, .v (ptr r 0)), (9, .v (Value.slice q.wa q.wn q.wc)), (10, .v (nat q.wn)), (11, .v (nat n)), (12, .v (Value.bool (decide (q.wn < n))))], [(0, some ⟨r, true, 0, (.lit [(Value.slice q.wa q.wn q.wc), (int (tkE q e n))])⟩)], 1⟩ from congrArg (fun zz => (⟨[(0, .v (ptr r 0)), (1, .v (nat n)), (4, .v (Value.slice none 0 0)), (6, .v (ptr r 0)), (7, .v (ptr r 0)), (8, .v (ptr r 0)), (9, .v (Value.slice q.wa q.wn q.wc)), (10, .v (nat q.wn)), (11, .v (nat n)), (12, .v (Value.bool (decide (q.wn < n))))], [(0, some ⟨r, true, 0, (.lit [(Value.slice q.wa q.wn q.wc), (int zz)])⟩)], 1⟩ : St)) (show e = tkE q e n from by unfold tkE; first | rw [if_pos (by omega)] | rw [if_neg (by omega)])) (And.intro (sk (sk (sk (And.intro (And.intro trivial (ad r 1)) (sk trivial))))) ((fun (hp3 : (((tkE q e n) : Int) != 0) = true) => have f3 : (((tkE q e n) : Int) != 0) = true := hp3; And.intro trivial (And.intro hp3 (And.intro (sk trivial) (And.intro trivial (@Exists.intro (List Nat) (fun (ns : List Nat) => ns.length = 0 ∧ ((Value.slice none 0 0) : Value) = (fun (_ : List Nat) => (Value.slice none 0 0)) ns ∧ ([some ⟨r, true, 0, (.lit [(Value.slice q.wa q.wn q.wc), (int (tkE q e n))])⟩] : List (Option Blk)) = (fun (_ : List Nat) => [some ⟨r, true, 0, (.lit [(slqV (tkQ q e n)), (int (tkE q e n))])⟩]) ns) [] (And.intro (@rfl Nat 0) (And.intro (@rfl Value (Value.slice none 0 0)) ((show ([some ⟨r, true, 0, (.lit [(Value.slice q.wa q.wn q.wc), (int (tkE q e n))])⟩] : List (Option Blk)) = [some ⟨r, true, 0, (.lit [(slqV (tkQ q e n)), (int (tkE q e n))])⟩] from by rw [tk_out h] <;> rfl))))))))) (show (((tkE q e n) : Int) != 0) = true from by simpa using h)))))))))
theorem take_pos (r : Nat) (q : BytL) (e : Int) (n : Nat) (hq : OkB q) (hl : q.wn ≤ 100000) (h : tkE q e n = 0) (h0 : 0 < n) : RunsF (famB q) Try.prog 33 [(ptr r 0), (nat n)] [⟨r, true, 0, (.lit [(Value.slice q.wa q.wn q.wc), (int e)])⟩] 2 (fun (ns : List Nat) => (Value.slice (some ⟨(ns.getD 0 0), 0, none⟩) n (n + (ns.getD 1 0)))) (fun (ns : List Nat) => [some ⟨r, true, 0, (.lit [(slqV (tkQ q e n)), (int (tkE q e n))])⟩, some ⟨(ns.getD 0 0), true, 0, (spr (n + (ns.getD 1 0)) n (fun k => u8 (q.wf k)) (u8 0))⟩]) :=
  runsF_of_ev (F := (famB q)) mix Try.func33 rfl rfl 400 (.reg [(0, .g)] (.reg [(0, .g), (1, .g), (2, .g), (3, (.ld 0 (.lit 0))), (4, (.as (nat q.wn))), (5, .g), (6, (.as (Value.bool (decide (q.wn < n)))))] (.no (.keep [0, 1, 4, 6, 7, 8, 9, 10, 11, 12] [0] 1 (.told ⟨[(0, .v (ptr r 0)), (1, .v (nat n)), (4, .v (Value.slice none 0 0)), (6, .v (ptr r 0)), (7, .v (ptr r 0)), (8, .v (ptr r 0)), (9, .v (Value.slice q.wa q.wn q.wc)), (10, .v (nat q.wn)), (11, .v (nat n)), (12, .v (Value.bool (decide (q.wn < n))))], [(0, some ⟨r, true, 0, (.lit [(Value.slice q.wa q.wn q.wc), (int (tkE q e n))])⟩)], 1⟩ (.reg [(0, .g), (1, .g), (2, .g), (3, (.ld 0 (.lit 1))), (4, .g)] (.no (.regn [(0, .g), (1, .g), (2, .g), (3, (.ld 0 (.lit 0))), (4, .g), (5, (.as (Value.slice q.wa n q.wc))), (6, (.callF [] 2 1 (fun ns => Value.slice (some ⟨(ns.getD 0 0), 0, none⟩) n (n + (ns.getD 1 0))) (fun ns => [some ⟨(ns.getD 0 0), true, 0, (spr (n + (ns.getD 1 0)) n (fun k => u8 (q.wf k)) (u8 0))⟩]))), (7, .g)] (more (fun n1 => more (fun n2 => fun _ => (.reg [(0, .g), (1, .g), (2, .g), (3, .g), (4, (.ld 0 (.lit 0))), (5, .g), (6, (.as (Value.slice (fromA q.wa q.wc n 1) (q.wn - n) (q.wc - n)))), (7, .g), (8, .g), (9, (.st 0 (.lit 0)))] (.reg [(0, .g), (1, .g)] .done))))))))))))) [] [1] rfl
    (have f0 : q.wn ≤ 100000 := hl; have f1 : q.wn ≤ q.wc := hq.cap; have f2 : 0 < n := h0; have f3 : n ≤ q.wn := (tkE_zero h).2; Eq.mp (by kernel_rfl) (And.intro (sk trivial) (And.intro (sk (sk (sk (And.intro (And.intro trivial (ad r 0)) (And.intro (And.intro trivial (@is_len Try.prog 25 5 (.tmp 9) (by kernel_rfl) q.wa q.wn q.wc)) (sk (And.intro (And.intro trivial (@is_lssn Try.prog 3 3 (.tmp 10) (.tmp 11)  q.wn n)) trivial))))))) ((fun (hp1 : (decide (q.wn < n)) = false) => have f4 : ¬ (q.wn < n) := (of_decide_eq_false hp1); And.intro trivial (And.intro hp1 (And.intro (show (⟨[(0, .v (ptr r 0)), (1, .v (nat n)), (4, .v (Value.slice none 0 0)), (6, .v (ptr r 0)), (7, .v (ptr r 0)), (8, .v (ptr r 0)), (9, .v (Value.slice q.wa q.wn q.wc)), (10, .v (nat q.wn)), (11, .v (nat n)), (12, .v (Value.bool (decide (q.wn < n))))], [(0, some ⟨r, true, 0, (.lit [(Value.slice q.wa q.wn q.wc), (int e)])⟩)], 1⟩ : St) = ⟨[(0, .v (ptr r 0)), (1, .v (nat n)), (4, .v (Value.slice none 0 0)), (6, .v (ptr r 0)), (7, .v (ptr r 0)), (8, .v (ptr r 0)), (9, .v (Value.slice q.wa q.wn q.wc)), (10, .v (nat q.wn)), (11, .v (nat n)), (12, .v (Value.bool (decide (q.wn < n))))], [(0, some ⟨r, true, 0, (.lit [(Value.slice q.wa q.wn q.wc), (int (tkE q e n))])⟩)], 1⟩ from congrArg (fun zz => (⟨[(0, .v (ptr r 0)), (1, .v (nat n)), (4, .v (Value.slice none 0 0)), (6, .v (ptr r 0)), (7, .v (ptr r 0)), (8, .v (ptr r 0)), (9, .v (Value.slice q.wa q.wn q.wc)), (10, .v (nat q.wn)), (11, .v (nat n)), (12, .v (Value.bool (decide (q.wn < n))))], [(0, some ⟨r, true, 0, (.lit [(Value.slice q.wa q.wn q.wc), (int zz)])⟩)], 1⟩ : St)) (show e = tkE q e n from by unfold tkE; first | rw [if_pos (by omega)] | rw [if_neg (by omega)])) (And.intro (sk (sk (sk (And.intro (And.intro trivial (ad r 1)) (sk trivial))))) ((fun (hp2 : (((tkE q e n) : Int) != 0) = false) => have f5 : (((tkE q e n) : Int) != 0) = false := hp2; And.intro trivial (And.intro hp2 (fun (n1 n2 : Nat) => And.intro (sk (sk (sk (And.intro (And.intro trivial (ad r 0)) (sk (And.intro (And.intro trivial (@is_slqTo Try.prog 25 5 (.tmp 23) (.tmp 24) (by kernel_rfl) 1 (by kernel_rfl) q.wa q.wn q.wc n (show n ≤ q.wc from by omega))) (And.intro (And.intro trivial (RunsF.lendP (F' := (famB q)) (fun w hF => (holdb_to (show n ≤ q.wn from by omega) hF)) (fun x hx => famB_part (show 0 < n → 0 < q.wn from by omega) hx (show (bytT q n).wb = _ from rfl)) (clone_fam (bytT q n) (okb_to hq (show n ≤ q.wn from by omega)) (show 0 < n from by omega) (show n ≤ 140737488355328 from by omega)))) (sk trivial)))))))) (And.intro (sk (sk (sk (sk (And.intro (And.intro trivial (ad r 0)) (sk (And.intro (And.intro trivial (@is_slqFrom Try.prog 25 5 (.tmp 31) (.tmp 32) (by kernel_rfl) 1 (by kernel_rfl) q.wa q.wn q.wc n (show n ≤ q.wn ∧ q.wn ≤ q.wc from by omega))) (sk (sk (And.intro (And.intro trivial (ad r 0)) trivial)))))))))) (And.intro (sk (sk trivial)) (And.intro trivial (@Exists.intro (List Nat) (fun (ns : List Nat) => ns.length = 2 ∧ ((Value.slice (some ⟨n1, 0, none⟩) n (n + n2)) : Value) = (fun (ns : List Nat) => (Value.slice (some ⟨(ns.getD 0 0), 0, none⟩) n (n + (ns.getD 1 0)))) ns ∧ ([some ⟨r, true, 0, (.lit [(Value.slice (fromA q.wa q.wc n 1) (q.wn - n) (q.wc - n)), (int (tkE q e n))])⟩, some ⟨n1, true, 0, (spr (n + n2) n (fun k => u8 (q.wf k)) (u8 0))⟩] : List (Option Blk)) = (fun (ns : List Nat) => [some ⟨r, true, 0, (.lit [(slqV (tkQ q e n)), (int (tkE q e n))])⟩, some ⟨(ns.getD 0 0), true, 0, (spr (n + (ns.getD 1 0)) n (fun k => u8 (q.wf k)) (u8 0))⟩]) ns) [n1, n2] (And.intro (@rfl Nat 2) (And.intro (@rfl Value (Value.slice (some ⟨n1, 0, none⟩) n (n + n2))) ((show ([some ⟨r, true, 0, (.lit [(Value.slice (fromA q.wa q.wc n 1) (q.wn - n) (q.wc - n)), (int (tkE q e n))])⟩, some ⟨n1, true, 0, (spr (n + n2) n (fun k => u8 (q.wf k)) (u8 0))⟩] : List (Option Blk)) = [some ⟨r, true, 0, (.lit [(slqV (tkQ q e n)), (int (tkE q e n))])⟩, some ⟨n1, true, 0, (spr (n + n2) n (fun k => u8 (q.wf k)) (u8 0))⟩] from by rw [tk_in h] <;> rfl))))))))))) (show (((tkE q e n) : Int) != 0) = false from by simpa using h)))))) (show (decide (q.wn < n)) = false from by simp only [selB_and, selB_or, Bool.or_eq_true, Bool.or_eq_false_iff, Bool.and_eq_true, Bool.and_eq_false_iff, decide_eq_true_eq, decide_eq_false_iff_not]; omega)))))
theorem clone_nilc (c : Nat) : Pure Try.prog 28 [(Value.slice none 0 c)] (Value.slice none 0 0) :=
  pure_of_ev mix Try.func28 rfl rfl 400 (.reg [(0, .g)] (.reg [(0, .g), (1, .g)] (.yes (.reg [(0, .g)] .done)))) []
    (Eq.mp (by kernel_rfl) (And.intro (sk trivial) (And.intro (sk (sk trivial)) (And.intro trivial (And.intro (@rfl Bool true) (And.intro (sk trivial) (And.intro trivial (@rfl Value (Value.slice none 0 0)))))))))
theorem take_zn (r : Nat) (q : BytL) (e : Int) (hq : OkB q) (hl : q.wn ≤ 100000) (hA : q.wa = none) (h : tkE q e 0 = 0) : RunsF (famB q) Try.prog 33 [(ptr r 0), (int 0)] [⟨r, true, 0, (.lit [(Value.slice none q.wn q.wc), (int e)])⟩] 0 (fun (_ : List Nat) => (Value.slice none 0 0)) (fun (_ : List Nat) => [some ⟨r, true, 0, (.lit [(slqV (tkQ q e 0)), (int (tkE q e 0))])⟩]) :=
  runsF_of_ev (F := (famB q)) mix Try.func33 rfl rfl 400 (.reg [(0, .g)] (.reg [(0, .g), (1, .g), (2, .g), (3, (.ld 0 (.lit 0))), (4, (.as (nat q.wn))), (5, .g), (6, (.as (Value.bool (decide (q.wn < 0)))))] (.no (.keep [0, 1, 4, 6, 7, 8, 9, 10, 11, 12] [0] 1 (.told ⟨[(0, .v (ptr r 0)), (1, .v (int 0)), (4, .v (Value.slice none 0 0)), (6, .v (ptr r 0)), (7, .v (ptr r 0)), (8, .v (ptr r 0)), (9, .v (Value.slice none q.wn q.wc)), (10, .v (nat q.wn)), (11, .v (int 0)), (12, .v (Value.bool (decide (q.wn < 0))))], [(0, some ⟨r, true, 0, (.lit [(Value.slice none q.wn q.wc), (int (tkE q e 0))])⟩)], 1⟩ (.reg [(0, .g), (1, .g), (2, .g), (3, (.ld 0 (.lit 1))), (4, .g)] (.no (.reg [(0, .g), (1, .g), (2, .g), (3, (.ld 0 (.lit 0))), (4, .g), (5, (.as (Value.slice none 0 q.wc))), (6, (.call [] 0 0 (fun _ => (Value.slice none 0 0)) (fun _ => []))), (7, .g)] (.reg [(0, .g), (1, .g), (2, .g), (3, .g), (4, (.ld 0 (.lit 0))), (5, .g), (6, (.as (Value.slice (fromA none q.wc 0 1) (q.wn - 0) (q.wc - 0)))), (7, .g), (8, .g), (9, (.st 0 (.lit 0)))] (.reg [(0, .g), (1, .g)] .done)))))))))) [] [] rfl
    (have f0 : q.wn ≤ 100000 := hl; have f1 : q.wn ≤ q.wc := hq.cap; Eq.mp (by kernel_rfl) (And.intro (sk trivial) (And.intro (sk (sk (sk (And.intro (And.intro trivial (ad r 0)) (And.intro (And.intro trivial (@is_len Try.prog 25 5 (.tmp 9) (by kernel_rfl) none q.wn q.wc)) (sk (And.intro (And.intro trivial (@is_lssn Try.prog 3 3 (.tmp 10) (.tmp 11)  q.wn 0)) trivial))))))) ((fun (hp1 : (decide (q.wn < 0)) = false) => have f2 : ¬ (q.wn < 0) := (of_decide_eq_false hp1); And.intro trivial (And.intro hp1 (And.intro (show (⟨[(0, .v (ptr r 0)), (1, .v (int 0)), (4, .v (Value.slice none 0 0)), (6, .v (ptr r 0)), (7, .v (ptr r 0)), (8, .v (ptr r 0)), (9, .v (Value.slice none q.wn q.wc)), (10, .v (nat q.wn)), (11, .v (int 0)), (12, .v (Value.bool (decide (q.wn < 0))))], [(0, some ⟨r, true, 0, (.lit [(Value.slice none q.wn q.wc), (int e)])⟩)], 1⟩ : St) = ⟨[(0, .v (ptr r 0)), (1, .v (int 0)), (4, .v (Value.slice none 0 0)), (6, .v (ptr r 0)), (7, .v (ptr r 0)), (8, .v (ptr r 0)), (9, .v (Value.slice none q.wn q.wc)), (10, .v (nat q.wn)), (11, .v (int 0)), (12, .v (Value.bool (decide (q.wn < 0))))], [(0, some ⟨r, true, 0, (.lit [(Value.slice none q.wn q.wc), (int (tkE q e 0))])⟩)], 1⟩ from congrArg (fun zz => (⟨[(0, .v (ptr r 0)), (1, .v (int 0)), (4, .v (Value.slice none 0 0)), (6, .v (ptr r 0)), (7, .v (ptr r 0)), (8, .v (ptr r 0)), (9, .v (Value.slice none q.wn q.wc)), (10, .v (nat q.wn)), (11, .v (int 0)), (12, .v (Value.bool (decide (q.wn < 0))))], [(0, some ⟨r, true, 0, (.lit [(Value.slice none q.wn q.wc), (int zz)])⟩)], 1⟩ : St)) (show e = tkE q e 0 from by unfold tkE; first | rw [if_pos (by omega)] | rw [if_neg (by omega)])) (And.intro (sk (sk (sk (And.intro (And.intro trivial (ad r 1)) (sk trivial))))) ((fun (hp2 : (((tkE q e 0) : Int) != 0) = false) => have f3 : (((tkE q e 0) : Int) != 0) = false := hp2; And.intro trivial (And.intro hp2 (And.intro (sk (sk (sk (And.intro (And.intro trivial (ad r 0)) (sk (And.intro (And.intro trivial (@is_slqTo Try.prog 25 5 (.tmp 23) (.tmp 24) (by kernel_rfl) 1 (by kernel_rfl) none q.wn q.wc 0 (show 0 ≤ q.wc from by omega))) (And.intro (And.intro trivial (clone_nilc q.wc)) (sk trivial)))))))) (And.intro (sk (sk (sk (sk (And.intro (And.intro trivial (ad r 0)) (sk (And.intro (And.intro trivial (@is_slqFrom Try.prog 25 5 (.tmp 31) (.tmp 32) (by kernel_rfl) 1 (by kernel_rfl) none q.wn q.wc 0 (show 0 ≤ q.wn ∧ q.wn ≤ q.wc from by omega))) (sk (sk (And.intro (And.intro trivial (ad r 0)) trivial)))))))))) (And.intro (sk (sk trivial)) (And.intro trivial (@Exists.intro (List Nat) (fun (ns : List Nat) => ns.length = 0 ∧ ((Value.slice none 0 0) : Value) = (fun (_ : List Nat) => (Value.slice none 0 0)) ns ∧ ([some ⟨r, true, 0, (.lit [(Value.slice (fromA none q.wc 0 1) (q.wn - 0) (q.wc - 0)), (int (tkE q e 0))])⟩] : List (Option Blk)) = (fun (_ : List Nat) => [some ⟨r, true, 0, (.lit [(slqV (tkQ q e 0)), (int (tkE q e 0))])⟩]) ns) [] (And.intro (@rfl Nat 0) (And.intro (@rfl Value (Value.slice none 0 0)) ((show ([some ⟨r, true, 0, (.lit [(Value.slice (fromA none q.wc 0 1) (q.wn - 0) (q.wc - 0)), (int (tkE q e 0))])⟩] : List (Option Blk)) = [some ⟨r, true, 0, (.lit [(slqV (tkQ q e 0)), (int (tkE q e 0))])⟩] from by rw [tk_in h, slqV_from hA] <;> rfl))))))))))) (show (((tkE q e 0) : Int) != 0) = false from by simpa using h)))))) (show (decide (q.wn < 0)) = false from by simp only [selB_and, selB_or, Bool.or_eq_true, Bool.or_eq_false_iff, Bool.and_eq_true, Bool.and_eq_false_iff, decide_eq_true_eq, decide_eq_false_iff_not]; omega)))))
theorem take_zs (r : Nat) (q : BytL) (e : Int) (A : Addr) (hq : OkB q) (hl : q.wn ≤ 100000) (hA : q.wa = some A) (h : tkE q e 0 = 0) : RunsF (famB q) Try.prog 33 [(ptr r 0), (int 0)] [⟨r, true, 0, (.lit [(Value.slice (some A) q.wn q.wc), (int e)])⟩] 1 (fun (ns : List Nat) => (Value.slice (some ⟨(ns.getD 0 0), 0, none⟩) 0 (0 + 0))) (fun (ns : List Nat) => [some ⟨r, true, 0, (.lit [(slqV (tkQ q e 0)), (int (tkE q e 0))])⟩, some ⟨(ns.getD 0 0), true, 0, (spr (0 + 0) 0 (fun k => u8 ((fun _ => 0) k)) (u8 0))⟩]) :=
  runsF_of_ev (F := (famB q)) mix Try.func33 rfl rfl 400 (.reg [(0, .g)] (.reg [(0, .g), (1, .g), (2, .g), (3, (.ld 0 (.lit 0))), (4, (.as (nat q.wn))), (5, .g), (6, (.as (Value.bool (decide (q.wn < 0)))))] (.no (.keep [0, 1, 4, 6, 7, 8, 9, 10, 11, 12] [0] 1 (.told ⟨[(0, .v (ptr r 0)), (1, .v (int 0)), (4, .v (Value.slice none 0 0)), (6, .v (ptr r 0)), (7, .v (ptr r 0)), (8, .v (ptr r 0)), (9, .v (Value.slice (some A) q.wn q.wc)), (10, .v (nat q.wn)), (11, .v (int 0)), (12, .v (Value.bool (decide (q.wn < 0))))], [(0, some ⟨r, true, 0, (.lit [(Value.slice (some A) q.wn q.wc), (int (tkE q e 0))])⟩)], 1⟩ (.reg [(0, .g), (1, .g), (2, .g), (3, (.ld 0 (.lit 1))), (4, .g)] (.no (.regn [(0, .g), (1, .g), (2, .g), (3, (.ld 0 (.lit 0))), (4, .g), (5, (.as (Value.slice (some A) 0 q.wc))), (6, (.call [] 1 1 (fun ns => Value.slice (some ⟨(ns.getD 0 0), 0, none⟩) 0 (0 + 0)) (fun ns => [some ⟨(ns.getD 0 0), true, 0, (spr (0 + 0) 0 (fun k => u8 ((fun _ => 0) k)) (u8 0))⟩]))), (7, .g)] (more (fun n1 => fun _ => (.reg [(0, .g), (1, .g), (2, .g), (3, .g), (4, (.ld 0 (.lit 0))), (5, .g), (6, (.as (Value.slice (fromA (some A) q.wc 0 1) (q.wn - 0) (q.wc - 0)))), (7, .g), (8, .g), (9, (.st 0 (.lit 0)))] (.reg [(0, .g), (1, .g)] .done)))))))))))) [] [1] rfl
    (have f0 : q.wn ≤ 100000 := hl; have f1 : q.wn ≤ q.wc := hq.cap; Eq.mp (by kernel_rfl) (And.intro (sk trivial) (And.intro (sk (sk (sk (And.intro (And.intro trivial (ad r 0)) (And.intro (And.intro trivial (@is_len Try.prog 25 5 (.tmp 9) (by kernel_rfl) (some A) q.wn q.wc)) (sk (And.intro (And.intro trivial (@is_lssn Try.prog 3 3 (.tmp 10) (.tmp 11)  q.wn 0)) trivial))))))) ((fun (hp1 : (decide (q.wn < 0)) = false) => have f2 : ¬ (q.wn < 0) := (of_decide_eq_false hp1); And.intro trivial (And.intro hp1 (And.intro (show (⟨[(0, .v (ptr r 0)), (1, .v (int 0)), (4, .v (Value.slice none 0 0)), (6, .v (ptr r 0)), (7, .v (ptr r 0)), (8, .v (ptr r 0)), (9, .v (Value.slice (some A) q.wn q.wc)), (10, .v (nat q.wn)), (11, .v (int 0)), (12, .v (Value.bool (decide (q.wn < 0))))], [(0, some ⟨r, true, 0, (.lit [(Value.slice (some A) q.wn q.wc), (int e)])⟩)], 1⟩ : St) = ⟨[(0, .v (ptr r 0)), (1, .v (int 0)), (4, .v (Value.slice none 0 0)), (6, .v (ptr r 0)), (7, .v (ptr r 0)), (8, .v (ptr r 0)), (9, .v (Value.slice (some A) q.wn q.wc)), (10, .v (nat q.wn)), (11, .v (int 0)), (12, .v (Value.bool (decide (q.wn < 0))))], [(0, some ⟨r, true, 0, (.lit [(Value.slice (some A) q.wn q.wc), (int (tkE q e 0))])⟩)], 1⟩ from congrArg (fun zz => (⟨[(0, .v (ptr r 0)), (1, .v (int 0)), (4, .v (Value.slice none 0 0)), (6, .v (ptr r 0)), (7, .v (ptr r 0)), (8, .v (ptr r 0)), (9, .v (Value.slice (some A) q.wn q.wc)), (10, .v (nat q.wn)), (11, .v (int 0)), (12, .v (Value.bool (decide (q.wn < 0))))], [(0, some ⟨r, true, 0, (.lit [(Value.slice (some A) q.wn q.wc), (int zz)])⟩)], 1⟩ : St)) (show e = tkE q e 0 from by unfold tkE; first | rw [if_pos (by omega)] | rw [if_neg (by omega)])) (And.intro (sk (sk (sk (And.intro (And.intro trivial (ad r 1)) (sk trivial))))) ((fun (hp2 : (((tkE q e 0) : Int) != 0) = false) => have f3 : (((tkE q e 0) : Int) != 0) = false := hp2; And.intro trivial (And.intro hp2 (fun (n1 : Nat) => And.intro (sk (sk (sk (And.intro (And.intro trivial (ad r 0)) (sk (And.intro (And.intro trivial (@is_slqTo Try.prog 25 5 (.tmp 23) (.tmp 24) (by kernel_rfl) 1 (by kernel_rfl) (some A) q.wn q.wc 0 (show 0 ≤ q.wc from by omega))) (And.intro (And.intro trivial (clone_zero A q.wc)) (sk trivial)))))))) (And.intro (sk (sk (sk (sk (And.intro (And.intro trivial (ad r 0)) (sk (And.intro (And.intro trivial (@is_slqFrom Try.prog 25 5 (.tmp 31) (.tmp 32) (by kernel_rfl) 1 (by kernel_rfl) (some A) q.wn q.wc 0 (show 0 ≤ q.wn ∧ q.wn ≤ q.wc from by omega))) (sk (sk (And.intro (And.intro trivial (ad r 0)) trivial)))))))))) (And.intro (sk (sk trivial)) (And.intro trivial (@Exists.intro (List Nat) (fun (ns : List Nat) => ns.length = 1 ∧ ((Value.slice (some ⟨n1, 0, none⟩) 0 (0 + 0)) : Value) = (fun (ns : List Nat) => (Value.slice (some ⟨(ns.getD 0 0), 0, none⟩) 0 (0 + 0))) ns ∧ ([some ⟨r, true, 0, (.lit [(Value.slice (fromA (some A) q.wc 0 1) (q.wn - 0) (q.wc - 0)), (int (tkE q e 0))])⟩, some ⟨n1, true, 0, (spr (0 + 0) 0 (fun k => u8 ((fun _ => 0) k)) (u8 0))⟩] : List (Option Blk)) = (fun (ns : List Nat) => [some ⟨r, true, 0, (.lit [(slqV (tkQ q e 0)), (int (tkE q e 0))])⟩, some ⟨(ns.getD 0 0), true, 0, (spr (0 + 0) 0 (fun k => u8 ((fun _ => 0) k)) (u8 0))⟩]) ns) [n1] (And.intro (@rfl Nat 1) (And.intro (@rfl Value (Value.slice (some ⟨n1, 0, none⟩) 0 (0 + 0))) ((show ([some ⟨r, true, 0, (.lit [(Value.slice (fromA (some A) q.wc 0 1) (q.wn - 0) (q.wc - 0)), (int (tkE q e 0))])⟩, some ⟨n1, true, 0, (spr (0 + 0) 0 (fun k => u8 ((fun _ => 0) k)) (u8 0))⟩] : List (Option Blk)) = [some ⟨r, true, 0, (.lit [(slqV (tkQ q e 0)), (int (tkE q e 0))])⟩, some ⟨n1, true, 0, (spr (0 + 0) 0 (fun k => u8 ((fun _ => 0) k)) (u8 0))⟩] from by rw [tk_in h, slqV_from hA] <;> rfl))))))))))) (show (((tkE q e 0) : Int) != 0) = false from by simpa using h)))))) (show (decide (q.wn < 0)) = false from by simp only [selB_and, selB_or, Bool.or_eq_true, Bool.or_eq_false_iff, Bool.and_eq_true, Bool.and_eq_false_iff, decide_eq_true_eq, decide_eq_false_iff_not]; omega)))))
theorem take_zero (r : Nat) (q : BytL) (e : Int) (n : Nat) (hq : OkB q) (hl : q.wn ≤ 100000) (hn : n = 0) (h : tkE q e n = 0) : RunsF (famB q) Try.prog 33 [ptr r 0, nat n] [⟨r, true, 0, .lit [slqV q, int e]⟩] 1 (fun ns => zV q.wa.isNone (ns.getD 0 0)) (fun _ => [some ⟨r, true, 0, .lit [slqV (tkQ q e n), int (tkE q e n)]⟩]) := by
  subst hn
  cases hA : q.wa with
  | none =>
    have e1 : slqV q = .slice none q.wn q.wc := by unfold slqV; rw [hA]
    rw [e1]
    exact (take_zn r q e hq hl hA h).name1
  | some A =>
    have e1 : slqV q = .slice (some A) q.wn q.wc := by unfold slqV; rw [hA]
    rw [e1]
    exact RunsF.drop (o := fun _ => [some ⟨r, true, 0, .lit [slqV (tkQ q e 0), int (tkE q e 0)]⟩]) (take_zs r q e A hq hl hA h)
theorem rnat_fam (r : Nat) (q : BytL) (e : Int) (hq : OkB q) (hl : q.wn ≤ 100000) : RunsF (famB q) Try.prog 14 [(ptr r 0)] [⟨r, true, 0, (.lit [(Value.slice q.wa q.wn q.wc), (int e)])⟩] 0 (fun (_ : List Nat) => nat4 (rnV q e)) (fun (_ : List Nat) => [some ⟨r, true, 0, (.lit [(slqV (tkQ q e 32)), (int (tkE q e 32))])⟩]) :=
  runsF_of_ev (F := (famB q)) mix Try.func14 rfl rfl 400 (.regn [(0, .new)] (more (fun n1 => fun _ => (.both (decide (tkE q e 32 = 0)) (.regn [(0, .g), (1, (.callF [(0, false)] 2 1 (fun ns => Value.slice (some ⟨(ns.getD 0 0), 0, none⟩) 32 (32 + (ns.getD 1 0))) (fun ns => [some ⟨r, true, 0, (.lit [(slqV (tkQ q e 32)), (int (tkE q e 32))])⟩, some ⟨(ns.getD 0 0), true, 0, (spr (32 + (ns.getD 1 0)) 32 (fun k => u8 (q.wf k)) (u8 0))⟩]))), (2, (.callF [(2, true)] 0 0 (fun _ => (Value.tuple #[(nat4 (ofN q.wf 32)), (int (ofE 32))])) (fun _ => [none]))), (3, .g), (4, .g), (5, .g), (6, .new), (7, (.st 3 (.lit 0))), (8, .g)] (more (fun n2 => more (fun n3 => more (fun n4 => fun _ => (.reg [(0, (.ld 3 (.lit 0))), (1, (.st 1 (.lit 0)))] .done)))))) (.regn [(0, .g), (1, (.callF [(0, false)] 0 0 (fun _ => (Value.slice none 0 0)) (fun _ => [some ⟨r, true, 0, (.lit [(slqV (tkQ q e 32)), (int (tkE q e 32))])⟩]))), (2, (.call [] 0 0 (fun _ => (Value.tuple #[(nat4 (N4.mk 0 0 0 0)), (int 0)])) (fun _ => []))), (3, .g), (4, .g), (5, .g), (6, .new), (7, (.st 2 (.lit 0))), (8, .g)] (more (fun n5 => fun _ => (.reg [(0, (.ld 2 (.lit 0))), (1, (.st 1 (.lit 0)))] .done)))))))) [(1, 0)] [] rfl
    (have f0 : q.wn ≤ 100000 := hl; have f1 : q.wn ≤ q.wc := hq.cap; Eq.mp (by kernel_rfl) (fun (n1 : Nat) => And.intro (sk trivial) (And.intro (fun (h1 : (decide (tkE q e 32 = 0)) = true) => have f2 : (tkE q e 32 = 0) := (of_decide_eq_true h1); fun (n2 n3 n4 : Nat) => And.intro (sk (And.intro (And.intro trivial (RunsF.lendP (F' := (famB q)) (fun w hF => hF) (fun x hx => famB_part (show 0 < q.wn → 0 < q.wn from by omega) hx rfl) (take_pos r q e 32 hq (show q.wn ≤ 100000 from by omega) (of_decide_eq_true h1) (by decide)))) (And.intro (And.intro trivial (RunsF.lendS (F' := (famB q)) (cs := [⟨n2, false, 0, (spr (32 + n3) 32 (fun k => u8 (q.wf k)) (u8 0))⟩]) (of_fam (bytO n2 32 (32 + n3) q.wf) (okb_own (show 32 ≤ 32 + n3 from by omega) (show 32 ≤ 9223372036854775807 from by omega))) (fun w hF hb => (holdb_ownT (show 32 ≤ 32 from by omega) (hb _ (List.Mem.head _)))) (by simp))) (sk (sk (sk (sk (And.intro (And.intro trivial (ad n4 0)) (sk trivial))))))))) (And.intro (And.intro (And.intro trivial (ad n4 0)) (And.intro (And.intro trivial (ad n1 0)) trivial)) (And.intro (And.intro (@rfl Value (ptr n1 0)) trivial) (@Exists.intro (List Nat) (fun (ns : List Nat) => ns.length = 0 ∧ ((nat4 (ofN q.wf 32)) : Value) = (fun (_ : List Nat) => nat4 (rnV q e)) ns ∧ ([some ⟨r, true, 0, (.lit [(Value.slice ((tkQ q e 32).wa) ((tkQ q e 32).wn) ((tkQ q e 32).wc)), (int (tkE q e 32))])⟩] : List (Option Blk)) = (fun (_ : List Nat) => [some ⟨r, true, 0, (.lit [(slqV (tkQ q e 32)), (int (tkE q e 32))])⟩]) ns) [] (And.intro (@rfl Nat 0) (And.intro ((show (nat4 (ofN q.wf 32)) = nat4 (rnV q e) from by first | rw [rn_in (of_decide_eq_true h1)] <;> rfl | rw [rn_out (of_decide_eq_false h1)] <;> rfl)) (@rfl (List (Option Blk)) [some ⟨r, true, 0, (.lit [(slqV (tkQ q e 32)), (int (tkE q e 32))])⟩]))))))) (fun (h1 : (decide (tkE q e 32 = 0)) = false) => have f2 : ¬ (tkE q e 32 = 0) := (of_decide_eq_false h1); fun (n5 : Nat) => And.intro (sk (And.intro (And.intro trivial (RunsF.lendP (F' := (famB q)) (fun w hF => hF) (fun x hx => famB_part (show 0 < q.wn → 0 < q.wn from by omega) hx rfl) (take_bad r q e 32 hq (show q.wn ≤ 100000 from by omega) (of_decide_eq_false h1)))) (And.intro (And.intro trivial (of_nil none 0)) (sk (sk (sk (sk (And.intro (And.intro trivial (ad n5 0)) (sk trivial))))))))) (And.intro (And.intro (And.intro trivial (ad n5 0)) (And.intro (And.intro trivial (ad n1 0)) trivial)) (And.intro (And.intro (@rfl Value (ptr n1 0)) trivial) (@Exists.intro (List Nat) (fun (ns : List Nat) => ns.length = 0 ∧ ((nat4 (N4.mk 0 0 0 0)) : Value) = (fun (_ : List Nat) => nat4 (rnV q e)) ns ∧ ([some ⟨r, true, 0, (.lit [(Value.slice ((tkQ q e 32).wa) ((tkQ q e 32).wn) ((tkQ q e 32).wc)), (int (tkE q e 32))])⟩] : List (Option Blk)) = (fun (_ : List Nat) => [some ⟨r, true, 0, (.lit [(slqV (tkQ q e 32)), (int (tkE q e 32))])⟩]) ns) [] (And.intro (@rfl Nat 0) (And.intro ((show (nat4 (N4.mk 0 0 0 0)) = nat4 (rnV q e) from by rw [rn_out (of_decide_eq_false h1)] <;> rfl)) (@rfl (List (Option Blk)) [some ⟨r, true, 0, (.lit [(slqV (tkQ q e 32)), (int (tkE q e 32))])⟩]))))))))))
theorem rbytes_bad (r : Nat) (q : BytL) (e m : Int) (hq : OkB q) (hl : q.wn ≤ 100000) (hm : m ≤ 9223372036854775807) (h : tkE (ctQ q e m) (ctE q e m 1) (ctN q e m 1) ≠ 0) : RunsF (famB q) Try.prog 15 [(ptr r 0), (int m)] [⟨r, true, 0, (.lit [(Value.slice q.wa q.wn q.wc), (int e)])⟩] 0 (fun (_ : List Nat) => (Value.slice none 0 0)) (fun (_ : List Nat) => [some ⟨r, true, 0, (.lit [(slqV (rbQ q e m)), (int (rbE q e m))])⟩]) :=
  runsF_of_ev (F := (famB q)) mix Try.func15 rfl rfl 400 (.reg [(0, .g)] (.reg [(0, .g), (1, .g), (2, .g), (3, (.callF [(0, false)] 0 0 (fun _ => (nat (ctN q e m 1))) (fun _ => [some ⟨r, true, 0, (.lit [(slqV (ctQ q e m)), (int (ctE q e m 1))])⟩]))), (4, (.callF [(0, false)] 0 0 (fun _ => (Value.slice none 0 0)) (fun _ => [some ⟨r, true, 0, (.lit [(slqV (tkQ (ctQ q e m) (ctE q e m 1) (ctN q e m 1))), (int (tkE (ctQ q e m) (ctE q e m 1) (ctN q e m 1)))])⟩]))), (5, .g)] .done)) [] [] rfl
    (have f0 : q.wn ≤ 100000 := hl; have f1 : q.wn ≤ q.wc := hq.cap; have f2 : m ≤ 9223372036854775807 := hm; Eq.mp (by kernel_rfl) (And.intro (sk trivial) (And.intro (sk (sk (sk (And.intro (And.intro trivial (RunsF.lendP (F' := (famB q)) (fun w hF => hF) (fun x hx => famB_part (show 0 < q.wn → 0 < q.wn from by omega) hx rfl) (count_1 r q e m hq (show q.wn ≤ 100000 from by omega) (show m ≤ 9223372036854775807 from by omega)))) (And.intro (And.intro trivial (RunsF.lendP (F' := (famB q)) (fun w hF => (holdb_ct hF)) (fun x hx => famB_part (show 0 < (ctQ q e m).wn → 0 < q.wn from by have := ctQ_wn  q e m; omega) hx (ct_wb.trans rfl)) (take_bad r (ctQ q e m) (ctE q e m 1) (ctN q e m 1) (okb_ct hq e m) (show (ctQ q e m).wn ≤ 100000 from by have := ctQ_wn  q e m; omega) h))) (sk trivial)))))) (And.intro trivial (@Exists.intro (List Nat) (fun (ns : List Nat) => ns.length = 0 ∧ ((Value.slice none 0 0) : Value) = (fun (_ : List Nat) => (Value.slice none 0 0)) ns ∧ ([some ⟨r, true, 0, (.lit [(Value.slice ((tkQ (ctQ q e m) (ctE q e m 1) (ctN q e m 1)).wa) ((tkQ (ctQ q e m) (ctE q e m 1) (ctN q e m 1)).wn) ((tkQ (ctQ q e m) (ctE q e m 1) (ctN q e m 1)).wc)), (int (tkE (ctQ q e m) (ctE q e m 1) (ctN q e m 1)))])⟩] : List (Option Blk)) = (fun (_ : List Nat) => [some ⟨r, true, 0, (.lit [(slqV (rbQ q e m)), (int (rbE q e m))])⟩]) ns) [] (And.intro (@rfl Nat 0) (And.intro (@rfl Value (Value.slice none 0 0)) (@rfl (List (Option Blk)) [some ⟨r, true, 0, (.lit [(slqV (rbQ q e m)), (int (rbE q e m))])⟩]))))))))
theorem rbytes_pos (r : Nat) (q : BytL) (e m : Int) (hq : OkB q) (hl : q.wn ≤ 100000) (hm : m ≤ 9223372036854775807) (h : tkE (ctQ q e m) (ctE q e m 1) (ctN q e m 1) = 0) (h0 : 0 < ctN q e m 1) : RunsF (famB q) Try.prog 15 [(ptr r 0), (int m)] [⟨r, true, 0, (.lit [(Value.slice q.wa q.wn q.wc), (int e)])⟩] 2 (fun (ns : List Nat) => (Value.slice (some ⟨(ns.getD 0 0), 0, none⟩) (ctN q e m 1) ((ctN q e m 1) + (ns.getD 1 0)))) (fun (ns : List Nat) => [some ⟨r, true, 0, (.lit [(slqV (rbQ q e m)), (int (rbE q e m))])⟩, some ⟨(ns.getD 0 0), true, 0, (spr ((ctN q e m 1) + (ns.getD 1 0)) (ctN q e m 1) (fun k => u8 ((ctQ q e m).wf k)) (u8 0))⟩]) :=
  runsF_of_ev (F := (famB q)) mix Try.func15 rfl rfl 400 (.reg [(0, .g)] (.regn [(0, .g), (1, .g), (2, .g), (3, (.callF [(0, false)] 0 0 (fun _ => (nat (ctN q e m 1))) (fun _ => [some ⟨r, true, 0, (.lit [(slqV (ctQ q e m)), (int (ctE q e m 1))])⟩]))), (4, (.callF [(0, false)] 2 1 (fun ns => Value.slice (some ⟨(ns.getD 0 0), 0, none⟩) (ctN q e m 1) ((ctN q e m 1) + (ns.getD 1 0))) (fun ns => [some ⟨r, true, 0, (.lit [(slqV (tkQ (ctQ q e m) (ctE q e m 1) (ctN q e m 1))), (int (tkE (ctQ q e m) (ctE q e m 1) (ctN q e m 1)))])⟩, some ⟨(ns.getD 0 0), true, 0, (spr ((ctN q e m 1) + (ns.getD 1 0)) (ctN q e m 1) (fun k => u8 ((ctQ q e m).wf k)) (u8 0))⟩]))), (5, .g)] (more (fun n1 => more (fun n2 => fun _ => .done))))) [] [1] rfl
    (have f0 : q.wn ≤ 100000 := hl; have f1 : q.wn ≤ q.wc := hq.cap; have f2 : m ≤ 9223372036854775807 := hm; Eq.mp (by kernel_rfl) (And.intro (sk trivial) (fun (n1 n2 : Nat) => And.intro (sk (sk (sk (And.intro (And.intro trivial (RunsF.lendP (F' := (famB q)) (fun w hF => hF) (fun x hx => famB_part (show 0 < q.wn → 0 < q.wn from by omega) hx rfl) (count_1 r q e m hq (show q.wn ≤ 100000 from by omega) (show m ≤ 9223372036854775807 from by omega)))) (And.intro (And.intro trivial (RunsF.lendP (F' := (famB q)) (fun w hF => (holdb_ct hF)) (fun x hx => famB_part (show 0 < (ctQ q e m).wn → 0 < q.wn from by have := ctQ_wn  q e m; omega) hx (ct_wb.trans rfl)) (take_pos r (ctQ q e m) (ctE q e m 1) (ctN q e m 1) (okb_ct hq e m) (show (ctQ q e m).wn ≤ 100000 from by have := ctQ_wn  q e m; omega) h h0))) (sk trivial)))))) (And.intro trivial (@Exists.intro (List Nat) (fun (ns : List Nat) => ns.length = 2 ∧ ((Value.slice (some ⟨n1, 0, none⟩) (ctN q e m 1) ((ctN q e m 1) + n2)) : Value) = (fun (ns : List Nat) => (Value.slice (some ⟨(ns.getD 0 0), 0, none⟩) (ctN q e m 1) ((ctN q e m 1) + (ns.getD 1 0)))) ns ∧ ([some ⟨r, true, 0, (.lit [(Value.slice ((tkQ (ctQ q e m) (ctE q e m 1) (ctN q e m 1)).wa) ((tkQ (ctQ q e m) (ctE q e m 1) (ctN q e m 1)).wn) ((tkQ (ctQ q e m) (ctE q e m 1) (ctN q e m 1)).wc)), (int (tkE (ctQ q e m) (ctE q e m 1) (ctN q e m 1)))])⟩, some ⟨n1, true, 0, (spr ((ctN q e m 1) + n2) (ctN q e m 1) (fun k => u8 ((ctQ q e m).wf k)) (u8 0))⟩] : List (Option Blk)) = (fun (ns : List Nat) => [some ⟨r, true, 0, (.lit [(slqV (rbQ q e m)), (int (rbE q e m))])⟩, some ⟨(ns.getD 0 0), true, 0, (spr ((ctN q e m 1) + (ns.getD 1 0)) (ctN q e m 1) (fun k => u8 ((ctQ q e m).wf k)) (u8 0))⟩]) ns) [n1, n2] (And.intro (@rfl Nat 2) (And.intro (@rfl Value (Value.slice (some ⟨n1, 0, none⟩) (ctN q e m 1) ((ctN q e m 1) + n2))) (@rfl (List (Option Blk)) [some ⟨r, true, 0, (.lit [(slqV (rbQ q e m)), (int (rbE q e m))])⟩, some ⟨n1, true, 0, (spr ((ctN q e m 1) + n2) (ctN q e m 1) (fun k => u8 ((ctQ q e m).wf k)) (u8 0))⟩]))))))))
theorem rbytes_zero (r : Nat) (q : BytL) (e m : Int) (hq : OkB q) (hl : q.wn ≤ 100000) (hm : m ≤ 9223372036854775807) (h : tkE (ctQ q e m) (ctE q e m 1) (ctN q e m 1) = 0) (h0 : ¬ 0 < ctN q e m 1) : RunsF (famB q) Try.prog 15 [(ptr r 0), (int m)] [⟨r, true, 0, (.lit [(Value.slice q.wa q.wn q.wc), (int e)])⟩] 1 (fun (ns : List Nat) => (Value.slice (zA (ctQ q e m).wa.isNone (ns.getD 0 0)) 0 0)) (fun (ns : List Nat) => [some ⟨r, true, 0, (.lit [(slqV (rbQ q e m)), (int (rbE q e m))])⟩]) :=
  runsF_of_ev (F := (famB q)) mix Try.func15 rfl rfl 400 (.reg [(0, .g)] (.regn [(0, .g), (1, .g), (2, .g), (3, (.callF [(0, false)] 0 0 (fun _ => (nat (ctN q e m 1))) (fun _ => [some ⟨r, true, 0, (.lit [(slqV (ctQ q e m)), (int (ctE q e m 1))])⟩]))), (4, (.callF [(0, false)] 1 0 (fun ns => zV (ctQ q e m).wa.isNone (ns.getD 0 0)) (fun ns => [some ⟨r, true, 0, (.lit [(slqV (tkQ (ctQ q e m) (ctE q e m 1) (ctN q e m 1))), (int (tkE (ctQ q e m) (ctE q e m 1) (ctN q e m 1)))])⟩]))), (5, .g)] (more (fun n1 => fun _ => .done)))) [] [] rfl
    (have f0 : q.wn ≤ 100000 := hl; have f1 : q.wn ≤ q.wc := hq.cap; have f2 : m ≤ 9223372036854775807 := hm; Eq.mp (by kernel_rfl) (And.intro (sk trivial) (fun (n1 : Nat) => And.intro (sk (sk (sk (And.intro (And.intro trivial (RunsF.lendP (F' := (famB q)) (fun w hF => hF) (fun x hx => famB_part (show 0 < q.wn → 0 < q.wn from by omega) hx rfl) (count_1 r q e m hq (show q.wn ≤ 100000 from by omega) (show m ≤ 9223372036854775807 from by omega)))) (And.intro (And.intro trivial (RunsF.lendP (F' := (famB q)) (fun w hF => (holdb_ct hF)) (fun x hx => famB_part (show 0 < (ctQ q e m).wn → 0 < q.wn from by have := ctQ_wn  q e m; omega) hx (ct_wb.trans rfl)) (take_zero r (ctQ q e m) (ctE q e m 1) (ctN q e m 1) (okb_ct hq e m) (show (ctQ q e m).wn ≤ 100000 from by have := ctQ_wn  q e m; omega) (Nat.eq_zero_of_not_pos h0) h))) (sk trivial)))))) (And.intro trivial (@Exists.intro (List Nat) (fun (ns : List Nat) => ns.length = 1 ∧ ((Value.slice (zA (ctQ q e m).wa.isNone n1) 0 0) : Value) = (fun (ns : List Nat) => (Value.slice (zA (ctQ q e m).wa.isNone (ns.getD 0 0)) 0 0)) ns ∧ ([some ⟨r, true, 0, (.lit [(Value.slice ((tkQ (ctQ q e m) (ctE q e m 1) (ctN q e m 1)).wa) ((tkQ (ctQ q e m) (ctE q e m 1) (ctN q e m 1)).wn) ((tkQ (ctQ q e m) (ctE q e m 1) (ctN q e m 1)).wc)), (int (tkE (ctQ q e m) (ctE q e m 1) (ctN q e m 1)))])⟩] : List (Option Blk)) = (fun (ns : List Nat) => [some ⟨r, true, 0, (.lit [(slqV (rbQ q e m)), (int (rbE q e m))])⟩]) ns) [n1] (And.intro (@rfl Nat 1) (And.intro (@rfl Value (Value.slice (zA (ctQ q e m).wa.isNone n1) 0 0)) (@rfl (List (Option Blk)) [some ⟨r, true, 0, (.lit [(slqV (rbQ q e m)), (int (rbE q e m))])⟩]))))))))
theorem agg33 : AggC Try.prog 33 [u64 0, u64 0, u64 0, u64 0] 4 32 := aggC_of (z := nat4 ⟨0, 0, 0, 0⟩) (by kernel_rfl) rfl rfl (by decide)
def rnats_fam_S1 (r : Nat) (q : BytL) (e : Int) (m : Int) (n1 : Nat) (x1 : Nat × BytL × Int × (Nat → N4)) : St := ⟨[(0, .v (ptr r 0)), (5, .v (Value.slice (some ⟨n1, 0, none⟩) (ctN q e m 32) (ctN q e m 32))), (12, .v (nat (ctN q e m 32))), (13, .v (nat x1.1))], [(0, some ⟨r, true, 0, (.lit [(Value.slice x1.2.1.wa x1.2.1.wn x1.2.1.wc), (int x1.2.2.1)])⟩), (1, some ⟨n1, true, 0, (tabN (ctN q e m 32) x1.2.2.2)⟩)], 2⟩
def rnats_fam_R1 (r : Nat) (q : BytL) (e : Int) (m : Int) (n1 : Nat) (x1 : Nat × BytL × Int × (Nat → N4)) : Prop := (x1.1 ≤ ctN q e m 32) ∧ (x1.2.1 = (nsE (ctQ q e m) (ctE q e m 32) x1.1).1) ∧ (x1.2.2.1 = (nsE (ctQ q e m) (ctE q e m 32) x1.1).2) ∧ (x1.2.2.2 = nsG (ctQ q e m) (ctE q e m 32) x1.1)
def rnats_fam_mu1 (r : Nat) (q : BytL) (e : Int) (m : Int) (n1 : Nat) (x1 : Nat × BytL × Int × (Nat → N4)) : Nat := ctN q e m 32 - x1.1
theorem rnats_fam (r : Nat) (q : BytL) (e m : Int) (hq : OkB q) (hl : q.wn ≤ 100000) (hm : m ≤ 9223372036854775807) : RunsF (famB q) Try.prog 17 [(ptr r 0), (int m)] [⟨r, true, 0, (.lit [(Value.slice q.wa q.wn q.wc), (int e)])⟩] 1 (fun (ns : List Nat) => (Value.slice (some ⟨(ns.getD 0 0), 0, none⟩) (ctN q e m 32) (ctN q e m 32))) (fun (ns : List Nat) => [some ⟨r, true, 0, (.lit [(slqV (rsQ2 q e m)), (int (rsE2 q e m))])⟩, some ⟨(ns.getD 0 0), true, 0, (tabN (ctN q e m 32) (rsF q e m))⟩]) :=
  runsF_of_ev (F := (famB q)) mix Try.func17 rfl rfl 400 (.reg [(0, .g)] (.regn [(0, .g), (1, .g), (2, (.callF [(0, false)] 0 0 (fun _ => (nat (ctN q e m 32))) (fun _ => [some ⟨r, true, 0, (.lit [(slqV (ctQ q e m)), (int (ctE q e m 32))])⟩]))), (3, (.oth [] 1 1 (fun ns => Value.slice (some ⟨ns.getD 0 0, 0, none⟩) (ctN q e m 32) (ctN q e m 32)) (fun ns => [some ⟨ns.getD 0 0, true, 0, (tabN (ctN q e m 32) (fun _ => N4.mk 0 0 0 0))⟩]))), (4, .g)] (more (fun n1 => fun _ => (.reg [(0, .g), (1, (.as (nat (ctN q e m 32)))), (2, .g)] (.inv [0, 5, 12, 13] [0, 1] 2 (rnats_fam_R1 r q e m n1) (rnats_fam_S1 r q e m n1) (rnats_fam_mu1 r q e m n1) ((0, (ctQ q e m), (ctE q e m 32), (fun _ => N4.mk 0 0 0 0)) : Nat × BytL × Int × (Nat → N4)) (fun (x1 : Nat × BytL × Int × (Nat → N4)) => (.reg [(0, (.as (Value.bool (decide (x1.1 < (ctN q e m 32))))))] (.br (.reg [(0, .g), (1, .g)] (.reg [(0, .g), (1, .g), (2, .g), (3, (.callF [(0, false)] 0 0 (fun _ => (nat4 (rnV x1.2.1 x1.2.2.1))) (fun _ => [some ⟨r, true, 0, (.lit [(slqV (tkQ x1.2.1 x1.2.2.1 32)), (int (tkE x1.2.1 x1.2.2.1 32))])⟩]))), (4, (.as (ptr n1 (0 + x1.1 * 4)))), (5, (.stc 1 (.tab x1.1 0) (tabN (ctN q e m 32) (upd x1.2.2.2 x1.1 (rnV x1.2.1 x1.2.2.1)))))] (.reg [(0, (.as (nat (x1.1 + 1)))), (1, .g)] .done))) (.reg [(0, .g), (1, .g)] .done)))))))))) [] [1] rfl
    (have f0 : q.wn ≤ 100000 := hl; have f1 : q.wn ≤ q.wc := hq.cap; have f2 : m ≤ 9223372036854775807 := hm; have f3 : ctN q e m 32 * 32 ≤ (ctQ q e m).wn := (ctN_le q e m (by decide)); have f4 : (ctQ q e m).wn ≤ q.wn := (ctQ_wn q e m); Eq.mp (by kernel_rfl) (And.intro (sk trivial) (fun (n1 : Nat) => And.intro (sk (sk (And.intro (And.intro trivial (RunsF.lendP (F' := (famB q)) (fun w hF => hF) (fun x hx => famB_part (show 0 < q.wn → 0 < q.wn from by omega) hx rfl) (count_32 r q e m hq (show q.wn ≤ 100000 from by omega) (show m ≤ 9223372036854775807 from by omega)))) (And.intro (And.intro trivial (mkE_make (P := Try.prog) (t := 34) (e := 33) (by kernel_rfl) agg33 (ctN q e m 32) (show (32 : Int) * ((ctN q e m 32 : Nat) : Int) ≤ 281474976710656 ∧ ctN q e m 32 ≤ 9223372036854775807 from by omega))) (sk trivial))))) (And.intro (sk (And.intro (And.intro trivial (@is_len Try.prog 34 33 (.tmp 11) (by kernel_rfl) (some ⟨n1, 0, none⟩) (ctN q e m 32) (ctN q e m 32))) (sk trivial))) (And.intro (show (rnats_fam_R1 r q e m n1) ((0, (ctQ q e m), (ctE q e m 32), (fun _ => N4.mk 0 0 0 0)) : Nat × BytL × Int × (Nat → N4)) from (show (0 ≤ ctN q e m 32) ∧ ((ctQ q e m) = (nsE (ctQ q e m) (ctE q e m 32) 0).1) ∧ ((ctE q e m 32) = (nsE (ctQ q e m) (ctE q e m 32) 0).2) ∧ ((fun _ => N4.mk 0 0 0 0) = nsG (ctQ q e m) (ctE q e m 32) 0) from by exact ⟨by omega, rfl, rfl, nsG_zero _ _⟩)) (And.intro (@rfl St ((rnats_fam_S1 r q e m n1) ((0, (ctQ q e m), (ctE q e m 32), (fun _ => N4.mk 0 0 0 0)) : Nat × BytL × Int × (Nat → N4)))) (fun (x1 : Nat × BytL × Int × (Nat → N4)) (hx1 : (rnats_fam_R1 r q e m n1) x1) => have B0 : x1.1 ≤ ctN q e m 32 := hx1.1; have B1 : x1.2.1 = (nsE (ctQ q e m) (ctE q e m 32) x1.1).1 := hx1.2.1; have B2 : x1.2.2.1 = (nsE (ctQ q e m) (ctE q e m 32) x1.1).2 := hx1.2.2.1; have B3 : x1.2.2.2 = nsG (ctQ q e m) (ctE q e m 32) x1.1 := hx1.2.2.2; have f9 : (x1.2.1).wn ≤ q.wn := (by rw [(hx1).2.1]; exact Nat.le_trans (ns_wn _) (ctQ_wn q e m)); And.intro (And.intro (And.intro trivial (@is_lssn Try.prog 3 3 (.tmp 13) (.tmp 12)  x1.1 (ctN q e m 32))) trivial) (And.intro trivial (And.intro (fun (h1 : (decide (x1.1 < (ctN q e m 32))) = true) => have f10 : (x1.1 < (ctN q e m 32)) := (of_decide_eq_true h1); And.intro (sk (sk trivial)) (And.intro (sk (sk (sk (And.intro (And.intro trivial (RunsF.lendP (F' := (famB q)) (fun w hF => (by rw [B1]; exact holdb_ns (holdb_ct hF) _)) (fun x hx => famB_part (show 0 < x1.2.1.wn → 0 < q.wn from by omega) hx (by rw [B1]; exact (ns_wb _).trans ct_wb)) (rnat_fam r x1.2.1 x1.2.2.1 (by rw [B1]; exact okb_ns (okb_ct hq e m) _ _) (show x1.2.1.wn ≤ 100000 from by omega)))) (And.intro (And.intro trivial (@is_ixSl Try.prog 34 33 (.tmp 16) (.tmp 17) 4 (by kernel_rfl) (by kernel_rfl) n1 0 (ctN q e m 32) (ctN q e m 32) x1.1 (show x1.1 < ctN q e m 32 from by omega))) (And.intro (And.intro trivial (And.intro (show x1.1 < ctN q e m 32 from by omega) (And.intro (@rfl Value (ptr n1 (0 + x1.1 * 4))) (store_tabN (ctN q e m 32) x1.2.2.2 x1.1 (rnV x1.2.1 x1.2.2.1))))) trivial)))))) (And.intro (And.intro (And.intro trivial (@is_addn Try.prog 3 3 (.tmp 13) (.const (.int .i64 1))  x1.1 1 (show x1.1 + 1 ≤ 9223372036854775807 from by omega))) (sk trivial)) ((rnd (rnats_fam_R1 r q e m n1) (rnats_fam_S1 r q e m n1) (rnats_fam_mu1 r q e m n1) x1 ((x1.1 + 1, (tkQ x1.2.1 x1.2.2.1 32), (tkE x1.2.1 x1.2.2.1 32), upd x1.2.2.2 x1.1 (rnV x1.2.1 x1.2.2.1)) : Nat × BytL × Int × (Nat → N4)) (show (rnats_fam_R1 r q e m n1) ((x1.1 + 1, (tkQ x1.2.1 x1.2.2.1 32), (tkE x1.2.1 x1.2.2.1 32), upd x1.2.2.2 x1.1 (rnV x1.2.1 x1.2.2.1)) : Nat × BytL × Int × (Nat → N4)) ∧ (rnats_fam_mu1 r q e m n1) ((x1.1 + 1, (tkQ x1.2.1 x1.2.2.1 32), (tkE x1.2.1 x1.2.2.1 32), upd x1.2.2.2 x1.1 (rnV x1.2.1 x1.2.2.1)) : Nat × BytL × Int × (Nat → N4)) < (rnats_fam_mu1 r q e m n1) x1 from (show (((x1.1 + 1) ≤ ctN q e m 32) ∧ ((tkQ x1.2.1 x1.2.2.1 32) = (nsE (ctQ q e m) (ctE q e m 32) (x1.1 + 1)).1) ∧ ((tkE x1.2.1 x1.2.2.1 32) = (nsE (ctQ q e m) (ctE q e m 32) (x1.1 + 1)).2) ∧ ((upd x1.2.2.2 x1.1 (rnV x1.2.1 x1.2.2.1)) = nsG (ctQ q e m) (ctE q e m 32) (x1.1 + 1))) ∧ (ctN q e m 32 - (x1.1 + 1)) < (ctN q e m 32 - x1.1) from by obtain ⟨g1, g2, g3⟩ := ns_step B1 B2 B3; exact ⟨⟨by omega, g1, g2, g3⟩, by omega⟩))))))) (fun (h1 : (decide (x1.1 < (ctN q e m 32))) = false) => have f10 : ¬ (x1.1 < (ctN q e m 32)) := (of_decide_eq_false h1); And.intro (sk (sk trivial)) (And.intro trivial (@Exists.intro (List Nat) (fun (ns : List Nat) => ns.length = 1 ∧ ((Value.slice (some ⟨n1, 0, none⟩) (ctN q e m 32) (ctN q e m 32)) : Value) = (fun (ns : List Nat) => (Value.slice (some ⟨(ns.getD 0 0), 0, none⟩) (ctN q e m 32) (ctN q e m 32))) ns ∧ ([some ⟨r, true, 0, (.lit [(Value.slice x1.2.1.wa x1.2.1.wn x1.2.1.wc), (int x1.2.2.1)])⟩, some ⟨n1, true, 0, (tabN (ctN q e m 32) x1.2.2.2)⟩] : List (Option Blk)) = (fun (ns : List Nat) => [some ⟨r, true, 0, (.lit [(slqV (rsQ2 q e m)), (int (rsE2 q e m))])⟩, some ⟨(ns.getD 0 0), true, 0, (tabN (ctN q e m 32) (rsF q e m))⟩]) ns) [n1] (And.intro (@rfl Nat 1) (And.intro (@rfl Value (Value.slice (some ⟨n1, 0, none⟩) (ctN q e m 32) (ctN q e m 32))) ((show ([some ⟨r, true, 0, (.lit [(Value.slice x1.2.1.wa x1.2.1.wn x1.2.1.wc), (int x1.2.2.1)])⟩, some ⟨n1, true, 0, (tabN (ctN q e m 32) x1.2.2.2)⟩] : List (Option Blk)) = [some ⟨r, true, 0, (.lit [(slqV (rsQ2 q e m)), (int (rsE2 q e m))])⟩, some ⟨n1, true, 0, (tabN (ctN q e m 32) (rsF q e m))⟩] from by have e0 : x1.1 = ctN q e m 32 := (by omega); rw [B1, B2, B3, e0] <;> rfl))))))))))))))))
theorem rbytes_z (r : Nat) (q : BytL) (e m : Int) (hq : OkB q) (hl : q.wn ≤ 100000) (hm : m ≤ 9223372036854775807) (h0 : ¬ 0 < rbN q e m) : RunsF (famB q) Try.prog 15 [ptr r 0, int m] [⟨r, true, 0, .lit [slqV q, int e]⟩] 1 (fun ns => zV (rbZ q e m) (ns.getD 0 0)) (fun _ => [some ⟨r, true, 0, .lit [slqV (rbQ q e m), int (rbE q e m)]⟩]) := by
  by_cases h : tkE (ctQ q e m) (ctE q e m 1) (ctN q e m 1) = 0
  · obtain ⟨e1, e2⟩ := rb_good h
    rw [e2]
    exact rbytes_zero r q e m hq hl hm h (by omega)
  · obtain ⟨e1, e2⟩ := rb_bad h
    rw [e2]
    exact (rbytes_bad r q e m hq hl hm h).name1
theorem rbytes_p (r : Nat) (q : BytL) (e m : Int) (hq : OkB q) (hl : q.wn ≤ 100000) (hm : m ≤ 9223372036854775807) (h0 : 0 < rbN q e m) : RunsF (famB q) Try.prog 15 [ptr r 0, int m] [⟨r, true, 0, .lit [slqV q, int e]⟩] 2 (fun ns => .slice (some ⟨ns.getD 0 0, 0, none⟩) (rbN q e m) (rbN q e m + ns.getD 1 0)) (fun ns => [some ⟨r, true, 0, .lit [slqV (rbQ q e m), int (rbE q e m)]⟩, some ⟨ns.getD 0 0, true, 0, spr (rbN q e m + ns.getD 1 0) (rbN q e m) (fun k => u8 ((ctQ q e m).wf k)) (u8 0)⟩]) := by
  by_cases h : tkE (ctQ q e m) (ctE q e m 1) (ctN q e m 1) = 0
  · obtain ⟨e1, e2⟩ := rb_good h
    rw [e1]
    exact rbytes_pos r q e m hq hl hm h (by omega)
  · exact absurd (rb_bad h).1 (by omega)
end Go.Proofs.Ytelpmalmknpogaa
end
section
set_option linter.unusedSimpArgs false
set_option linter.unusedVariables false
set_option maxRecDepth 100000
namespace Go.Eng
open Go.RowKit Go.WideShapes Go.ChangeShapes Go.ChangeAt Go.Deep
section
variable {H : Type} {enc : TypeId × Value → H} {P : Program}
end
theorem failE_ne {e x : Int} (h : e ≠ 0) : failE e x = e := if_neg h
theorem tkE_ne {q : BytL} {e : Int} {n : Nat} (h : e ≠ 0) : tkE q e n = e := by
  unfold tkE; split
  · exact failE_ne h
  · rfl
theorem ctE1_keep {e m : Int} (h : e ≠ 0) : ctE1 e m = e := by
  unfold ctE1; split
  · exact failE_ne h
  · rfl
theorem rs_keep {q : BytL} {e : Int} {l : UInt64} (h : e ≠ 0) : rsE q e l = e ∧ rsV q e l = 0 := by
  have h1 := rsE_ne (q := q) (l := l) h
  exact ⟨h1, if_neg (by rw [h1]; exact h)⟩
theorem ct_keep {q : BytL} {e m : Int} {z : Nat} (h : e ≠ 0) : ctE q e m z = e ∧ ctN q e m z = 0 := by
  have h1 : ctE1 e m ≠ 0 := by rw [ctE1_keep h]; exact h
  have h2 := rs_keep (q := q) (l := u64i m) h1
  have h3 : ctV q e m = 0 := by unfold ctV; rw [h2.2]; rfl
  unfold ctE ctN
  rw [h3, if_neg (Nat.not_lt_zero _), if_neg (Nat.not_lt_zero _), h2.1, ctE1_keep h]
  exact ⟨rfl, rfl⟩
theorem rn_keep {q : BytL} {e : Int} (h : e ≠ 0) : tkE q e 32 = e ∧ rnV q e = N4.mk 0 0 0 0 := ⟨tkE_ne h, if_neg (by rw [tkE_ne h]; exact h)⟩
theorem rb_keep {q : BytL} {e m : Int} (h : e ≠ 0) : rbE q e m = e ∧ rbN q e m = 0 := by
  have h1 := ct_keep (q := q) (m := m) (z := 1) h
  have h2 : rbE q e m = e := by unfold rbE; rw [h1.1]; exact tkE_ne h
  exact ⟨h2, if_neg (show rbE q e m ≠ 0 by rw [h2]; exact h)⟩
theorem n2_keep {q : BytL} {e m : Int} (h : e ≠ 0) : rsE2 q e m = e ∧ ctN q e m 32 = 0 := by
  have h1 := ct_keep (q := q) (m := m) (z := 32) h
  refine ⟨?_, h1.2⟩
  unfold rsE2; rw [h1.2, h1.1]; rfl
end Go.Eng
end
section
set_option linter.unusedSimpArgs false
set_option linter.unusedVariables false
set_option maxRecDepth 100000
namespace Go.Eng
def nbF (f : Nat → UInt8) (L : Nat) (g : Nat → N4) : Nat → (Nat → UInt8)
  | 0 => f
  | k + 1 => catU (nbF f L g k) (L + 32 * k) (bytesF (g k))
def nwN (n : Nat) : Nat := smN (UInt64.ofNat n) + 32 * n
def nwB (g : Nat → N4) (n : Nat) : Nat → UInt8 := fun k => if k < smN (UInt64.ofNat n) then smB (UInt64.ofNat n) k else bytesF (g ((k - smN (UInt64.ofNat n)) / 32)) ((k - smN (UInt64.ofNat n)) % 32)
theorem nbF_at (f : Nat → UInt8) (L : Nat) (g : Nat → N4) : ∀ (i k : Nat), k < L + 32 * i → nbF f L g i k = if k < L then f k else bytesF (g ((k - L) / 32)) ((k - L) % 32)
  | 0, k, h => by rw [nbF, if_pos (by omega)]
  | i + 1, k, h => by
    rw [nbF]
    unfold catU
    by_cases h1 : k < L + 32 * i
    · rw [if_pos h1, nbF_at f L g i k h1]
    · rw [if_neg h1, if_neg (by omega), show (k - L) / 32 = i by omega, show (k - L) % 32 = k - (L + 32 * i) by omega]
theorem nats_end {f : Nat → UInt8} {g : Nat → N4} {n m : Nat} (k : Nat) (hk : k < n + nwN m) : nbF (catU f n (smB (UInt64.ofNat m))) (n + smN (UInt64.ofNat m)) g m k = catU f n (nwB g m) k := by
  unfold nwN at hk
  rw [nbF_at _ _ _ _ _ (by omega)]
  unfold catU nwB
  by_cases h1 : k < n
  · rw [if_pos (by omega), if_pos h1, if_pos h1]
  · rw [if_neg h1, if_neg h1]
    by_cases h2 : k < n + smN (UInt64.ofNat m)
    · rw [if_pos h2, if_pos (by omega)]
    · rw [if_neg h2, if_neg (by omega), show k - (n + smN (UInt64.ofNat m)) = k - n - smN (UInt64.ofNat m) by omega]
theorem nats_endN {g : Nat → N4} {m : Nat} (k : Nat) (hk : k < nwN m) : nbF (smB (UInt64.ofNat m)) (smN (UInt64.ofNat m)) g m k = nwB g m k := by
  have h := nats_end (f := fun _ => 0) (g := g) (n := 0) (m := m) k (by omega)
  rw [catU_nil, catU_nil, Nat.zero_add] at h
  exact h
theorem nwN_rng (n : Nat) : 1 ≤ nwN n ∧ nwN n ≤ 32 * n + 9 := by have := smN_rng (UInt64.ofNat n); unfold nwN; omega
end Go.Eng
end
section
namespace Go.Proofs.Ytelpmalmknpogaa
open Go Go.Eng
set_option linter.unusedVariables false
set_option linter.unusedSimpArgs false
set_option maxRecDepth 100000
set_option maxHeartbeats 1000000
theorem new_zn (c : Nat) : Runs Try.prog 12 [(Value.slice none 0 c)] [] 1 (fun (ns : List Nat) => (ptr (ns.getD 0 0) 0)) (fun (ns : List Nat) => [some ⟨(ns.getD 0 0), true, 0, (.lit [(Value.slice none 0 0), (int 0)])⟩]) :=
  runs_of_ev mix Try.func12 rfl rfl 400 (.reg [(0, .g)] (.regn [(0, .g), (1, (.call [] 0 0 (fun _ => (Value.slice none 0 0)) (fun _ => []))), (2, .g), (3, .new), (4, .g)] (more (fun n1 => fun _ => .done)))) [] [0] rfl
    (Eq.mp (by kernel_rfl) (And.intro (sk trivial) (fun (n1 : Nat) => And.intro (sk (And.intro (And.intro trivial (clone_nilc c)) (sk (sk (sk trivial))))) (And.intro trivial (@Exists.intro (List Nat) (fun (ns : List Nat) => ns.length = 1 ∧ ((ptr n1 0) : Value) = (fun (ns : List Nat) => (ptr (ns.getD 0 0) 0)) ns ∧ ([some ⟨n1, true, 0, (.lit [(Value.slice none 0 0), (int 0)])⟩] : List (Option Blk)) = (fun (ns : List Nat) => [some ⟨(ns.getD 0 0), true, 0, (.lit [(Value.slice none 0 0), (int 0)])⟩]) ns) [n1] (And.intro (@rfl Nat 1) (And.intro (@rfl Value (ptr n1 0)) (@rfl (List (Option Blk)) [some ⟨n1, true, 0, (.lit [(Value.slice none 0 0), (int 0)])⟩]))))))))
theorem new_zs (A : Addr) (c : Nat) : Runs Try.prog 12 [(Value.slice (some A) 0 c)] [] 2 (fun (ns : List Nat) => (ptr (ns.getD 0 0) 0)) (fun (ns : List Nat) => [some ⟨(ns.getD 0 0), true, 0, (.lit [(Value.slice (some ⟨(ns.getD 1 0), 0, none⟩) 0 (0 + 0)), (int 0)])⟩, some ⟨(ns.getD 1 0), true, 0, (spr (0 + 0) 0 (fun k => u8 ((fun _ => 0) k)) (u8 0))⟩]) :=
  runs_of_ev mix Try.func12 rfl rfl 400 (.reg [(0, .g)] (.regn [(0, .g), (1, (.call [] 1 1 (fun ns => Value.slice (some ⟨(ns.getD 0 0), 0, none⟩) 0 (0 + 0)) (fun ns => [some ⟨(ns.getD 0 0), true, 0, (spr (0 + 0) 0 (fun k => u8 ((fun _ => 0) k)) (u8 0))⟩]))), (2, .g), (3, .new), (4, .g)] (more (fun n1 => more (fun n2 => fun _ => .done))))) [] [1, 0] rfl
    (Eq.mp (by kernel_rfl) (And.intro (sk trivial) (fun (n1 n2 : Nat) => And.intro (sk (And.intro (And.intro trivial (clone_zero A c)) (sk (sk (sk trivial))))) (And.intro trivial (@Exists.intro (List Nat) (fun (ns : List Nat) => ns.length = 2 ∧ ((ptr n2 0) : Value) = (fun (ns : List Nat) => (ptr (ns.getD 0 0) 0)) ns ∧ ([some ⟨n2, true, 0, (.lit [(Value.slice (some ⟨n1, 0, none⟩) 0 (0 + 0)), (int 0)])⟩, some ⟨n1, true, 0, (spr (0 + 0) 0 (fun k => u8 ((fun _ => 0) k)) (u8 0))⟩] : List (Option Blk)) = (fun (ns : List Nat) => [some ⟨(ns.getD 0 0), true, 0, (.lit [(Value.slice (some ⟨(ns.getD 1 0), 0, none⟩) 0 (0 + 0)), (int 0)])⟩, some ⟨(ns.getD 1 0), true, 0, (spr (0 + 0) 0 (fun k => u8 ((fun _ => 0) k)) (u8 0))⟩]) ns) [n2, n1] (And.intro (@rfl Nat 2) (And.intro (@rfl Value (ptr n2 0)) (@rfl (List (Option Blk)) [some ⟨n2, true, 0, (.lit [(Value.slice (some ⟨n1, 0, none⟩) 0 (0 + 0)), (int 0)])⟩, some ⟨n1, true, 0, (spr (0 + 0) 0 (fun k => u8 ((fun _ => 0) k)) (u8 0))⟩]))))))))
end Go.Proofs.Ytelpmalmknpogaa
end
section
set_option linter.unusedSimpArgs false
set_option linter.unusedVariables false
set_option maxRecDepth 100000
namespace Go.Eng
theorem Post.conv {m m' n n' : Nat → Option Blk} {w w' : World} (hp : Post m w m' w') (h0 : ∀ k, Owns m k → Owns n k) (π : Nat → Nat)
    (hπ : ∀ p q b c, n' p = some b → n' q = some c → π p = π q → p = q)
    (h2 : ∀ p b, n' p = some b → b.own = true ∧ ∃ b', m' (π p) = some b' ∧ (∀ k, b.has k → b'.has k) ∧ b'.own = true ∧ ∀ w, Holds b' w → Holds b w) : Post n w n' w' where
  holds p b hb := by obtain ⟨_, b', h3, _, _, h6⟩ := h2 p b hb; exact h6 _ (hp.holds _ _ h3)
  apart p q b c hpq hb hc ho := by
    obtain ⟨_, b', h3, h4, h5, _⟩ := h2 p b hb
    obtain ⟨_, c', k3, k4, k5, _⟩ := h2 q c hc
    exact fun k l1 l2 => hp.apart _ _ b' c' (fun e => hpq (hπ p q b c hb hc e)) h3 k3 h5 k (h4 k l1) (k4 k l2)
  adv := ⟨hp.adv.os, hp.adv.output, hp.adv.tape, hp.adv.size, fun k hk hn => hp.adv.heap k hk fun ho => hn (h0 k ho), fun k ⟨p, b, hb, ho, hk⟩ => by
      obtain ⟨_, b', h3, h4, h5, _⟩ := h2 p b hb
      rcases hp.adv.names k ⟨π p, b', h3, h5, h4 k hk⟩ with h6 | h6
      · exact .inl (h0 k h6)
      · exact .inr h6, fun p b hb ho => by
      have := (h2 p b hb).1
      rw [ho] at this; cases this⟩
structure Suf (bs bs' : List (Option Blk)) (ρ : Nat → Nat) : Prop where
  inj : ∀ p q b c, listMem bs p = some b → listMem bs q = some c → ρ p = ρ q → p = q
  sub : ∀ p b, listMem bs p = some b → ∃ b', listMem bs' (ρ p) = some b' ∧ (∀ k, b.has k → b'.has k) ∧ b'.own = b.own ∧ ∀ w, Holds b' w → Holds b w
theorem Suf.owns {bs bs' : List (Option Blk)} {ρ : Nat → Nat} (h : Suf bs bs' ρ) (k : Nat) : Owns (listMem bs) k → Owns (listMem bs') k := fun ⟨p, b, hb, ho, hk⟩ => by
  obtain ⟨b', h1, h2, h3, _⟩ := h.sub p b hb
  exact ⟨ρ p, b', h1, by rw [h3, ho], h2 k hk⟩
theorem Suf.holds {bs bs' : List (Option Blk)} {ρ : Nat → Nat} (h : Suf bs bs' ρ) {w : World} (hm : ∀ p b, listMem bs' p = some b → Holds b w) : ∀ p b, listMem bs p = some b → Holds b w := fun p b hb => by
  obtain ⟨b', h1, _, _, h4⟩ := h.sub p b hb
  exact h4 w (hm _ _ h1)
theorem Suf.apart {bs bs' : List (Option Blk)} {ρ : Nat → Nat} (h : Suf bs bs' ρ) (ha : Apart (listMem bs')) : Apart (listMem bs) := fun p q b c hpq hb hc ho => by
  obtain ⟨b', h1, h2, h3, _⟩ := h.sub p b hb
  obtain ⟨c', k1, k2, k3, _⟩ := h.sub q c hc
  exact fun k l1 l2 => ha _ _ b' c' (fun e => hpq (h.inj p q b c hb hc e)) h1 k1 (by rw [h3, ho]) k (h2 k l1) (k2 k l2)
theorem Suf.fam {F : Blk → Prop} {bs bs' : List (Option Blk)} {ρ : Nat → Nat} (h : Suf bs bs' ρ) {w : World} (hF : Fam F (listMem bs') w) : Fam F (listMem bs) w := fun b hb => by
  obtain ⟨h1, h2, h3⟩ := hF b hb
  exact ⟨h1, h2, fun k hk ho => h3 k hk (h.owns _ ho)⟩
def Leaves (out out' : List (Option Blk)) (π : Nat → Nat) : Prop :=
  (∀ p q b c, listMem out' p = some b → listMem out' q = some c → π p = π q → p = q) ∧
  ∀ p b, listMem out' p = some b → b.own = true ∧ ∃ b', listMem out (π p) = some b' ∧ (∀ k, b.has k → b'.has k) ∧ b'.own = true ∧ ∀ w, Holds b' w → Holds b w
theorem RunsO.conv {F : Blk → Prop} {P : Program} {f : FuncId} {args : List Value} {bs bs' : List (Option Blk)} {k k' : Nat} {v v' : List Nat → Value} {out out' : List Nat → List (Option Blk)} (h : RunsO F P f args bs k v out)
    (ρ : Nat → Nat) (h1 : Suf bs bs' ρ) (π : Nat → Nat) (σ : List Nat → List Nat) (hσ : ∀ ns, ns.length = k → (σ ns).length = k' ∧ v' (σ ns) = v ns ∧ Leaves (out ns) (out' (σ ns)) π) : RunsO F P f args bs' k' v' out' := by
  intro w hm ha hF
  refine Calls.mono (h w (h1.holds hm) (h1.apart ha) (h1.fam hF)) ?_
  rintro e w' ⟨ns, hns, he, hp⟩
  obtain ⟨h3, h4, h5, h6⟩ := hσ ns hns
  exact ⟨σ ns, h3, by rw [h4, he], hp.conv h1.owns π h5 h6⟩
theorem SRunsO.conv {P : Program} {s : Sem Next} {bs bs' : List (Option Blk)} {k k' : Nat} {v v' : List Nat → Value} {out out' : List Nat → List (Option Blk)} (h : SRunsO P s bs k v out)
    (ρ : Nat → Nat) (h1 : Suf bs bs' ρ) (π : Nat → Nat) (σ : List Nat → List Nat) (hσ : ∀ ns, ns.length = k → (σ ns).length = k' ∧ v' (σ ns) = v ns ∧ Leaves (out ns) (out' (σ ns)) π) : SRunsO P s bs' k' v' out' := by
  intro w hm ha
  obtain ⟨ns, w', hns, he, hp⟩ := h w (h1.holds hm) (h1.apart ha)
  obtain ⟨h3, h4, h5, h6⟩ := hσ ns hns
  exact ⟨σ ns, w', h3, by rw [h4]; exact he, hp.conv h1.owns π h5 h6⟩
theorem RunsF.toO {F : Blk → Prop} {P : Program} {f : FuncId} {args : List Value} {bs : List Blk} {k : Nat} {v : List Nat → Value} {out : List Nat → List (Option Blk)} (h : RunsF F P f args bs k v out) : RunsO F P f args (bs.map some) k v out :=
  fun w hm ha hF => h w (fun b hb => by obtain ⟨i, hi⟩ := List.getElem?_of_mem hb; exact hm i b (listMem_some.2 hi)) ha hF
theorem Runs.toO {F : Blk → Prop} {P : Program} {f : FuncId} {args : List Value} {bs : List Blk} {k : Nat} {v : List Nat → Value} {out : List Nat → List (Option Blk)} (h : Runs P f args bs k v out) : RunsO F P f args (bs.map some) k v out := h.toF.toO
theorem SRuns.toO {P : Program} {s : Sem Next} {bs : List Blk} {k : Nat} {v : List Nat → Value} {out : List Nat → List (Option Blk)} (h : SRuns P s bs k v out) : SRunsO P s (bs.map some) k v out :=
  fun w hm ha => h w (fun b hb => by obtain ⟨i, hi⟩ := List.getElem?_of_mem hb; exact hm i b (listMem_some.2 hi)) ha
theorem RunsO.toF {F : Blk → Prop} {P : Program} {f : FuncId} {args : List Value} {bs : List Blk} {k : Nat} {v : List Nat → Value} {out : List Nat → List (Option Blk)} (h : RunsO F P f args (bs.map some) k v out) : RunsF F P f args bs k v out :=
  fun w hm ha hF => h w (fun i b hb => hm b (List.mem_of_getElem? (listMem_some.1 hb))) ha hF
theorem lm0 {o : Option Blk} {r : List (Option Blk)} : listMem (o :: r) 0 = o := rfl
theorem lm1 {o : Option Blk} {r : List (Option Blk)} (p : Nat) : listMem (o :: r) (p + 1) = listMem r p := by simp [listMem]
theorem lmN (p : Nat) : listMem ([] : List (Option Blk)) p = none := by simp [listMem]
inductive Sub : List (Option Blk) → List (Option Blk) → Prop where
  | zz (l : List (Option Blk)) : Sub [] l
  | dr {l l' : List (Option Blk)} (o : Option Blk) : Sub l l' → Sub (none :: l) (o :: l')
  | kp {l l' : List (Option Blk)} (b b' : Blk) (h : (∀ k, b.has k → b'.has k) ∧ b'.own = b.own ∧ ∀ w, Holds b' w → Holds b w) : Sub l l' → Sub (some b :: l) (some b' :: l')
  | gp {l l' : List (Option Blk)} (o : Option Blk) : Sub l l' → Sub l (o :: l')
  | dn {l l' : List (Option Blk)} : Sub l l' → Sub (none :: l) l'
theorem Sub.at {l l' : List (Option Blk)} (h : Sub l l') : ∃ ρ, Suf l l' ρ := by
  induction h with
  | zz l => exact ⟨id, ⟨fun p q b c hb => (by rw [lmN] at hb; cases hb), fun p b hb => (by rw [lmN] at hb; cases hb)⟩⟩
  | @dr l l' o _ ih =>
    obtain ⟨ρ, h1, h2⟩ := ih
    refine ⟨fun p => match p with | 0 => 0 | p + 1 => ρ p + 1, ⟨fun p q b c hb hc e => ?_, fun p b hb => ?_⟩⟩
    · cases p with
      | zero => cases hb
      | succ p => cases q with
        | zero => cases hc
        | succ q => rw [lm1] at hb hc; simp only at e; have := h1 p q b c hb hc (by omega); omega
    · cases p with
      | zero => cases hb
      | succ p => rw [lm1] at hb; simp only [lm1]; exact h2 p b hb
  | @kp l l' b0 b0' h0 _ ih =>
    obtain ⟨ρ, h1, h2⟩ := ih
    refine ⟨fun p => match p with | 0 => 0 | p + 1 => ρ p + 1, ⟨fun p q b c hb hc e => ?_, fun p b hb => ?_⟩⟩
    · cases p with
      | zero => cases q with
        | zero => rfl
        | succ q => simp only at e; omega
      | succ p => cases q with
        | zero => simp only at e; omega
        | succ q => rw [lm1] at hb hc; simp only at e; have := h1 p q b c hb hc (by omega); omega
    · cases p with
      | zero => rw [lm0] at hb; injection hb with hb; subst hb; exact ⟨b0', rfl, h0⟩
      | succ p => rw [lm1] at hb; simp only [lm1]; exact h2 p b hb
  | dn _ ih =>
    obtain ⟨ρ, h1, h2⟩ := ih
    refine ⟨fun p => match p with | 0 => 0 | p + 1 => ρ p, ⟨fun p q b c hb hc e => ?_, fun p b hb => ?_⟩⟩
    · cases p with
      | zero => cases hb
      | succ p => cases q with
        | zero => cases hc
        | succ q => rw [lm1] at hb hc; simp only at e; have := h1 p q b c hb hc e; omega
    · cases p with
      | zero => cases hb
      | succ p => rw [lm1] at hb; simp only; exact h2 p b hb
  | gp _ _ ih =>
    obtain ⟨ρ, h1, h2⟩ := ih
    exact ⟨fun p => ρ p + 1, ⟨fun p q b c hb hc e => h1 p q b c hb hc (by omega), fun p b hb => by simp only [lm1]; exact h2 p b hb⟩⟩
def ownL : List (Option Blk) → Prop
  | [] => True
  | none :: r => ownL r
  | some b :: r => b.own = true ∧ ownL r
theorem ownL_at : ∀ {l : List (Option Blk)}, ownL l → ∀ p b, listMem l p = some b → b.own = true
  | [], _, p, b, hb => by rw [lmN] at hb; cases hb
  | none :: r, h, 0, b, hb => by cases hb
  | some c :: r, h, 0, b, hb => by rw [lm0] at hb; injection hb with hb; subst hb; exact h.1
  | none :: r, h, p + 1, b, hb => by rw [lm1] at hb; exact ownL_at (l := r) h p b hb
  | some c :: r, h, p + 1, b, hb => by rw [lm1] at hb; exact ownL_at h.2 p b hb
theorem Sub.leaves {l l' : List (Option Blk)} (h : Sub l' l) (ho : ownL l') : ∃ π, Leaves l l' π := by
  obtain ⟨ρ, h1, h2⟩ := h.at
  refine ⟨ρ, h1, fun p b hb => ?_⟩
  have hown := ownL_at ho p b hb
  obtain ⟨b', k1, k2, k3, k4⟩ := h2 p b hb
  exact ⟨hown, b', k1, k2, by rw [k3, hown], k4⟩
theorem RunsO.as {F : Blk → Prop} {P : Program} {f : FuncId} {args : List Value} {bs bs' : List (Option Blk)} {k k' : Nat} {v v' : List Nat → Value} {out out' : List Nat → List (Option Blk)} (h : RunsO F P f args bs k v out)
    (h1 : Sub bs bs') (σ : List Nat → List Nat) (hσ : ∀ ns, ns.length = k → (σ ns).length = k' ∧ v' (σ ns) = v ns ∧ Sub (out' (σ ns)) (out ns) ∧ ownL (out' (σ ns))) : RunsO F P f args bs' k' v' out' := by
  obtain ⟨ρ, hρ⟩ := h1.at
  intro w hm ha hF
  refine Calls.mono (h w (hρ.holds hm) (hρ.apart ha) (hρ.fam hF)) ?_
  rintro e w' ⟨ns, hns, he, hp⟩
  obtain ⟨h3, h4, h5, h6⟩ := hσ ns hns
  obtain ⟨π, h7, h8⟩ := h5.leaves h6
  exact ⟨σ ns, h3, by rw [h4, he], hp.conv hρ.owns π h7 h8⟩
theorem SRunsO.as {P : Program} {s : Sem Next} {bs bs' : List (Option Blk)} {k k' : Nat} {v v' : List Nat → Value} {out out' : List Nat → List (Option Blk)} (h : SRunsO P s bs k v out)
    (h1 : Sub bs bs') (σ : List Nat → List Nat) (hσ : ∀ ns, ns.length = k → (σ ns).length = k' ∧ v' (σ ns) = v ns ∧ Sub (out' (σ ns)) (out ns) ∧ ownL (out' (σ ns))) : SRunsO P s bs' k' v' out' := by
  obtain ⟨ρ, hρ⟩ := h1.at
  intro w hm ha
  obtain ⟨ns, w', hns, he, hp⟩ := h w (hρ.holds hm) (hρ.apart ha)
  obtain ⟨h3, h4, h5, h6⟩ := hσ ns hns
  obtain ⟨π, h7, h8⟩ := h5.leaves h6
  exact ⟨σ ns, w', h3, by rw [h4]; exact he, hp.conv hρ.owns π h7 h8⟩
theorem Sub.refl : ∀ (l : List (Option Blk)), Sub l l
  | [] => .zz _
  | none :: r => .dr _ (Sub.refl r)
  | some b :: r => .kp b b ⟨fun _ h => h, rfl, fun _ h => h⟩ (Sub.refl r)
theorem Sub.cons {l l' : List (Option Blk)} (o : Option Blk) (h : Sub l l') : Sub (o :: l) (o :: l') := match o with
  | none => .dr _ h
  | some b => .kp b b ⟨fun _ h => h, rfl, fun _ h => h⟩ h
theorem RunsO.mono {F F' : Blk → Prop} {P : Program} {f : FuncId} {args : List Value} {bs : List (Option Blk)} {k : Nat} {v : List Nat → Value} {out : List Nat → List (Option Blk)} (hs : ∀ b, F b → F' b) (h : RunsO F P f args bs k v out) : RunsO F' P f args bs k v out :=
  fun w hm ha hF => h w hm ha fun b hb => hF b (hs b hb)
theorem RunsO.frame {F : Blk → Prop} {P : Program} {f : FuncId} {args : List Value} {bs : List (Option Blk)} {ps : List (Nat × Bool)} {k k' : Nat} {v v' : List Nat → Value} {out out' : List Nat → List (Option Blk)}
    (h : RunsO F P f args (lendO (listMem bs) ps) k v out) (hn : nodupPs ps = true) (σ : List Nat → List Nat)
    (hσ : ∀ ns, ns.length = k → (σ ns).length = k' ∧ v' (σ ns) = v ns ∧ ps.length ≤ (out ns).length ∧ ∀ p b, listMem (out' (σ ns)) p = some b → memApply (listMem bs) (outUpd ps bs.length (out ns)) p = some b) : RunsO F P f args bs k' v' out' := by
  intro w hm ha hF
  refine Calls.mono (h w (lendO_holds hm) (lendO_apart ha hn) (fam_lendO hF)) ?_
  rintro e w' ⟨ns, hns, he, hp⟩
  obtain ⟨h1, h2, h3, h4⟩ := hσ ns hns
  exact ⟨σ ns, h1, by rw [h2, he], (post_frameO hm ha h3 hp).sub h4⟩
theorem RunsO.reads {F : Blk → Prop} {P : Program} {f : FuncId} {args : List Value} {bs : List (Option Blk)} (ps : List (Nat × Bool)) {k : Nat} {v0 : Value} {out : List Nat → List (Option Blk)}
    (h : RunsO F P f args (lendO (listMem bs) ps) 0 (fun _ => v0) out) (hn : nodupPs ps = true) (hr : ps.all (fun x => x.2) = true) : RunsO F P f args bs k (fun _ => v0) (fun _ => bs) := by
  have hout : ∀ (qs : List (Nat × Bool)) (nx : Nat) (m : Nat), qs.all (fun x => x.2) = true → outUpd qs nx (List.replicate qs.length none) = [] := by
    intro qs
    induction qs with
    | nil => intro nx m _; rfl
    | cons x r ih =>
      obtain ⟨p, ro⟩ := x
      intro nx m hx
      simp only [List.all_cons, Bool.and_eq_true] at hx
      have : ro = true := hx.1
      subst this
      simp only [List.length_cons, List.replicate_succ, outUpd]
      exact ih nx m hx.2
  have h' : RunsO F P f args (lendO (listMem bs) ps) 0 (fun _ => v0) (fun _ => List.replicate ps.length none) := fun w hm ha hF => Calls.mono (h w hm ha hF) fun e w' ⟨ns, h1, h2, h3⟩ => ⟨ns, h1, h2, h3.sub fun p b hb => by
    have : ∀ (n p : Nat), listMem (List.replicate n (none : Option Blk)) p = none := fun n p => by
      simp only [listMem, List.getElem?_replicate]
      split <;> simp_all
    rw [this] at hb; cases hb⟩
  refine h'.frame hn (fun _ => List.replicate k 0) fun ns _ => ⟨by simp, rfl, by simp, fun p b hb => ?_⟩
  rw [hout ps bs.length 0 hr]
  exact hb
section
variable {α : Type}
def gsA (A : Grw α) : Option Addr := match A.z with
  | true => none
  | false => some ⟨A.nm, 0, none⟩
def gsC (A : Grw α) : Nat := match A.z with
  | true => 0
  | false => A.n + A.r
def gsV (A : Grw α) : Value := .slice (gsA A) A.n (gsC A)
def gsE (C : α → List Value) (zc : List Value) (sz : Nat) (A : Grw α) : Option Blk := match A.z with
  | true => none
  | false => some ⟨A.nm, true, 0, sprE sz (A.n + A.r) A.n (fun k => C (A.f k)) zc⟩
def Grw.ok (A : Grw α) : Prop := A.z = true → A.n = 0
def Grw.cat (A : Grw α) (m : Nat) (h : Nat → α) (nm r : Nat) : Grw α := ⟨decide (m = 0) && A.z, nm, A.n + m, r, catU A.f A.n h⟩
def gsOf (S : Nat) (F : Nat → α) (a r : Nat) : Grw α := ⟨decide (S = 0), a, S, r, F⟩
theorem gsOf_ok (S : Nat) (F : Nat → α) (a r : Nat) : (gsOf S F a r).ok := fun h => of_decide_eq_true h
variable {A : Grw α} {C : α → List Value} {zc : List Value} {sz : Nat} {K : α → Value} {zv : Value}
theorem gsA_nil (h : A.z = true) : gsA A = none := by unfold gsA; rw [h]
theorem gsC_nil (h : A.z = true) : gsC A = 0 := by unfold gsC; rw [h]
theorem gsE_nil (h : A.z = true) : gsE C zc sz A = none := by unfold gsE; rw [h]
theorem gsA_own (h : A.z = false) : gsA A = some ⟨A.nm, 0, none⟩ := by unfold gsA; rw [h]
theorem gsC_own (h : A.z = false) : gsC A = A.n + A.r := by unfold gsC; rw [h]
theorem gsE_own (h : A.z = false) : gsE C zc sz A = some ⟨A.nm, true, 0, sprE sz (A.n + A.r) A.n (fun k => C (A.f k)) zc⟩ := by unfold gsE; rw [h]
theorem gsV_nil (h : A.z = true) (hk : A.ok) : gsV A = .slice none 0 0 := by unfold gsV; rw [gsA_nil h, gsC_nil h, hk h]
theorem gsV_own (h : A.z = false) : gsV A = .slice (some ⟨A.nm, 0, none⟩) A.n (A.n + A.r) := by unfold gsV; rw [gsA_own h, gsC_own h]
theorem Grw.ok.pos (hk : A.ok) (h : 0 < A.n) : A.z = false := by
  cases hz : A.z with
  | false => rfl
  | true => have := hk hz; omega
theorem sprE_row {c n : Nat} {f g : Nat → α} (hg : ∀ k, k < n → f k = g k) : sprE sz c n (fun k => C (f k)) zc = sprE sz c n (fun k => C (g k)) zc := by
  unfold sprE
  congr 1; funext k
  by_cases h : k < n
  · rw [if_pos h, if_pos h]; show C (f k) = C (g k); rw [hg k h]
  · rw [if_neg h, if_neg h]
theorem gsE_row {A' : Grw α} (h1 : A'.z = A.z) (h2 : A'.nm = A.nm) (h3 : A'.n = A.n) (h4 : A'.r = A.r) (h5 : ∀ k, k < A.n → A'.f k = A.f k) : gsE C zc sz A' = gsE C zc sz A := by
  obtain ⟨z, nm, n, r, f⟩ := A; obtain ⟨z', nm', n', r', f'⟩ := A'
  simp only at h1 h2 h3 h4 h5; subst h1; subst h2; subst h3; subst h4
  unfold gsE
  cases z' <;> simp only [sprE_row h5]
def Src (C : α → List Value) (sz : Nat) (ob : Option Blk) (wa : Option Addr) (n : Nat) (f : Nat → α) : Prop :=
  0 < n → ∃ b o S, wa = some ⟨b, o, none⟩ ∧ ob = some ⟨b, false, o, S⟩ ∧ S.isMap = false ∧ ∀ j v, (Cont.tab n sz fun k => C (f k)).get j = some v → S.get j = some v
structure Prt (α : Type) where
  wa : Option Addr
  n : Nat
  c : Nat
  nm : Nat
  o : Nat
  f : Nat → α
def Prt.ok (D : Prt α) : Prop := (0 < D.n → D.wa = some ⟨D.nm, D.o, none⟩) ∧ D.n ≤ D.c
section
variable {P : Program} {t ty e : TypeId} {B : Nat}
theorem sizeB_agg (h1 : AggC P e zc sz B) : sizeB P e = some sz := by
  obtain ⟨i, z, hi, _, hsz, _⟩ := h1
  simp [sizeB, hi, hsz]
theorem mkG_catE (ht : P.underlying t = some (.slice e)) (h1 : AggC P e zc sz B) (A : Grw α) (hA : A.ok) (hC : ∀ a, (C a).length = sz ∧ (C a).all Value.oneCell' = true) (h : Nat → α) (m : Nat) (adr : Option Addr) (cc : Nat) (ob : Option Blk)
    (hs : 0 < m → ∃ k bo os S, adr = some ⟨k, bo + os, none⟩ ∧ ob = some ⟨k, false, bo, S⟩ ∧ ∀ j, j < m * sz → S.get (os + j) = some (cf sz (fun k => C (h k)) j))
    (hb : (A.n + m) * B ≤ 140737488355328 ∧ A.n + m ≤ 9223372036854775807) :
    SRunsO P (appendSem t ty (gsV A) (.slice adr m cc)) [gsE C zc sz A, ob] 2 (fun ns => gsV (A.cat m h (ns.getD 0 0) (ns.getD 1 0))) (fun ns => [gsE C zc sz (A.cat m h (ns.getD 0 0) (ns.getD 1 0)), none]) := by
  rcases Nat.eq_zero_or_pos m with hm | hm
  · subst hm
    have hcap : A.n ≤ gsC A := by
      unfold gsC; cases hz : A.z with
      | true => rw [hA hz]; exact Nat.zero_le _
      | false => simp only; omega
    have key := (srun_append_noneM (P := P) (t := t) (ty := ty) ht (sizeB_agg h1) (gsA A) A.n (gsC A) hcap adr 0 cc rfl).toO
    intro w hm ha
    obtain ⟨ns, w', hns, he, hp⟩ := key w (fun p b hb => by cases p <;> cases hb) (fun p q b c _ hb => by cases p <;> cases hb)
    refine ⟨[A.nm, A.r], w', rfl, ?_, ?_⟩
    · have ec : A.cat 0 h A.nm A.r = ⟨A.z, A.nm, A.n, A.r, catU A.f A.n h⟩ := by
        unfold Grw.cat; rw [show (decide (0 = 0) && A.z) = A.z from by simp]; rfl
      have e : gsV (A.cat 0 h A.nm A.r) = .slice (gsA A) A.n (gsC A) := by rw [ec]; rfl
      show _ ∨ _
      simp only [List.getD_cons_zero, List.getD_cons_succ, e]
      exact he
    · have e : gsE C zc sz (A.cat 0 h A.nm A.r) = gsE C zc sz A := gsE_row (by simp [Grw.cat]) rfl rfl rfl fun k hk => by simp [Grw.cat, catU, hk]
      simp only [List.getD_cons_zero, List.getD_cons_succ, e]
      have hnil : ∀ p : Nat, listMem (List.map some ([] : List Blk)) p = none := fun p => by simp [listMem]
      have hadv := hp.adv
      have hw : ∀ k, k < w.heap.size → w'.heap[k]? = w.heap[k]? := fun k hk => hadv.heap k hk fun ⟨p, b, hb, _⟩ => by rw [hnil] at hb; cases hb
      have hsub : ∀ p b, listMem [gsE C zc sz A, none] p = some b → p = 0 ∧ gsE C zc sz A = some b := fun p b hb => by
        rcases p with _ | _ | p
        · exact ⟨rfl, hb⟩
        · cases hb
        · simp [listMem] at hb
      refine ⟨fun p b hb => ?_, fun p q b c hpq hb hc ho => ?_, ⟨hadv.os, hadv.output, hadv.tape, hadv.size, fun k hk _ => hw k hk, fun k ⟨p, b, hb, ho, hk⟩ => ?_, fun p b hb ho => ?_⟩⟩
      · obtain ⟨rfl, h2⟩ := hsub p b hb
        have := hm 0 b h2
        exact this.of_heap hadv.size fun k hk => hw _ (this.has_lt hk)
      · obtain ⟨rfl, _⟩ := hsub p b hb
        obtain ⟨rfl, _⟩ := hsub q c hc
        exact absurd rfl hpq
      · obtain ⟨rfl, h2⟩ := hsub p b hb
        exact .inl ⟨0, b, h2, ho, hk⟩
      · obtain ⟨rfl, h2⟩ := hsub p b hb
        cases hz : A.z with
        | true => rw [gsE_nil hz] at h2; cases h2
        | false => rw [gsE_own hz] at h2; exact absurd (by injection h2 with h2; rw [← h2]) (show ¬ b.own = true from by rw [ho]; decide)
  · obtain ⟨k, bo, os, S, rfl, rfl, hS⟩ := hs hm
    have hmz : decide (m = 0) = false := decide_eq_false (by omega)
    cases hz : A.z with
    | true =>
      have hn := hA hz
      rw [gsV_nil hz hA, gsE_nil hz]
      have key := (mkE_append_nil (P := P) (t := t) (ty := ty) ht h1 k bo os m cc C hC h S hS ⟨hm, by rw [hn, Nat.zero_add] at hb; exact hb.1, by omega⟩).toO
      have e1 : ∀ ns : List Nat, gsV (A.cat m h (ns.getD 0 0) (ns.getD 1 0)) = .slice (some ⟨ns.getD 0 0, 0, none⟩) m (m + ns.getD 1 0) := fun ns => by
        rw [gsV_own (by simp [Grw.cat, hmz])]; simp only [Grw.cat, hn, Nat.zero_add]
      have e2 : ∀ ns : List Nat, gsE C zc sz (A.cat m h (ns.getD 0 0) (ns.getD 1 0)) = some ⟨ns.getD 0 0, true, 0, sprE sz (m + ns.getD 1 0) m (fun k => C (h k)) zc⟩ := fun ns => by
        rw [gsE_own (by simp [Grw.cat, hmz])]; simp only [Grw.cat, hn, Nat.zero_add]
        rw [sprE_row (g := h) fun k _ => by simp [catU]]
      refine key.conv (fun p => p + 1) ⟨fun p q b c _ _ e => Nat.succ.inj e, fun p b hb => ⟨b, by rw [lm1]; exact hb, fun _ h => h, rfl, fun _ h => h⟩⟩ (fun p => p + 1) id fun ns hns => ⟨hns, e1 ns, fun p q b c _ _ e => Nat.succ.inj e, fun p b hb => ?_⟩
      rcases p with _ | _ | p
      · rw [lm0] at hb; simp only [id, e2] at hb; injection hb with hb; subst hb
        exact ⟨rfl, _, rfl, fun _ h => h, rfl, fun _ h => h⟩
      · cases hb
      · simp [listMem] at hb
    | false =>
      rw [gsV_own hz, gsE_own hz]
      have key := (mkE_append (P := P) (t := t) (ty := ty) ht h1 A.nm A.n A.r k bo os m cc C hC A.f h S hS hb).toO
      refine key.as (.refl _) id fun ns _ => ⟨by assumption, ?_, ?_, ?_⟩
      · show gsV _ = _
        rw [gsV_own (by simp [Grw.cat, hmz])]; simp only [Grw.cat, id]
      · rw [gsE_own (by simp [Grw.cat, hmz])]
        simp only [Grw.cat, id]
        exact .kp _ _ ⟨fun _ h => h, rfl, fun w hw => hw⟩ (.dr _ (.zz _))
      · rw [gsE_own (by simp [Grw.cat, hmz])]; exact ⟨rfl, trivial⟩
end
theorem gs_le (hA : A.ok) : A.n ≤ gsC A := by
  unfold gsC; cases hz : A.z with
  | true => rw [hA hz]; exact Nat.zero_le _
  | false => simp only; omega
end
section
variable {P : Program} {t ty e : TypeId}
end
section
end
end Go.Eng
end
