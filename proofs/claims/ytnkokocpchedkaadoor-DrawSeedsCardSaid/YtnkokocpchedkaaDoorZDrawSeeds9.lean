/-
  Many in one: Maps, Fams, Byt, ShaOps, ShaFns, ShaHash, BytIn, ShaMore, ShaHsh, ShaRefL.
-/
import Derived.Test.YtnkokocpchedkaaDoorZDrawSeeds8
import Derived.MapKept
import Derived.Test.YtnkokocpchedkaaDoorRows
import Derived.WideKeyRuns
set_option linter.unusedVariables false
set_option linter.unusedSimpArgs false
set_option maxRecDepth 100000
set_option exponentiation.threshold 600
set_option maxHeartbeats 1000000
section
namespace Go.Eng
open Go.WideShapes
section
variable {α β : Type} {P : Program} {mt kt et : TypeId} {kv : α → Value} {ev : β → Value} {z : β} {eqb : α → α → Bool}
end
end Go.Eng
end
section
namespace Go.Eng
open Go.RowKit Go.WideShapes Go.ChangeShapes Go.ChangeAt Go.Deep
theorem Runs.toF {F : Blk → Prop} {P : Program} {f : FuncId} {args : List Value} {bs : List Blk} {k : Nat} {v : List Nat → Value} {out : List Nat → List (Option Blk)} (h : Runs P f args bs k v out) : RunsF F P f args bs k v out :=
  fun w hb ha _ => h w hb ha
theorem RunsF.mono {F F' : Blk → Prop} {P : Program} {f : FuncId} {args : List Value} {bs : List Blk} {k : Nat} {v : List Nat → Value} {out : List Nat → List (Option Blk)} (hs : ∀ b, F b → F' b) (h : RunsF F P f args bs k v out) : RunsF F' P f args bs k v out :=
  fun w hb ha hF => h w hb ha fun b hb' => hF b (hs b hb')
def noneL : List Blk → List (Option Blk)
  | [] => []
  | _ :: r => none :: noneL r
theorem noneL_get : ∀ (l : List Blk) (p : Nat) (b : Blk), listMem (noneL l) p ≠ some b
  | [], p, b => by simp [noneL, listMem]
  | _ :: r, 0, b => by simp [noneL, listMem]
  | _ :: r, p + 1, b => noneL_get r p b
theorem RunsF.read {F : Blk → Prop} {P : Program} {f : FuncId} {args : List Value} {cs : List Blk} {v : Value} (h : RunsF F P f args [] 0 (fun _ => v) (fun _ => []))
    (hF : ∀ w : World, (∀ b ∈ cs, Holds b w) → ∀ b, F b → Holds b w ∧ b.own = false) (hb : ∀ b ∈ cs, b.own = false) : Runs P f args cs 0 (fun _ => v) (fun _ => noneL cs) := by
  intro w hm ha
  have hno : ∀ k, ¬ Owns (listMem (([] : List Blk).map some)) k := fun k ⟨p, b, h1, h2, _⟩ => by cases h1
  refine Calls.mono (h w (fun b hb' => by cases hb') (fun p q b c _ hpb _ ho => by cases hpb) (fun b hFb => ⟨(hF w hm b hFb).1, (hF w hm b hFb).2, fun k _ => hno k⟩)) ?_
  rintro e w' ⟨ns, hns, he, hp⟩
  refine ⟨ns, hns, he, ⟨fun p b hpb => absurd hpb (noneL_get _ _ _), fun p q b c _ hpb _ _ => absurd hpb (noneL_get _ _ _), ⟨hp.adv.os, hp.adv.output, hp.adv.tape, hp.adv.size, fun k hk _ => hp.adv.heap k hk (hno k), fun k ⟨p, b, h1, _, _⟩ => absurd h1 (noneL_get _ _ _), fun p b hpb _ => absurd hpb (noneL_get _ _ _)⟩⟩⟩
section
variable {P : Program} {t e : TypeId} {x ix : Operand}
theorem is_ixSq {sz : Nat} (ht : P.underlying t = some (.slice e)) (he : sizeB P e = some sz) (b o n c i : Nat) (wa : Option Addr) (hwa : wa = some ⟨b, o, none⟩) (hi : i < n) : IsOp P (.indexAddr t x ix) [.slice wa n c, nat i] (ptr b (o + i * sz)) := by
  subst hwa; exact is_ixSl ht he b o n c i hi
end
theorem RunsF.over {F F' : Blk → Prop} {P : Program} {f : FuncId} {args : List Value} {bs : List Blk} {k : Nat} {v : List Nat → Value} {out : List Nat → List (Option Blk)} (hs : ∀ b, F b → ∃ b', F' b' ∧ (∀ k, b.has k → b'.has k) ∧ b.own = b'.own ∧ ∀ w : World, Holds b' w → Holds b w) (h : RunsF F P f args bs k v out) : RunsF F' P f args bs k v out :=
  fun w hb ha hF => h w hb ha fun b hb' => by
    obtain ⟨b', h1, h2, h3, h4⟩ := hs b hb'
    obtain ⟨k1, k2, k3⟩ := hF b' h1
    exact ⟨h4 w k1, h3.trans k2, fun k hk => k3 k (h2 k hk)⟩
theorem runsF_law {F : Blk → Prop} {P : Program} {f : FuncId} {args : List Value} {bs : List Blk} {v : Value} {out : List Nat → List (Option Blk)} {W : World} (h : RunsF F P f args bs 0 (fun _ => v) out) (hb : ∀ b ∈ bs, Holds b W) (hro : ∀ b ∈ bs, b.own = false)
    (hF : ∀ b, F b → Holds b W ∧ b.own = false) : Calls P f args.toArray W fun e w' => e = .returned v ∧ Below W.heap.size W w' := by
  have hl : ∀ p b, listMem (bs.map some) p = some b → b.own = false := fun p b hp => hro b (List.mem_of_getElem? (listMem_some.1 hp))
  refine Calls.mono (h W hb (fun p q x y _ hx _ ho => ?_) fun b hb => ⟨(hF b hb).1, (hF b hb).2, fun _ _ ⟨p, x, hp, ho, _⟩ => ?_⟩) fun e w' ⟨ns, _, he, hp⟩ => ⟨he, below_of_adv hp.adv hl⟩
  · rw [hl p x hx] at ho; cases ho
  · rw [hl p x hp] at ho; cases ho
theorem listMem_none (cs : List Blk) (l : List (Option Blk)) : ∀ (p : Nat) (b : Blk), listMem (noneL cs ++ l) p = some b → ∃ p', p = cs.length + p' ∧ listMem l p' = some b := by
  induction cs with
  | nil => intro p b h; exact ⟨p, by simp, h⟩
  | cons c r ih =>
    intro p b h
    cases p with
    | zero => simp [noneL, listMem] at h
    | succ p =>
      obtain ⟨p', h1, h2⟩ := ih p b (by simpa [noneL, listMem] using h)
      exact ⟨p', by simp only [List.length_cons]; omega, h2⟩
theorem RunsF.lendN {F F' : Blk → Prop} {P : Program} {f : FuncId} {args : List Value} {cs : List Blk} {k : Nat} {v : List Nat → Value} {out : List Nat → List (Option Blk)} (h : RunsF F P f args [] k v out)
    (hF : ∀ w : World, (∀ b ∈ cs, Holds b w) → ∀ b, F b → F' b ∨ (Holds b w ∧ b.own = false)) (hb : ∀ b ∈ cs, b.own = false) : RunsF F' P f args cs k v (fun ns => noneL cs ++ out ns) := by
  intro w hm ha hF'
  have hno : ∀ k, ¬ Owns (listMem (([] : List Blk).map some)) k := fun k ⟨p, b, h1, h2, _⟩ => by cases h1
  refine Calls.mono (h w (fun b hb' => by cases hb') (fun p q b c _ hpb _ ho => by cases hpb) (fun b hFb => ?_)) ?_
  · rcases hF w hm b hFb with h1 | h1
    · exact ⟨(hF' b h1).1, (hF' b h1).2.1, fun k _ => hno k⟩
    · exact ⟨h1.1, h1.2, fun k _ => hno k⟩
  rintro e w' ⟨ns, hns, he, hp⟩
  refine ⟨ns, hns, he, ⟨fun p b hpb => ?_, fun p q b c hpq hpb hqc ho => ?_, ⟨hp.adv.os, hp.adv.output, hp.adv.tape, hp.adv.size, fun k hk _ => hp.adv.heap k hk (hno k), fun k ⟨p, b, h1, h2, h3⟩ => ?_, fun p b hpb ho => ?_⟩⟩⟩
  · obtain ⟨p', _, h2⟩ := listMem_none cs _ p b hpb
    exact hp.holds p' b h2
  · obtain ⟨p', h1, h2⟩ := listMem_none cs _ p b hpb
    obtain ⟨q', h3, h4⟩ := listMem_none cs _ q c hqc
    exact hp.apart p' q' b c (by omega) h2 h4 ho
  · obtain ⟨p', _, h4⟩ := listMem_none cs _ p b h1
    rcases hp.adv.names k ⟨p', b, h4, h2, h3⟩ with h5 | h5
    · exact absurd h5 (hno k)
    · exact .inr h5
  · obtain ⟨p', _, h4⟩ := listMem_none cs _ p b hpb
    have := hp.adv.ro p' b h4 ho
    cases this
def fromA (a : Option Addr) (cap i sz : Nat) : Option Addr := if cap = i then a else a.map (·.add (i * sz))
theorem is_slqFrom {P : Program} {t e : TypeId} {x y : Operand} (ht : P.underlying t = some (.slice e)) {sz : Nat} (hs : sizeB P e = some sz) (wa : Option Addr) (len cap i : Nat) (hi : i ≤ len ∧ len ≤ cap) : IsOp P (.slice t x (some y) none none) [.slice wa len cap, nat i] (.slice (fromA wa cap i sz) (len - i) (cap - i)) := by
  intro ρ o' ho hv
  rw [ho] at hv
  have hv' : [ρ x, ρ y] = [Value.slice wa len cap, nat i] := hv
  injection hv' with h1 hv'
  injection hv' with h2 _
  unfold execOp
  rw [ho]
  simp only [Option.map]
  show pureRun P (Sem.bind (Instr.sliceAt t (ρ x) (some (ρ y)) none none) fun v => Sem.pure (Next.value v)) = _
  rw [pureRun_bind, h1, h2]
  have hi' : 0 ≤ (i : Int) ∧ (i : Int) ≤ (len : Int) := by omega
  have e : pureRun P (Instr.sliceAt t (.slice wa len cap) (some (nat i)) none none) = some (.slice (fromA wa cap i sz) (len - i) (cap - i)) := by
    simp only [Instr.sliceAt, Instr.slice, Instr.sliceBounds, Instr.sliceBound, nat, pureRun_bind', asIntOf, pureRun, pure, pureRun_underlying ht, hi', and_self, if_true, pureRun_sizeOf hs, Int.toNat_natCast]
    rfl
  rw [e]
  rfl
def FamH (F : Blk → Prop) (w : World) : Prop := ∀ b, F b → Holds b w ∧ b.own = false
theorem RunsF.lendS {F F' : Blk → Prop} {P : Program} {f : FuncId} {args : List Value} {bs cs : List Blk} {v : Value} (h : RunsF F P f args bs 0 (fun _ => v) (fun _ => bs.map some))
    (hF : ∀ w : World, FamH F' w → (∀ b ∈ cs, Holds b w) → FamH F w) (hb : ∀ b ∈ bs ++ cs, b.own = false) : RunsF F' P f args (bs ++ cs) 0 (fun _ => v) (fun _ => noneL (bs ++ cs)) := by
  intro w hm ha hF'
  have hno : ∀ (l : List Blk) k, (∀ b ∈ l, b.own = false) → ¬ Owns (listMem (l.map some)) k := fun l k hl ⟨p, b, h1, h2, _⟩ => by
    have := hl b (List.mem_of_getElem? (listMem_some.1 h1))
    rw [h2] at this; cases this
  have hbs : ∀ b ∈ bs, b.own = false := fun b hb' => hb b (by simp [hb'])
  have hw := hF w (fun b hb' => ⟨(hF' b hb').1, (hF' b hb').2.1⟩) (fun b hb' => hm b (by simp [hb']))
  refine Calls.mono (h w (fun b hb' => hm b (by simp [hb'])) (fun p q b c _ hpb _ ho => ?_) (fun b hFb => ⟨(hw b hFb).1, (hw b hFb).2, fun k _ => hno bs k hbs⟩)) ?_
  · have := hbs b (List.mem_of_getElem? (listMem_some.1 hpb))
    rw [ho] at this; cases this
  · rintro e w' ⟨ns, hns, he, hp⟩
    refine ⟨ns, hns, he, ⟨fun p b hpb => absurd hpb (noneL_get _ _ _), fun p q b c _ hpb _ _ => absurd hpb (noneL_get _ _ _), ⟨hp.adv.os, hp.adv.output, hp.adv.tape, hp.adv.size, fun k hk _ => hp.adv.heap k hk (hno bs k hbs), fun k ⟨p, b, h1, _, _⟩ => absurd h1 (noneL_get _ _ _), fun p b hpb _ => absurd hpb (noneL_get _ _ _)⟩⟩⟩
theorem RunsF.darkF {F : Blk → Prop} {P : Program} {f : FuncId} {args : List Value} {bs : List Blk} {k : Nat} {v : List Nat → Value} {out : List Nat → List (Option Blk)} (fl : List Bool) (h : RunsF F P f args bs k v out) :
    RunsF F P f args bs k v (fun ns => dkn fl (out ns)) := fun w hb ha hF => Calls.mono (h w hb ha hF) fun _ _ ⟨ns, h1, h2, h3⟩ => ⟨ns, h1, h2, h3.sub (dkn_sub fl (out ns))⟩
end Go.Eng
end
section
namespace Go.Eng
structure BytL where
  wa : Option Addr
  wn : Nat
  wc : Nat
  wb : Nat
  wo : Nat
  wf : Nat → UInt8
def slqV (q : BytL) : Value := .slice q.wa q.wn q.wc
def bytB (q : BytL) : Blk := ⟨q.wb, false, q.wo, tabF q.wn fun k => u8 (q.wf k)⟩
structure OkB (q : BytL) : Prop where
  cap : q.wn ≤ q.wc
  ad : 0 < q.wn → q.wa = some ⟨q.wb, q.wo, none⟩
  len : q.wn ≤ 9223372036854775807
def famB (q : BytL) (b : Blk) : Prop := 0 < q.wn ∧ b = bytB q
def bytO (nm n c : Nat) (f : Nat → UInt8) : BytL := ⟨some ⟨nm, 0, none⟩, n, c, nm, 0, f⟩
def bytZ (a : Option Addr) (c : Nat) : BytL := ⟨a, 0, c, 0, 0, fun _ => 0⟩
theorem okb_own {nm n c : Nat} {f : Nat → UInt8} (h1 : n ≤ c) (h2 : n ≤ 9223372036854775807) : OkB (bytO nm n c f) := ⟨h1, fun _ => rfl, h2⟩
theorem okb_nil {a : Option Addr} {c : Nat} : OkB (bytZ a c) := ⟨Nat.zero_le _, fun h => absurd h (Nat.lt_irrefl 0), Nat.zero_le _⟩
theorem tabU_tail {nm o n k : Nat} {f : Nat → UInt8} {w : World} (h : Holds ⟨nm, false, o, tabF n fun k => u8 (f k)⟩ w) (hk : k ≤ n) : Holds ⟨nm, false, o + k, tabF (n - k) fun i => u8 (f (i + k))⟩ w := by
  refine ⟨h.lt, fun j v hj => ?_, (fun hb => by cases hb), obj_not rfl⟩
  by_cases hl : j < n - k
  · rw [tabF_in hl] at hj
    have := h.cell (k + j) v (by show (tabF n _).get (k + j) = _; rw [tabF_in (by omega)]; rw [Nat.add_comm k j]; exact hj)
    show w.cell? ⟨nm, o + k + j, none⟩ = some v
    rw [Nat.add_assoc]; exact this
  · rw [tabF_out hl] at hj; cases hj
theorem holdb_own {nm n c : Nat} {f : Nat → UInt8} {w : World} (h : Holds ⟨nm, false, 0, tabF n fun k => u8 (f k)⟩ w) : FamH (famB (bytO nm n c f)) w := fun b hb => by
  obtain ⟨_, rfl⟩ := hb
  exact ⟨h, rfl⟩
theorem holdb_nil {a : Option Addr} {c : Nat} {w : World} : FamH (famB (bytZ a c)) w := fun b hb => absurd hb.1 (Nat.lt_irrefl 0)
theorem hold_or {F G : Blk → Prop} {w : World} (hx : FamH F w) (hy : FamH G w) : FamH (fun b => F b ∨ G b) w := fun b hb => by
  rcases hb with hb | hb
  · exact hx b hb
  · exact hy b hb
section
variable {P : Program} {t e t' : TypeId} {x y z : Operand}
theorem is_slArr {n : Nat} (ht : P.underlying t = some (.array n e)) (hs : sizeB P e = some 1) (b o i : Nat) (k : IntKind) (hi : i ≤ n) :
    IsOp P (.slice t x (some y) none none) [ptr b o, .int k (i : Int)] (.slice (some ⟨b, if n = i then o else o + i, none⟩) (n - i) (n - i)) := by
  intro ρ o' ho hv
  rw [ho] at hv
  have hv' : [ρ x, ρ y] = [ptr b o, .int k (i : Int)] := hv
  injection hv' with h1 hv'
  injection hv' with h2 _
  unfold execOp
  rw [ho]
  simp only [Option.map]
  show pureRun P (Sem.bind (Instr.sliceAt t (ρ x) (some (ρ y)) none none) fun v => Sem.pure (Next.value v)) = _
  rw [pureRun_bind, h1, h2]
  have hi' : 0 ≤ (i : Int) ∧ (i : Int) ≤ (n : Int) := by omega
  have e : pureRun P (Instr.sliceAt t (ptr b o) (some (.int k (i : Int))) none none) = some (.slice (some ⟨b, if n = i then o else o + i, none⟩) (n - i) (n - i)) := by
    simp only [Instr.sliceAt, Instr.slice, ptr, Instr.sliceBounds, Instr.sliceBound, nat, pureRun_bind', asIntOf, pureRun, pure, pureRun_underlying ht, hi', and_self, if_true, pureRun_sizeOf hs, Int.toNat_natCast]
    by_cases h : n = i
    · simp [h, Instr.sureAddr, pureRun, pure]
    · simp [h, Instr.sureAddr, pureRun, pure, add_none, Nat.mul_one]
  rw [e]
  rfl
end
section
variable {P : Program} {t ty e : TypeId}
theorem mk_build0 {B : Nat} {z : Value} (ht : P.underlying t = some (.slice e)) (h1 : OneC P e z B) {α : Type} (K : α → Value) (g : Nat → α) :
    SRuns P (buildSem t 0 #[]) [] 1 (fun ns => .slice (some ⟨ns.getD 0 0, 0, none⟩) 0 0) (fun ns => [some ⟨ns.getD 0 0, true, 0, spr (0 + 0) 0 (fun k => K (g k)) z⟩]) := by
  obtain ⟨i, hi, hz, hsz, hB, hzc⟩ := h1
  have h0 : SRuns P (buildSem t 0 #[]) [] 1 (fun ns => .slice (some ⟨ns.getD 0 0, 0, none⟩) 0 0) (fun ns => [some ⟨ns.getD 0 0, true, 0, .lit (#[] : Array Value).toList⟩]) := srun_made (e := e) fun w => by
    refine run_value ?_
    simp [Instr.buildSlice, run_underlying ht, sizeOf, typeInfo, hi, newRow, Instr.fill]
    exact congrArg (fun a => w.alloc (Obj.cells a e)) (Array.eq_empty_of_size_eq_zero (by simp))
  exact h0.recont (C' := fun _ => spr (0 + 0) 0 (fun k => K (g k)) z) (fun _ => rfl) fun ns o v ho => by
    rw [spr, tabF_out (by omega)] at ho; cases ho
end
theorem srun_copyG {P : Program} {dT sT ty e : TypeId} {n k od dl dc bs os sl sc : Nat} {D D' cs : List Value} {S : Cont}
    (hu : P.underlying dT = some (.slice e)) (hs : sizeB P e = some 1) (hcs : ∀ j, j < cs.length → S.get (os + j) = cs[j]?) (hlen : cs.length = min sl dl) (h1 : cs.all Value.oneCell' = true)
    (hst : (Cont.lit D).store (.lit od) cs = some (.lit D')) :
    SRuns P (copySem dT sT ty (.slice (some ⟨n, od, none⟩) dl dc) (.slice (some ⟨k, bs + os, none⟩) sl sc)) [⟨n, true, 0, .lit D⟩, ⟨k, false, bs, S⟩] 0 (fun _ => nat cs.length) (fun _ => [some ⟨n, true, 0, .lit D'⟩, none]) := by
  intro w hm ha
  have hD : Holds ⟨n, true, 0, .lit D⟩ w := hm _ (by simp)
  have hS : Holds ⟨k, false, bs, S⟩ w := hm _ (by simp)
  obtain ⟨g1, g2⟩ := Cont.store_get hst trivial
  have hr := run_copy_cells (P := P) w dT sT ty e n od dl dc ⟨k, bs + os, none⟩ sl sc cs hu (by simpa [sizeB] using hs) (by rw [hlen])
    (fun j v hj => by
      have hjl : j < cs.length := (List.getElem?_eq_some_iff.1 hj).1
      have := hS.cell (os + j) v (by rw [← hj]; exact hcs j hjl)
      rw [show (⟨k, bs + os, none⟩ : Addr).add j = ⟨k, bs + (os + j), none⟩ by rw [← Nat.add_assoc]; exact add_none k (bs + os) j]
      exact this)
    (fun j hj => by
      obtain ⟨u, hu⟩ := g1 j hj
      have := hD.cell _ u hu
      simp only [Cont.off, Nat.zero_add] at this
      rw [this]; rfl)
    (fun j hj => by
      obtain ⟨u, hu⟩ := g1 j hj
      have := hD.free rfl _ u hu
      simpa [Cont.off] using this) (List.all_eq_true.1 h1)
  refine ⟨[], w.setCells n od cs, rfl, .inl ?_, ?_⟩
  · show ((Builtin.copy_ #[dT, sT] ty #[.slice (some ⟨n, od, none⟩) dl dc, .slice (some ⟨k, bs + os, none⟩) sl sc]).bind fun v => Sem.pure (Next.value v)).run P w = _
    have : ∀ (s : Sem Value) (v : Value) (w' : World), s.run P w = .ok v w' → (s.bind fun v => Sem.pure (Next.value v)).run P w = .ok (Next.value v) w' := fun s v w' h => by
      show (s >>= fun v => Sem.pure (Next.value v)).run P w = _
      rw [Sem.run_bind, h]; rfl
    exact this _ _ _ hr
  · have hp := post_store (m := listMem ([⟨n, true, 0, .lit D⟩, ⟨k, false, bs, S⟩].map some)) (w := w) (p := 0) (b := ⟨n, true, 0, .lit D⟩) (l := .lit od) (cs := cs) (c := .lit D')
      (fun p b hb => hm b (List.mem_of_getElem? (listMem_some.1 hb))) ha rfl rfl hst trivial
    rw [show ([⟨n, true, 0, .lit D⟩, ⟨k, false, bs, S⟩].map some : List (Option Blk)) = [some ⟨n, true, 0, .lit D⟩, some ⟨k, false, bs, S⟩] from rfl] at hp ⊢
    rw [listMem_set0] at hp
    have hp2 : Post (listMem [some ⟨n, true, 0, .lit D⟩, some ⟨k, false, bs, S⟩]) w (listMem [some ⟨n, true, 0, .lit D'⟩, some ⟨k, false, bs, S⟩]) (w.setCells n od cs) := by simpa [Cont.off] using hp
    have hsub : ∀ p b, listMem [some (⟨n, true, 0, .lit D'⟩ : Blk), none] p = some b → listMem [some ⟨n, true, 0, .lit D'⟩, some ⟨k, false, bs, S⟩] p = some b := fun p b hpb => by
      rcases p with _ | _ | p
      · exact hpb
      · cases hpb
      · simp [listMem] at hpb
    exact ⟨fun p b hpb => hp2.holds p b (hsub p b hpb), fun p q b c hpq hb hc => hp2.apart p q b c hpq (hsub p b hb) (hsub q c hc), hp2.adv.weak hsub⟩
end Go.Eng
namespace Go.Eng
theorem mk_appendA {P : Program} {t ty e : TypeId} {B : Nat} {z : Value} (ht : P.underlying t = some (.slice e)) (h1 : OneC P e z B) (b len r k bo os n cc : Nat) {α : Type} (K : α → Value) (g h : Nat → α) (S : Cont) (hS : ∀ j, j < n → S.get (os + j) = some (K (h j)))
    (hK : ∀ a, (K a).oneCell' = true) (hb : (len + n) * B ≤ 140737488355328 ∧ len + n ≤ 9223372036854775807) {A : Option Addr} (hA : A = some ⟨k, bo + os, none⟩) :
    SRuns P (appendSem t ty (.slice (some ⟨b, 0, none⟩) len (len + r)) (.slice A n cc)) [⟨b, true, 0, spr (len + r) len (fun k => K (g k)) z⟩, ⟨k, false, bo, S⟩] 2
      (fun ns => .slice (some ⟨ns.getD 0 0, 0, none⟩) (len + n) (len + n + ns.getD 1 0))
      (fun ns => [some ⟨ns.getD 0 0, true, 0, spr (len + n + ns.getD 1 0) (len + n) (fun k => K (catU g len h k)) z⟩, some ⟨k, false, bo, S⟩]) := by
  subst hA; exact mk_append ht h1 b len r k bo os n cc K g h S hS hK hb
def oct (a b c d e f g h : UInt8) : Nat → UInt8
  | 0 => a
  | 1 => b
  | 2 => c
  | 3 => d
  | 4 => e
  | 5 => f
  | 6 => g
  | _ => h
theorem cat8 (f : Nat → UInt8) (z : Nat) (a b c d e g h i : UInt8) (k : Nat) (hk : k < z + 8) :
    catU (catU (catU (catU (catU (catU (catU (catU f z (fun _ => a)) (z + 1) (fun _ => b)) (z + 1 + 1) (fun _ => c)) (z + 1 + 1 + 1) (fun _ => d)) (z + 1 + 1 + 1 + 1) (fun _ => e)) (z + 1 + 1 + 1 + 1 + 1) (fun _ => g)) (z + 1 + 1 + 1 + 1 + 1 + 1) (fun _ => h)) (z + 1 + 1 + 1 + 1 + 1 + 1 + 1) (fun _ => i) k =
      if k < z then f k else oct a b c d e g h i (k - z) := by
  by_cases h1 : k < z
  · simp only [catU]
    rw [if_pos (by omega), if_pos (by omega), if_pos (by omega), if_pos (by omega), if_pos (by omega), if_pos (by omega), if_pos (by omega), if_pos h1, if_pos h1]
  · obtain ⟨j, rfl⟩ : ∃ j, k = z + j := ⟨k - z, by omega⟩
    rw [if_neg h1, Nat.add_sub_cancel_left]
    rcases j with _ | _ | _ | _ | _ | _ | _ | _ | j
    · simp only [catU]; rw [if_pos (by omega), if_pos (by omega), if_pos (by omega), if_pos (by omega), if_pos (by omega), if_pos (by omega), if_pos (by omega), if_neg (by omega)]; rfl
    · simp only [catU]; rw [if_pos (by omega), if_pos (by omega), if_pos (by omega), if_pos (by omega), if_pos (by omega), if_pos (by omega), if_neg (by omega)]; rfl
    · simp only [catU]; rw [if_pos (by omega), if_pos (by omega), if_pos (by omega), if_pos (by omega), if_pos (by omega), if_neg (by omega)]; rfl
    · simp only [catU]; rw [if_pos (by omega), if_pos (by omega), if_pos (by omega), if_pos (by omega), if_neg (by omega)]; rfl
    · simp only [catU]; rw [if_pos (by omega), if_pos (by omega), if_pos (by omega), if_neg (by omega)]; rfl
    · simp only [catU]; rw [if_pos (by omega), if_pos (by omega), if_neg (by omega)]; rfl
    · simp only [catU]; rw [if_pos (by omega), if_neg (by omega)]; rfl
    · simp only [catU]; rw [if_neg (by omega)]; rfl
    · omega
end Go.Eng
namespace Go.Eng
theorem listMem_left {a b : List (Option Blk)} {p : Nat} (hp : p < a.length) : listMem (a ++ b) p = listMem a p := by
  unfold listMem; rw [List.getElem?_append_left hp]
end Go.Eng
namespace Go.Eng
theorem holds_sprB {nm n r : Nat} {f : Nat → UInt8} {w : World} (h : Holds ⟨nm, false, 0, spr (n + r) n (fun k => u8 (f k)) (u8 0)⟩ w) : Holds ⟨nm, false, 0, tabF n fun k => u8 (f k)⟩ w :=
  h.recont rfl fun j v hj => by
    by_cases hl : j < n
    · rw [tabF_in hl] at hj
      show (spr (n + r) n (fun k => u8 (f k)) (u8 0)).get j = _
      rw [spr, tabF_in (by omega), if_pos hl]; exact hj
    · rw [tabF_out hl] at hj; cases hj
theorem Runs.fam {F : Blk → Prop} {P : Program} {f : FuncId} {args : List Value} {B : Blk} {v : Value} {o : List (Option Blk)} (h : Runs P f args [B] 0 (fun _ => v) (fun _ => o)) (hB : F B) : RunsF F P f args [] 0 (fun _ => v) (fun _ => []) := by
  intro w hm ha hF
  obtain ⟨h1, h2, _⟩ := hF B hB
  have hno : ∀ k, ¬ Owns (listMem ([B].map some)) k := fun k ⟨p, b, hp, ho, _⟩ => by
    rcases p with _ | p
    · cases hp; rw [h2] at ho; cases ho
    · simp [listMem] at hp
  refine Calls.mono (h w (fun b hb => by simp at hb; subst hb; exact h1) (fun p q b c _ hb _ ho => by
    rcases p with _ | p
    · cases hb; rw [h2] at ho; cases ho
    · simp [listMem] at hb)) ?_
  rintro e w' ⟨ns, hns, he, hp⟩
  have hnil : ∀ p b, listMem ([] : List (Option Blk)) p ≠ some b := fun p b => by simp [listMem]
  exact ⟨ns, hns, he, ⟨fun p b hpb => absurd hpb (hnil p b), fun p q b c _ hpb => absurd hpb (hnil p b), ⟨hp.adv.os, hp.adv.output, hp.adv.tape, hp.adv.size, fun k hk _ => hp.adv.heap k hk (hno k), fun k ⟨p, b, hpb, _⟩ => absurd hpb (hnil p b), fun p b hpb => absurd hpb (hnil p b)⟩⟩⟩
section
variable {P : Program} {t e t' : TypeId} {x y z : Operand}
end
section
variable {P : Program} {t t' : TypeId} {x y : Operand} (a b : UInt8)
end
end Go.Eng
namespace Go.Eng
end Go.Eng
namespace Go.Eng
end Go.Eng
namespace Go.Eng
section
variable {P : Program} {t t' : TypeId} {x y : Operand}
end
end Go.Eng
namespace Go.Eng
theorem map_get {α : Type} (K : α → Value) (g : Nat → α) (n k : Nat) (h : k < n) : ((List.range n).map fun j => K (g j))[k]? = some (K (g k)) := by
  rw [List.getElem?_map, List.getElem?_range h]; rfl
def bytsOf (l : List UInt8) (k : Nat) : UInt8 := l.getD k 0
theorem is_minN {P : Program} {x y : Operand} {ts : Array TypeId} (a b : Nat) : IsOp P (.call { callee := .builtin .min, args := #[x, y], argTypes := ts }) [nat a, nat b] (nat (min a b)) := by
  intro ρ o ho hv
  rw [ho] at hv
  have hv' : ρ x = nat a ∧ ρ y = nat b := by simpa [Op.operands, Call.operands] using hv
  unfold execOp
  rw [ho]
  show pureRun P ((Builtin.min_ ts o.type (#[x, y].map ρ)) >>= fun v => (pure (Next.value v) : Sem Next)) = _
  have e1 : (#[x, y].map ρ : Array Value) = #[nat a, nat b] := by simp [hv'.1, hv'.2]
  have e2 : pureRun P (Builtin.min_ ts o.type #[nat a, nat b]) = some (nat (min a b)) := by
    show some (Value.int .i64 (if ((b : Int) < (a : Int)) then (b : Int) else (a : Int))) = _
    unfold nat
    congr 2
    split <;> omega
  rw [e1, pureRun_bind', e2]
  rfl
end Go.Eng
namespace Go.Eng
theorem RunsF.drop {F : Blk → Prop} {P : Program} {f : FuncId} {args : List Value} {bs : List Blk} {k : Nat} {v : List Nat → Value} {o nw : List Nat → List (Option Blk)} (h : RunsF F P f args bs k v (fun ns => o ns ++ nw ns)) : RunsF F P f args bs k v o := fun w hb ha hF =>
  Calls.mono (h w hb ha hF) fun e w' ⟨ns, h1, h2, hp⟩ => by
    have hs : ∀ p b, listMem (o ns) p = some b → listMem (o ns ++ nw ns) p = some b := fun p b h => by
      have hl : p < (o ns).length := (List.getElem?_eq_some_iff.1 (show (o ns)[p]? = some (some b) by
        unfold listMem at h
        cases h3 : (o ns)[p]? with
        | none => rw [h3] at h; cases h
        | some x => rw [h3] at h; simp at h; rw [h])).1
      rw [listMem_left hl]; exact h
    exact ⟨ns, h1, h2, ⟨fun p b h => hp.holds p b (hs p b h), fun p q b c hpq hb hc => hp.apart p q b c hpq (hs p b hb) (hs q c hc), hp.adv.weak hs⟩⟩
end Go.Eng
end
section
namespace Go.Eng
section words32
variable {P : Program} {t t' : TypeId} {x y : Operand} (a b : UInt32)
theorem is_add32 : IsOp P (.binOp .add t x y t') [u32 a, u32 b] (u32 (a + b)) := isOp_bin guard_int (by
  show some (Value.int .u32 (IntKind.u32.wrap ((a.toNat : Int) + b.toNat))) = _
  rw [wrap_u32, u32, UInt32.toNat_add]; congr 2)
theorem is_sub32 : IsOp P (.binOp .sub t x y t') [u32 a, u32 b] (u32 (a - b)) := isOp_bin guard_int (by
  show some (Value.int .u32 (IntKind.u32.wrap ((a.toNat : Int) - b.toNat))) = _
  rw [wrap_u32, u32, UInt32.toNat_sub]; congr 2
  have := a.toNat_lt; have := b.toNat_lt; omega)
theorem is_mul32 : IsOp P (.binOp .mul t x y t') [u32 a, u32 b] (u32 (a * b)) := isOp_bin guard_int (by
  show some (Value.int .u32 (IntKind.u32.wrap ((a.toNat : Int) * b.toNat))) = _
  rw [wrap_u32, u32, UInt32.toNat_mul]; congr 2)
theorem ofInt32 (a : UInt32) : BitVec.ofInt 32 (a.toNat : Int) = a.toBitVec := by
  apply BitVec.eq_of_toNat_eq
  simp
theorem is_and32 : IsOp P (.binOp .and t x y t') [u32 a, u32 b] (u32 (a &&& b)) := isOp_bin guard_int (by
  show some (Value.int .u32 (IntKind.u32.wrap (((BitVec.ofInt 32 (a.toNat : Int)) &&& (BitVec.ofInt 32 (b.toNat : Int))).toNat))) = _
  rw [wrap_u32, ofInt32, ofInt32, u32]; congr 2
  have := (a &&& b).toNat_lt
  have h : (a.toBitVec &&& b.toBitVec).toNat = (a &&& b).toNat := rfl
  rw [h]; omega)
theorem is_or32 : IsOp P (.binOp .or t x y t') [u32 a, u32 b] (u32 (a ||| b)) := isOp_bin guard_int (by
  show some (Value.int .u32 (IntKind.u32.wrap (((BitVec.ofInt 32 (a.toNat : Int)) ||| (BitVec.ofInt 32 (b.toNat : Int))).toNat))) = _
  rw [wrap_u32, ofInt32, ofInt32, u32]; congr 2
  have := (a ||| b).toNat_lt
  have h : (a.toBitVec ||| b.toBitVec).toNat = (a ||| b).toNat := rfl
  rw [h]; omega)
theorem is_xor32 : IsOp P (.binOp .xor t x y t') [u32 a, u32 b] (u32 (a ^^^ b)) := isOp_bin guard_int (by
  show some (Value.int .u32 (IntKind.u32.wrap (((BitVec.ofInt 32 (a.toNat : Int)) ^^^ (BitVec.ofInt 32 (b.toNat : Int))).toNat))) = _
  rw [wrap_u32, ofInt32, ofInt32, u32]; congr 2
  have := (a ^^^ b).toNat_lt
  have h : (a.toBitVec ^^^ b.toBitVec).toNat = (a ^^^ b).toNat := rfl
  rw [h]; omega)
def shl32 (a : UInt32) (n : Nat) : UInt32 := .ofNat (a.toNat * 2 ^ n)
def shr32 (a : UInt32) (n : Nat) : UInt32 := .ofNat (a.toNat / 2 ^ n)
theorem shl32_toNat (n : Nat) : (shl32 a n).toNat = a.toNat * 2 ^ n % 4294967296 := by
  simp [shl32, UInt32.toNat_ofNat']
theorem shr32_toNat (n : Nat) : (shr32 a n).toNat = a.toNat / 2 ^ n := by
  have h : a.toNat / 2 ^ n < 4294967296 := Nat.lt_of_le_of_lt (Nat.div_le_self _ _) a.toNat_lt
  simp [shr32, UInt32.toNat_ofNat', Nat.mod_eq_of_lt h]
theorem is_shl32 (k : IntKind) (n : Nat) : IsOp P (.binOp .shl t x y t') [u32 a, .int k (n : Int)] (u32 (shl32 a n)) := isOp_bin guard_int (by
  show pureRun P (Op.shift .shl .u32 (a.toNat : Int) k (n : Int)) = _
  unfold Op.shift
  rw [if_neg (by omega)]
  show some (Value.int .u32 (IntKind.u32.wrap ((a.toNat : Int) * 2 ^ min (n : Int).toNat 32))) = _
  rw [wrap_u32, u32, shl32_toNat]
  congr 2
  rw [Int.toNat_natCast]
  by_cases h : n ≤ 32
  · rw [Nat.min_eq_left h]; rw [Int.natCast_emod, Int.natCast_mul, Int.natCast_pow]; rfl
  · rw [Nat.min_eq_right (by omega)]
    have e : n = 32 + (n - 32) := by omega
    have h1 : a.toNat * 2 ^ n % 4294967296 = 0 := by
      rw [e, Nat.pow_add, Nat.mul_comm (2 ^ 32), ← Nat.mul_assoc]
      exact Nat.mul_mod_left _ _
    rw [h1]
    have h2 : ((a.toNat : Int) * 2 ^ 32) % 4294967296 = 0 := Int.mul_emod_left _ _
    exact h2)
theorem is_shr32 (k : IntKind) (n : Nat) : IsOp P (.binOp .shr t x y t') [u32 a, .int k (n : Int)] (u32 (shr32 a n)) := isOp_bin guard_int (by
  show pureRun P (Op.shift .shr .u32 (a.toNat : Int) k (n : Int)) = _
  unfold Op.shift
  rw [if_neg (by omega)]
  show some (Value.int .u32 (Int.fdiv (a.toNat : Int) (2 ^ min (n : Int).toNat 32))) = _
  rw [u32, shr32_toNat]
  congr 2
  rw [Int.toNat_natCast]
  have key : ∀ m : Nat, Int.fdiv (a.toNat : Int) (2 ^ m) = ((a.toNat / 2 ^ m : Nat) : Int) := fun m => by
    rw [Int.fdiv_eq_ediv_of_nonneg _ (Int.pow_nonneg (by omega))]
    push_cast; rfl
  rw [key]
  congr 1
  by_cases h : n ≤ 32
  · rw [Nat.min_eq_left h]
  · rw [Nat.min_eq_right (by omega)]
    have hlt := a.toNat_lt
    rw [Nat.div_eq_of_lt hlt, Nat.div_eq_of_lt]
    exact Nat.lt_of_lt_of_le hlt (Nat.pow_le_pow_right (by omega) (by omega)))
theorem is_quo32 (hb : b.toNat ≠ 0) : IsOp P (.binOp .quo t x y t') [u32 a, u32 b] (u32 (a / b)) := isOp_bin guard_int (by
  show pureRun P (Op.intDiv .quo .u32 (a.toNat : Int) (b.toNat : Int)) = _
  unfold Op.intDiv
  rw [if_neg (by omega)]
  show some (Value.int .u32 (IntKind.u32.wrap (Int.tdiv (a.toNat : Int) b.toNat))) = _
  rw [wrap_u32, u32, UInt32.toNat_div]; congr 2
  rw [Int.tdiv_eq_ediv_of_nonneg (by omega), ← Int.natCast_ediv]
  have h3 : a.toNat / b.toNat < 4294967296 := Nat.lt_of_le_of_lt (Nat.div_le_self _ _) a.toNat_lt
  rw [show (4294967296 : Int) = ((4294967296 : Nat) : Int) from rfl, ← Int.natCast_emod, Nat.mod_eq_of_lt h3])
theorem is_not32 : IsOp P (.unOp .xor t x) [u32 a] (u32 (~~~a)) := isOp_un (by
  show some (Value.int .u32 (IntKind.u32.wrap (((BitVec.ofInt 32 (4294967295 : Int)) ^^^ (BitVec.ofInt 32 (a.toNat : Int))).toNat))) = _
  rw [wrap_u32, ofInt32, u32]; congr 2
  have h1 : (BitVec.ofInt 32 4294967295 ^^^ a.toBitVec) = (~~~a).toBitVec := by
    show _ = ~~~a.toBitVec
    rw [← BitVec.allOnes_xor]; rfl
  rw [h1]
  have := (~~~a).toNat_lt
  have h : ((~~~a).toBitVec).toNat = (~~~a).toNat := rfl
  rw [h]; omega)
end words32
section
variable {P : Program} {s d : TypeId} {x : Operand}
theorem conv_u8_u32 (hs : P.underlying s = some (.int .u8)) (hd : P.underlying d = some (.int .u32)) (a : UInt8) : IsOp P (.convert s d x) [u8 a] (u32 a.toUInt32) := by
  have h := conv_int (x := x) hs hd a.toNat
  rw [wrap_u32] at h
  have : ((a.toNat : Int) % 4294967296) = (a.toUInt32.toNat : Int) := by have := a.toNat_lt; simp; omega
  rw [this] at h; exact h
theorem conv_u32_u8 (hs : P.underlying s = some (.int .u32)) (hd : P.underlying d = some (.int .u8)) (a : UInt32) : IsOp P (.convert s d x) [u32 a] (u8 a.toUInt8) := by
  have h := conv_int (x := x) hs hd a.toNat
  rw [wrap_u8] at h
  have : ((a.toNat : Int) % 256) = (a.toUInt8.toNat : Int) := by simp
  rw [this] at h; exact h
end
end Go.Eng
namespace Go.Eng
def rot (x : UInt32) (n : Nat) : UInt32 := shl32 x (32 - n) ||| shr32 x n
structure W8 where
  a : UInt32
  b : UInt32
  c : UInt32
  d : UInt32
  e : UInt32
  f : UInt32
  g : UInt32
  h : UInt32
def w8V (s : W8) : Value := .agg #[u32 s.a, u32 s.b, u32 s.c, u32 s.d, u32 s.e, u32 s.f, u32 s.g, u32 s.h]
def rndX (s : W8) (add : UInt32) : UInt32 := s.h + (rot s.e 6 ^^^ rot s.e 11 ^^^ rot s.e 25) + (s.e &&& s.f ^^^ ~~~s.e &&& s.g) + add
def rndY (s : W8) : UInt32 := (rot s.a 2 ^^^ rot s.a 13 ^^^ rot s.a 22) + (s.a &&& s.b ^^^ s.a &&& s.c ^^^ s.b &&& s.c)
def rndS (s : W8) (add : UInt32) : W8 := ⟨rndX s add + rndY s, s.a, s.b, s.c, s.d + rndX s add, s.e, s.f, s.g⟩
end Go.Eng
namespace Go.Eng
section
variable {P : Program} {t e : TypeId} {x y : Operand}
theorem is_ixVec {len : Nat} (ht : P.underlying t = some (.array len e)) (hs : sizeB P e = some 1) (he : ∃ k, P.underlying e = some (.int k)) (g : Nat → Value) (i : Nat) (hi : i < len) :
    IsOp P (.index t x y) [vecV len g, nat i] (g i) := by
  intro ρ o ho hv
  rw [ho] at hv
  simp only [Op.operands, List.map_cons, List.map_nil, List.cons.injEq, and_true] at hv
  obtain ⟨h1, h2⟩ := hv
  obtain ⟨k, he⟩ := he
  unfold execOp
  rw [ho]
  simp only
  show pureRun P (Sem.bind (Instr.index t (ρ x) (ρ y)) fun v => Sem.pure (Next.value v)) = _
  rw [pureRun_bind, h1, h2]
  have hi' : (0 : Int) ≤ (i : Int) ∧ (i : Int) < (len : Int) := by omega
  have hg : (((List.range len).map g).toArray)[i]? = some (g i) := by
    simp [hi]
  have e' : pureRun P (Instr.index t (vecV len g) (nat i)) = some (g i) := by
    simp only [Instr.index, vecV, nat, pureRun_bind', asIntOf, pureRun, pure, pureRun_underlying ht, hi', and_self, if_true, pureRun_sizeOf hs, Int.toNat_natCast, Nat.mul_one, part, isAgg, pureRun_underlying he, hg]
    first | rfl | simp [hg, pureRun]
  rw [e']
  rfl
end
end Go.Eng
namespace Go.Eng
def sp1 (b : Nat → UInt8) : Nat → (Nat → UInt32)
  | 0 => fun _ => 0
  | i + 1 => upd (sp1 b i) (i / 4) (shl32 (sp1 b i (i / 4)) 8 ||| (b i).toUInt32)
def sg0 (x : UInt32) : UInt32 := rot x 7 ^^^ rot x 18 ^^^ shr32 x 3
def sg1 (x : UInt32) : UInt32 := rot x 17 ^^^ rot x 19 ^^^ shr32 x 10
def sp2 (b : Nat → UInt8) : Nat → (Nat → UInt32)
  | 0 => sp1 b 64
  | j + 1 => upd (sp2 b j) (j + 16) (sp2 b j (j + 16 - 16) + sp2 b j (j + 16 - 7) + sg0 (sp2 b j (j + 16 - 15)) + sg1 (sp2 b j (j + 16 - 2)))
def sprW (b : Nat → UInt8) : Nat → UInt32 := sp2 b 48
theorem sp_step {b : Nat → UInt8} {j : Nat} {v : Nat → UInt32} (h : 16 ≤ j) (hv : v = sp2 b (j - 16)) :
    upd v j (v (j - 16) + v (j - 7) + (rot (v (j - 15)) 7 ^^^ rot (v (j - 15)) 18 ^^^ shr32 (v (j - 15)) 3) + (rot (v (j - 2)) 17 ^^^ rot (v (j - 2)) 19 ^^^ shr32 (v (j - 2)) 10)) = sp2 b (j + 1 - 16) := by
  subst hv
  obtain ⟨k, rfl⟩ : ∃ k, j = k + 16 := ⟨j - 16, by omega⟩
  rw [show k + 16 + 1 - 16 = k + 1 by omega, show k + 16 - 16 = k by omega, sp2, show k + 16 - 16 = k by omega]
  rfl
end Go.Eng
namespace Go.Eng
def W8.get (s : W8) : Nat → UInt32
  | 0 => s.a
  | 1 => s.b
  | 2 => s.c
  | 3 => s.d
  | 4 => s.e
  | 5 => s.f
  | 6 => s.g
  | _ => s.h
def w8F (s : Nat → UInt32) : W8 := ⟨s 0, s 1, s 2, s 3, s 4, s 5, s 6, s 7⟩
def rndF (s : Nat → UInt32) (add : UInt32) : Nat → UInt32 := (rndS (w8F s) add).get
def rndK : List Nat := [1116352408, 1899447441, 3049323471, 3921009573, 961987163, 1508970993, 2453635748, 2870763221, 3624381080, 310598401, 607225278, 1426881987, 1925078388, 2162078206, 2614888103, 3248222580, 3835390401, 4022224774, 264347078, 604807628, 770255983, 1249150122, 1555081692, 1996064986, 2554220882, 2821834349, 2952996808, 3210313671, 3336571891, 3584528711, 113926993, 338241895, 666307205, 773529912, 1294757372, 1396182291, 1695183700, 1986661051, 2177026350, 2456956037, 2730485921, 2820302411, 3259730800, 3345764771, 3516065817, 3600352804, 4094571909, 275423344, 430227734, 506948616, 659060556, 883997877, 958139571, 1322822218, 1537002063, 1747873779, 1955562222, 2024104815, 2227730452, 2361852424, 2428436474, 2756734187, 3204031479, 3329325298]
def rndW (i : Nat) : UInt32 := .ofNat (rndK.getD i 0)
def mixR (s w : Nat → UInt32) : Nat → (Nat → UInt32)
  | 0 => s
  | i + 1 => rndF (mixR s w i) (rndW i + w i)
def addR (s t : Nat → UInt32) : Nat → (Nat → UInt32)
  | 0 => t
  | i + 1 => upd (addR s t i) i (addR s t i i + s i)
def mixS (s : Nat → UInt32) (b : Nat → UInt8) : Nat → UInt32 := addR s (mixR s (sprW b) 64) 8
def begK : List Nat := [1779033703, 3144134277, 1013904242, 2773480762, 1359893119, 2600822924, 528734635, 1541459225]
def begW (i : Nat) : UInt32 := .ofNat (begK.getD i 0)
def begB : Blk := ⟨0, false, 0, litF 8 fun k => u32 (begW k)⟩
def rndB : Blk := ⟨1, false, 0, tabF 64 fun k => u32 (rndW k)⟩
def famT (b : Blk) : Prop := b = begB ∨ b = rndB
end Go.Eng
namespace Go.Eng
theorem rot_sum {x : UInt32} {n : Nat} (h : n ≤ 32) : shr32 x n + shl32 x (32 - n) = rot x n := UInt32.toNat_inj.1 (by
  have hx := x.toNat_lt
  have h1 : x.toNat * 2 ^ (32 - n) % 4294967296 = 2 ^ (32 - n) * (x.toNat % 2 ^ n) := by
    rw [show (4294967296 : Nat) = 2 ^ (32 - n) * 2 ^ n by rw [← Nat.pow_add, show 32 - n + n = 32 by omega], Nat.mul_comm, Nat.mul_mod_mul_left]
  have h2 : x.toNat / 2 ^ n < 2 ^ (32 - n) := by
    refine Nat.div_lt_of_lt_mul ?_
    rw [← Nat.pow_add, show n + (32 - n) = 32 by omega]; exact hx
  have h3 := Nat.two_pow_add_eq_or_of_lt h2 (x.toNat % 2 ^ n)
  unfold rot
  rw [UInt32.toNat_or, UInt32.toNat_add, shr32_toNat, shl32_toNat, h1, ← h3, Nat.add_comm (x.toNat / 2 ^ n)]
  refine Nat.mod_eq_of_lt ?_
  have h4 : x.toNat % 2 ^ n < 2 ^ n := Nat.mod_lt _ (Nat.two_pow_pos n)
  have h5 : 2 ^ (32 - n) * (x.toNat % 2 ^ n + 1) ≤ 2 ^ (32 - n) * 2 ^ n := Nat.mul_le_mul_left _ h4
  rw [← Nat.pow_add, show 32 - n + n = 32 by omega, Nat.mul_add, Nat.mul_one] at h5
  have h6 : (2 : Nat) ^ 32 = 4294967296 := rfl
  omega)
end Go.Eng
end
section
namespace Go.Proofs.YtnkokocpchedkaaDoor
open Go Go.Eng
theorem rotl_2 (x : UInt32) : Pure Tryd.prog 67 [(u32 x), (int (-2))] (u32 (rot x 2)) :=
  pure_of_ev mix Tryd.func67 rfl rfl 400 (.reg [(0, .g)] (.reg [(0, .g), (1, .g), (2, .g), (3, .g)] (.reg [(0, .g), (1, .g), (2, (.as (u32 (shl32 x 30)))), (3, .g), (4, .g), (5, .g), (6, (.as (u32 (shr32 x 2)))), (7, (.as (u32 ((shl32 x 30) ||| (shr32 x 2))))), (8, .g)] .done))) []
    (Eq.mp (by kernel_rfl) (aI (sk tV) (aI (sk (sk (sk (sk tV)))) (aI (sk (sk (aI (aT (@is_shl32 Tryd.prog 51 122 (.tmp 9) (.tmp 10) x .u64 30)) (sk (sk (sk (aI (aT (@is_shr32 Tryd.prog 51 122 (.tmp 12) (.tmp 14) x .u64 2)) (aI (aT (@is_or32 Tryd.prog 51 51 (.tmp 11) (.tmp 15) (shl32 x 30) (shr32 x 2))) (sk tV))))))))) (aT (@rfl Value (u32 (rot x 2))))))))
theorem rotl_6 (x : UInt32) : Pure Tryd.prog 67 [(u32 x), (int (-6))] (u32 (rot x 6)) :=
  pure_of_ev mix Tryd.func67 rfl rfl 400 (.reg [(0, .g)] (.reg [(0, .g), (1, .g), (2, .g), (3, .g)] (.reg [(0, .g), (1, .g), (2, (.as (u32 (shl32 x 26)))), (3, .g), (4, .g), (5, .g), (6, (.as (u32 (shr32 x 6)))), (7, (.as (u32 ((shl32 x 26) ||| (shr32 x 6))))), (8, .g)] .done))) []
    (Eq.mp (by kernel_rfl) (aI (sk tV) (aI (sk (sk (sk (sk tV)))) (aI (sk (sk (aI (aT (@is_shl32 Tryd.prog 51 122 (.tmp 9) (.tmp 10) x .u64 26)) (sk (sk (sk (aI (aT (@is_shr32 Tryd.prog 51 122 (.tmp 12) (.tmp 14) x .u64 6)) (aI (aT (@is_or32 Tryd.prog 51 51 (.tmp 11) (.tmp 15) (shl32 x 26) (shr32 x 6))) (sk tV))))))))) (aT (@rfl Value (u32 (rot x 6))))))))
theorem rotl_7 (x : UInt32) : Pure Tryd.prog 67 [(u32 x), (int (-7))] (u32 (rot x 7)) :=
  pure_of_ev mix Tryd.func67 rfl rfl 400 (.reg [(0, .g)] (.reg [(0, .g), (1, .g), (2, .g), (3, .g)] (.reg [(0, .g), (1, .g), (2, (.as (u32 (shl32 x 25)))), (3, .g), (4, .g), (5, .g), (6, (.as (u32 (shr32 x 7)))), (7, (.as (u32 ((shl32 x 25) ||| (shr32 x 7))))), (8, .g)] .done))) []
    (Eq.mp (by kernel_rfl) (aI (sk tV) (aI (sk (sk (sk (sk tV)))) (aI (sk (sk (aI (aT (@is_shl32 Tryd.prog 51 122 (.tmp 9) (.tmp 10) x .u64 25)) (sk (sk (sk (aI (aT (@is_shr32 Tryd.prog 51 122 (.tmp 12) (.tmp 14) x .u64 7)) (aI (aT (@is_or32 Tryd.prog 51 51 (.tmp 11) (.tmp 15) (shl32 x 25) (shr32 x 7))) (sk tV))))))))) (aT (@rfl Value (u32 (rot x 7))))))))
theorem rotl_11 (x : UInt32) : Pure Tryd.prog 67 [(u32 x), (int (-11))] (u32 (rot x 11)) :=
  pure_of_ev mix Tryd.func67 rfl rfl 400 (.reg [(0, .g)] (.reg [(0, .g), (1, .g), (2, .g), (3, .g)] (.reg [(0, .g), (1, .g), (2, (.as (u32 (shl32 x 21)))), (3, .g), (4, .g), (5, .g), (6, (.as (u32 (shr32 x 11)))), (7, (.as (u32 ((shl32 x 21) ||| (shr32 x 11))))), (8, .g)] .done))) []
    (Eq.mp (by kernel_rfl) (aI (sk tV) (aI (sk (sk (sk (sk tV)))) (aI (sk (sk (aI (aT (@is_shl32 Tryd.prog 51 122 (.tmp 9) (.tmp 10) x .u64 21)) (sk (sk (sk (aI (aT (@is_shr32 Tryd.prog 51 122 (.tmp 12) (.tmp 14) x .u64 11)) (aI (aT (@is_or32 Tryd.prog 51 51 (.tmp 11) (.tmp 15) (shl32 x 21) (shr32 x 11))) (sk tV))))))))) (aT (@rfl Value (u32 (rot x 11))))))))
theorem rotl_13 (x : UInt32) : Pure Tryd.prog 67 [(u32 x), (int (-13))] (u32 (rot x 13)) :=
  pure_of_ev mix Tryd.func67 rfl rfl 400 (.reg [(0, .g)] (.reg [(0, .g), (1, .g), (2, .g), (3, .g)] (.reg [(0, .g), (1, .g), (2, (.as (u32 (shl32 x 19)))), (3, .g), (4, .g), (5, .g), (6, (.as (u32 (shr32 x 13)))), (7, (.as (u32 ((shl32 x 19) ||| (shr32 x 13))))), (8, .g)] .done))) []
    (Eq.mp (by kernel_rfl) (aI (sk tV) (aI (sk (sk (sk (sk tV)))) (aI (sk (sk (aI (aT (@is_shl32 Tryd.prog 51 122 (.tmp 9) (.tmp 10) x .u64 19)) (sk (sk (sk (aI (aT (@is_shr32 Tryd.prog 51 122 (.tmp 12) (.tmp 14) x .u64 13)) (aI (aT (@is_or32 Tryd.prog 51 51 (.tmp 11) (.tmp 15) (shl32 x 19) (shr32 x 13))) (sk tV))))))))) (aT (@rfl Value (u32 (rot x 13))))))))
theorem rotl_17 (x : UInt32) : Pure Tryd.prog 67 [(u32 x), (int (-17))] (u32 (rot x 17)) :=
  pure_of_ev mix Tryd.func67 rfl rfl 400 (.reg [(0, .g)] (.reg [(0, .g), (1, .g), (2, .g), (3, .g)] (.reg [(0, .g), (1, .g), (2, (.as (u32 (shl32 x 15)))), (3, .g), (4, .g), (5, .g), (6, (.as (u32 (shr32 x 17)))), (7, (.as (u32 ((shl32 x 15) ||| (shr32 x 17))))), (8, .g)] .done))) []
    (Eq.mp (by kernel_rfl) (aI (sk tV) (aI (sk (sk (sk (sk tV)))) (aI (sk (sk (aI (aT (@is_shl32 Tryd.prog 51 122 (.tmp 9) (.tmp 10) x .u64 15)) (sk (sk (sk (aI (aT (@is_shr32 Tryd.prog 51 122 (.tmp 12) (.tmp 14) x .u64 17)) (aI (aT (@is_or32 Tryd.prog 51 51 (.tmp 11) (.tmp 15) (shl32 x 15) (shr32 x 17))) (sk tV))))))))) (aT (@rfl Value (u32 (rot x 17))))))))
theorem rotl_18 (x : UInt32) : Pure Tryd.prog 67 [(u32 x), (int (-18))] (u32 (rot x 18)) :=
  pure_of_ev mix Tryd.func67 rfl rfl 400 (.reg [(0, .g)] (.reg [(0, .g), (1, .g), (2, .g), (3, .g)] (.reg [(0, .g), (1, .g), (2, (.as (u32 (shl32 x 14)))), (3, .g), (4, .g), (5, .g), (6, (.as (u32 (shr32 x 18)))), (7, (.as (u32 ((shl32 x 14) ||| (shr32 x 18))))), (8, .g)] .done))) []
    (Eq.mp (by kernel_rfl) (aI (sk tV) (aI (sk (sk (sk (sk tV)))) (aI (sk (sk (aI (aT (@is_shl32 Tryd.prog 51 122 (.tmp 9) (.tmp 10) x .u64 14)) (sk (sk (sk (aI (aT (@is_shr32 Tryd.prog 51 122 (.tmp 12) (.tmp 14) x .u64 18)) (aI (aT (@is_or32 Tryd.prog 51 51 (.tmp 11) (.tmp 15) (shl32 x 14) (shr32 x 18))) (sk tV))))))))) (aT (@rfl Value (u32 (rot x 18))))))))
theorem rotl_19 (x : UInt32) : Pure Tryd.prog 67 [(u32 x), (int (-19))] (u32 (rot x 19)) :=
  pure_of_ev mix Tryd.func67 rfl rfl 400 (.reg [(0, .g)] (.reg [(0, .g), (1, .g), (2, .g), (3, .g)] (.reg [(0, .g), (1, .g), (2, (.as (u32 (shl32 x 13)))), (3, .g), (4, .g), (5, .g), (6, (.as (u32 (shr32 x 19)))), (7, (.as (u32 ((shl32 x 13) ||| (shr32 x 19))))), (8, .g)] .done))) []
    (Eq.mp (by kernel_rfl) (aI (sk tV) (aI (sk (sk (sk (sk tV)))) (aI (sk (sk (aI (aT (@is_shl32 Tryd.prog 51 122 (.tmp 9) (.tmp 10) x .u64 13)) (sk (sk (sk (aI (aT (@is_shr32 Tryd.prog 51 122 (.tmp 12) (.tmp 14) x .u64 19)) (aI (aT (@is_or32 Tryd.prog 51 51 (.tmp 11) (.tmp 15) (shl32 x 13) (shr32 x 19))) (sk tV))))))))) (aT (@rfl Value (u32 (rot x 19))))))))
theorem rotl_22 (x : UInt32) : Pure Tryd.prog 67 [(u32 x), (int (-22))] (u32 (rot x 22)) :=
  pure_of_ev mix Tryd.func67 rfl rfl 400 (.reg [(0, .g)] (.reg [(0, .g), (1, .g), (2, .g), (3, .g)] (.reg [(0, .g), (1, .g), (2, (.as (u32 (shl32 x 10)))), (3, .g), (4, .g), (5, .g), (6, (.as (u32 (shr32 x 22)))), (7, (.as (u32 ((shl32 x 10) ||| (shr32 x 22))))), (8, .g)] .done))) []
    (Eq.mp (by kernel_rfl) (aI (sk tV) (aI (sk (sk (sk (sk tV)))) (aI (sk (sk (aI (aT (@is_shl32 Tryd.prog 51 122 (.tmp 9) (.tmp 10) x .u64 10)) (sk (sk (sk (aI (aT (@is_shr32 Tryd.prog 51 122 (.tmp 12) (.tmp 14) x .u64 22)) (aI (aT (@is_or32 Tryd.prog 51 51 (.tmp 11) (.tmp 15) (shl32 x 10) (shr32 x 22))) (sk tV))))))))) (aT (@rfl Value (u32 (rot x 22))))))))
theorem rotl_25 (x : UInt32) : Pure Tryd.prog 67 [(u32 x), (int (-25))] (u32 (rot x 25)) :=
  pure_of_ev mix Tryd.func67 rfl rfl 400 (.reg [(0, .g)] (.reg [(0, .g), (1, .g), (2, .g), (3, .g)] (.reg [(0, .g), (1, .g), (2, (.as (u32 (shl32 x 7)))), (3, .g), (4, .g), (5, .g), (6, (.as (u32 (shr32 x 25)))), (7, (.as (u32 ((shl32 x 7) ||| (shr32 x 25))))), (8, .g)] .done))) []
    (Eq.mp (by kernel_rfl) (aI (sk tV) (aI (sk (sk (sk (sk tV)))) (aI (sk (sk (aI (aT (@is_shl32 Tryd.prog 51 122 (.tmp 9) (.tmp 10) x .u64 7)) (sk (sk (sk (aI (aT (@is_shr32 Tryd.prog 51 122 (.tmp 12) (.tmp 14) x .u64 25)) (aI (aT (@is_or32 Tryd.prog 51 51 (.tmp 11) (.tmp 15) (shl32 x 7) (shr32 x 25))) (sk tV))))))))) (aT (@rfl Value (u32 (rot x 25))))))))
theorem right_2 (x : UInt32) : Pure Tryd.prog 61 [(u32 x), (int 2)] (u32 (rot x 2)) :=
  pure_of_ev mix Tryd.func61 rfl rfl 400 (.reg [(0, .g)] (.reg [(0, .g), (1, .g), (2, .g), (3, (.call [] 0 0 (fun _ => (u32 (rot x 2))) (fun _ => []))), (4, .g)] .done)) []
    (Eq.mp (by kernel_rfl) (aI (sk tV) (aI (sk (sk (sk (aI (aT (rotl_2 x)) (sk tV))))) (aT (@rfl Value (u32 (rot x 2)))))))
theorem right_6 (x : UInt32) : Pure Tryd.prog 61 [(u32 x), (int 6)] (u32 (rot x 6)) :=
  pure_of_ev mix Tryd.func61 rfl rfl 400 (.reg [(0, .g)] (.reg [(0, .g), (1, .g), (2, .g), (3, (.call [] 0 0 (fun _ => (u32 (rot x 6))) (fun _ => []))), (4, .g)] .done)) []
    (Eq.mp (by kernel_rfl) (aI (sk tV) (aI (sk (sk (sk (aI (aT (rotl_6 x)) (sk tV))))) (aT (@rfl Value (u32 (rot x 6)))))))
theorem right_7 (x : UInt32) : Pure Tryd.prog 61 [(u32 x), (int 7)] (u32 (rot x 7)) :=
  pure_of_ev mix Tryd.func61 rfl rfl 400 (.reg [(0, .g)] (.reg [(0, .g), (1, .g), (2, .g), (3, (.call [] 0 0 (fun _ => (u32 (rot x 7))) (fun _ => []))), (4, .g)] .done)) []
    (Eq.mp (by kernel_rfl) (aI (sk tV) (aI (sk (sk (sk (aI (aT (rotl_7 x)) (sk tV))))) (aT (@rfl Value (u32 (rot x 7)))))))
theorem right_11 (x : UInt32) : Pure Tryd.prog 61 [(u32 x), (int 11)] (u32 (rot x 11)) :=
  pure_of_ev mix Tryd.func61 rfl rfl 400 (.reg [(0, .g)] (.reg [(0, .g), (1, .g), (2, .g), (3, (.call [] 0 0 (fun _ => (u32 (rot x 11))) (fun _ => []))), (4, .g)] .done)) []
    (Eq.mp (by kernel_rfl) (aI (sk tV) (aI (sk (sk (sk (aI (aT (rotl_11 x)) (sk tV))))) (aT (@rfl Value (u32 (rot x 11)))))))
theorem right_13 (x : UInt32) : Pure Tryd.prog 61 [(u32 x), (int 13)] (u32 (rot x 13)) :=
  pure_of_ev mix Tryd.func61 rfl rfl 400 (.reg [(0, .g)] (.reg [(0, .g), (1, .g), (2, .g), (3, (.call [] 0 0 (fun _ => (u32 (rot x 13))) (fun _ => []))), (4, .g)] .done)) []
    (Eq.mp (by kernel_rfl) (aI (sk tV) (aI (sk (sk (sk (aI (aT (rotl_13 x)) (sk tV))))) (aT (@rfl Value (u32 (rot x 13)))))))
theorem right_17 (x : UInt32) : Pure Tryd.prog 61 [(u32 x), (int 17)] (u32 (rot x 17)) :=
  pure_of_ev mix Tryd.func61 rfl rfl 400 (.reg [(0, .g)] (.reg [(0, .g), (1, .g), (2, .g), (3, (.call [] 0 0 (fun _ => (u32 (rot x 17))) (fun _ => []))), (4, .g)] .done)) []
    (Eq.mp (by kernel_rfl) (aI (sk tV) (aI (sk (sk (sk (aI (aT (rotl_17 x)) (sk tV))))) (aT (@rfl Value (u32 (rot x 17)))))))
theorem right_18 (x : UInt32) : Pure Tryd.prog 61 [(u32 x), (int 18)] (u32 (rot x 18)) :=
  pure_of_ev mix Tryd.func61 rfl rfl 400 (.reg [(0, .g)] (.reg [(0, .g), (1, .g), (2, .g), (3, (.call [] 0 0 (fun _ => (u32 (rot x 18))) (fun _ => []))), (4, .g)] .done)) []
    (Eq.mp (by kernel_rfl) (aI (sk tV) (aI (sk (sk (sk (aI (aT (rotl_18 x)) (sk tV))))) (aT (@rfl Value (u32 (rot x 18)))))))
theorem right_19 (x : UInt32) : Pure Tryd.prog 61 [(u32 x), (int 19)] (u32 (rot x 19)) :=
  pure_of_ev mix Tryd.func61 rfl rfl 400 (.reg [(0, .g)] (.reg [(0, .g), (1, .g), (2, .g), (3, (.call [] 0 0 (fun _ => (u32 (rot x 19))) (fun _ => []))), (4, .g)] .done)) []
    (Eq.mp (by kernel_rfl) (aI (sk tV) (aI (sk (sk (sk (aI (aT (rotl_19 x)) (sk tV))))) (aT (@rfl Value (u32 (rot x 19)))))))
theorem right_22 (x : UInt32) : Pure Tryd.prog 61 [(u32 x), (int 22)] (u32 (rot x 22)) :=
  pure_of_ev mix Tryd.func61 rfl rfl 400 (.reg [(0, .g)] (.reg [(0, .g), (1, .g), (2, .g), (3, (.call [] 0 0 (fun _ => (u32 (rot x 22))) (fun _ => []))), (4, .g)] .done)) []
    (Eq.mp (by kernel_rfl) (aI (sk tV) (aI (sk (sk (sk (aI (aT (rotl_22 x)) (sk tV))))) (aT (@rfl Value (u32 (rot x 22)))))))
theorem right_25 (x : UInt32) : Pure Tryd.prog 61 [(u32 x), (int 25)] (u32 (rot x 25)) :=
  pure_of_ev mix Tryd.func61 rfl rfl 400 (.reg [(0, .g)] (.reg [(0, .g), (1, .g), (2, .g), (3, (.call [] 0 0 (fun _ => (u32 (rot x 25))) (fun _ => []))), (4, .g)] .done)) []
    (Eq.mp (by kernel_rfl) (aI (sk tV) (aI (sk (sk (sk (aI (aT (rotl_25 x)) (sk tV))))) (aT (@rfl Value (u32 (rot x 25)))))))
theorem rright_2 (x : UInt32) : Pure Tryd.prog 59 [(u32 x), (int 2)] (u32 (rot x 2)) :=
  pure_of_ev mix Tryd.func59 rfl rfl 400 (.reg [(0, .g)] (.reg [(0, .g), (1, .g), (2, (.as (u32 (shr32 x 2)))), (3, .g), (4, .g), (5, .g), (6, (.as (u32 (shl32 x 30)))), (7, (.as (u32 ((shr32 x 2) + (shl32 x 30))))), (8, .g)] .done)) []
    (Eq.mp (by kernel_rfl) (aI (sk tV) (aI (sk (sk (aI (aT (@is_shr32 Tryd.prog 51 3 (.tmp 5) (.tmp 6) x .i64 2)) (sk (sk (sk (aI (aT (@is_shl32 Tryd.prog 51 3 (.tmp 8) (.tmp 10) x .i64 30)) (aI (aT (@is_add32 Tryd.prog 51 51 (.tmp 7) (.tmp 11) (shr32 x 2) (shl32 x 30))) (sk tV))))))))) (aT ((congrArg u32 (rot_sum (x := x) (n := 2) (by decide))))))))
theorem rright_6 (x : UInt32) : Pure Tryd.prog 59 [(u32 x), (int 6)] (u32 (rot x 6)) :=
  pure_of_ev mix Tryd.func59 rfl rfl 400 (.reg [(0, .g)] (.reg [(0, .g), (1, .g), (2, (.as (u32 (shr32 x 6)))), (3, .g), (4, .g), (5, .g), (6, (.as (u32 (shl32 x 26)))), (7, (.as (u32 ((shr32 x 6) + (shl32 x 26))))), (8, .g)] .done)) []
    (Eq.mp (by kernel_rfl) (aI (sk tV) (aI (sk (sk (aI (aT (@is_shr32 Tryd.prog 51 3 (.tmp 5) (.tmp 6) x .i64 6)) (sk (sk (sk (aI (aT (@is_shl32 Tryd.prog 51 3 (.tmp 8) (.tmp 10) x .i64 26)) (aI (aT (@is_add32 Tryd.prog 51 51 (.tmp 7) (.tmp 11) (shr32 x 6) (shl32 x 26))) (sk tV))))))))) (aT ((congrArg u32 (rot_sum (x := x) (n := 6) (by decide))))))))
theorem rright_7 (x : UInt32) : Pure Tryd.prog 59 [(u32 x), (int 7)] (u32 (rot x 7)) :=
  pure_of_ev mix Tryd.func59 rfl rfl 400 (.reg [(0, .g)] (.reg [(0, .g), (1, .g), (2, (.as (u32 (shr32 x 7)))), (3, .g), (4, .g), (5, .g), (6, (.as (u32 (shl32 x 25)))), (7, (.as (u32 ((shr32 x 7) + (shl32 x 25))))), (8, .g)] .done)) []
    (Eq.mp (by kernel_rfl) (aI (sk tV) (aI (sk (sk (aI (aT (@is_shr32 Tryd.prog 51 3 (.tmp 5) (.tmp 6) x .i64 7)) (sk (sk (sk (aI (aT (@is_shl32 Tryd.prog 51 3 (.tmp 8) (.tmp 10) x .i64 25)) (aI (aT (@is_add32 Tryd.prog 51 51 (.tmp 7) (.tmp 11) (shr32 x 7) (shl32 x 25))) (sk tV))))))))) (aT ((congrArg u32 (rot_sum (x := x) (n := 7) (by decide))))))))
theorem rright_11 (x : UInt32) : Pure Tryd.prog 59 [(u32 x), (int 11)] (u32 (rot x 11)) :=
  pure_of_ev mix Tryd.func59 rfl rfl 400 (.reg [(0, .g)] (.reg [(0, .g), (1, .g), (2, (.as (u32 (shr32 x 11)))), (3, .g), (4, .g), (5, .g), (6, (.as (u32 (shl32 x 21)))), (7, (.as (u32 ((shr32 x 11) + (shl32 x 21))))), (8, .g)] .done)) []
    (Eq.mp (by kernel_rfl) (aI (sk tV) (aI (sk (sk (aI (aT (@is_shr32 Tryd.prog 51 3 (.tmp 5) (.tmp 6) x .i64 11)) (sk (sk (sk (aI (aT (@is_shl32 Tryd.prog 51 3 (.tmp 8) (.tmp 10) x .i64 21)) (aI (aT (@is_add32 Tryd.prog 51 51 (.tmp 7) (.tmp 11) (shr32 x 11) (shl32 x 21))) (sk tV))))))))) (aT ((congrArg u32 (rot_sum (x := x) (n := 11) (by decide))))))))
theorem rright_13 (x : UInt32) : Pure Tryd.prog 59 [(u32 x), (int 13)] (u32 (rot x 13)) :=
  pure_of_ev mix Tryd.func59 rfl rfl 400 (.reg [(0, .g)] (.reg [(0, .g), (1, .g), (2, (.as (u32 (shr32 x 13)))), (3, .g), (4, .g), (5, .g), (6, (.as (u32 (shl32 x 19)))), (7, (.as (u32 ((shr32 x 13) + (shl32 x 19))))), (8, .g)] .done)) []
    (Eq.mp (by kernel_rfl) (aI (sk tV) (aI (sk (sk (aI (aT (@is_shr32 Tryd.prog 51 3 (.tmp 5) (.tmp 6) x .i64 13)) (sk (sk (sk (aI (aT (@is_shl32 Tryd.prog 51 3 (.tmp 8) (.tmp 10) x .i64 19)) (aI (aT (@is_add32 Tryd.prog 51 51 (.tmp 7) (.tmp 11) (shr32 x 13) (shl32 x 19))) (sk tV))))))))) (aT ((congrArg u32 (rot_sum (x := x) (n := 13) (by decide))))))))
theorem rright_17 (x : UInt32) : Pure Tryd.prog 59 [(u32 x), (int 17)] (u32 (rot x 17)) :=
  pure_of_ev mix Tryd.func59 rfl rfl 400 (.reg [(0, .g)] (.reg [(0, .g), (1, .g), (2, (.as (u32 (shr32 x 17)))), (3, .g), (4, .g), (5, .g), (6, (.as (u32 (shl32 x 15)))), (7, (.as (u32 ((shr32 x 17) + (shl32 x 15))))), (8, .g)] .done)) []
    (Eq.mp (by kernel_rfl) (aI (sk tV) (aI (sk (sk (aI (aT (@is_shr32 Tryd.prog 51 3 (.tmp 5) (.tmp 6) x .i64 17)) (sk (sk (sk (aI (aT (@is_shl32 Tryd.prog 51 3 (.tmp 8) (.tmp 10) x .i64 15)) (aI (aT (@is_add32 Tryd.prog 51 51 (.tmp 7) (.tmp 11) (shr32 x 17) (shl32 x 15))) (sk tV))))))))) (aT ((congrArg u32 (rot_sum (x := x) (n := 17) (by decide))))))))
theorem rright_18 (x : UInt32) : Pure Tryd.prog 59 [(u32 x), (int 18)] (u32 (rot x 18)) :=
  pure_of_ev mix Tryd.func59 rfl rfl 400 (.reg [(0, .g)] (.reg [(0, .g), (1, .g), (2, (.as (u32 (shr32 x 18)))), (3, .g), (4, .g), (5, .g), (6, (.as (u32 (shl32 x 14)))), (7, (.as (u32 ((shr32 x 18) + (shl32 x 14))))), (8, .g)] .done)) []
    (Eq.mp (by kernel_rfl) (aI (sk tV) (aI (sk (sk (aI (aT (@is_shr32 Tryd.prog 51 3 (.tmp 5) (.tmp 6) x .i64 18)) (sk (sk (sk (aI (aT (@is_shl32 Tryd.prog 51 3 (.tmp 8) (.tmp 10) x .i64 14)) (aI (aT (@is_add32 Tryd.prog 51 51 (.tmp 7) (.tmp 11) (shr32 x 18) (shl32 x 14))) (sk tV))))))))) (aT ((congrArg u32 (rot_sum (x := x) (n := 18) (by decide))))))))
theorem rright_19 (x : UInt32) : Pure Tryd.prog 59 [(u32 x), (int 19)] (u32 (rot x 19)) :=
  pure_of_ev mix Tryd.func59 rfl rfl 400 (.reg [(0, .g)] (.reg [(0, .g), (1, .g), (2, (.as (u32 (shr32 x 19)))), (3, .g), (4, .g), (5, .g), (6, (.as (u32 (shl32 x 13)))), (7, (.as (u32 ((shr32 x 19) + (shl32 x 13))))), (8, .g)] .done)) []
    (Eq.mp (by kernel_rfl) (aI (sk tV) (aI (sk (sk (aI (aT (@is_shr32 Tryd.prog 51 3 (.tmp 5) (.tmp 6) x .i64 19)) (sk (sk (sk (aI (aT (@is_shl32 Tryd.prog 51 3 (.tmp 8) (.tmp 10) x .i64 13)) (aI (aT (@is_add32 Tryd.prog 51 51 (.tmp 7) (.tmp 11) (shr32 x 19) (shl32 x 13))) (sk tV))))))))) (aT ((congrArg u32 (rot_sum (x := x) (n := 19) (by decide))))))))
theorem rright_22 (x : UInt32) : Pure Tryd.prog 59 [(u32 x), (int 22)] (u32 (rot x 22)) :=
  pure_of_ev mix Tryd.func59 rfl rfl 400 (.reg [(0, .g)] (.reg [(0, .g), (1, .g), (2, (.as (u32 (shr32 x 22)))), (3, .g), (4, .g), (5, .g), (6, (.as (u32 (shl32 x 10)))), (7, (.as (u32 ((shr32 x 22) + (shl32 x 10))))), (8, .g)] .done)) []
    (Eq.mp (by kernel_rfl) (aI (sk tV) (aI (sk (sk (aI (aT (@is_shr32 Tryd.prog 51 3 (.tmp 5) (.tmp 6) x .i64 22)) (sk (sk (sk (aI (aT (@is_shl32 Tryd.prog 51 3 (.tmp 8) (.tmp 10) x .i64 10)) (aI (aT (@is_add32 Tryd.prog 51 51 (.tmp 7) (.tmp 11) (shr32 x 22) (shl32 x 10))) (sk tV))))))))) (aT ((congrArg u32 (rot_sum (x := x) (n := 22) (by decide))))))))
theorem rright_25 (x : UInt32) : Pure Tryd.prog 59 [(u32 x), (int 25)] (u32 (rot x 25)) :=
  pure_of_ev mix Tryd.func59 rfl rfl 400 (.reg [(0, .g)] (.reg [(0, .g), (1, .g), (2, (.as (u32 (shr32 x 25)))), (3, .g), (4, .g), (5, .g), (6, (.as (u32 (shl32 x 7)))), (7, (.as (u32 ((shr32 x 25) + (shl32 x 7))))), (8, .g)] .done)) []
    (Eq.mp (by kernel_rfl) (aI (sk tV) (aI (sk (sk (aI (aT (@is_shr32 Tryd.prog 51 3 (.tmp 5) (.tmp 6) x .i64 25)) (sk (sk (sk (aI (aT (@is_shl32 Tryd.prog 51 3 (.tmp 8) (.tmp 10) x .i64 7)) (aI (aT (@is_add32 Tryd.prog 51 51 (.tmp 7) (.tmp 11) (shr32 x 25) (shl32 x 7))) (sk tV))))))))) (aT ((congrArg u32 (rot_sum (x := x) (n := 25) (by decide))))))))
theorem round_pure (s : W8) (add : UInt32) : Pure Tryd.prog 53 [(Value.agg #[(u32 s.a), (u32 s.b), (u32 s.c), (u32 s.d), (u32 s.e), (u32 s.f), (u32 s.g), (u32 s.h)]), (u32 add)] (w8V (rndS s add)) :=
  pure_of_ev mix Tryd.func53 rfl rfl 400 (.regn [(0, .new), (1, .new)] (more (fun n1 => more (fun n2 => fun _ => (.reg [(0, .g), (1, (.ld 0 (.lit 0))), (2, .g), (3, (.ld 0 (.lit 1))), (4, .g), (5, (.ld 0 (.lit 2))), (6, .g), (7, (.ld 0 (.lit 3))), (8, .g), (9, (.ld 0 (.lit 4))), (10, .g), (11, (.ld 0 (.lit 5))), (12, .g), (13, (.ld 0 (.lit 6))), (14, .g), (15, (.ld 0 (.lit 7))), (16, .g), (17, .g), (18, .g), (19, .g), (20, .g), (21, .g), (22, .g), (23, .g)] (.reg [(0, .g), (1, .g), (2, (.call [] 0 0 (fun _ => (u32 (rot s.e 6))) (fun _ => []))), (3, .g), (4, (.call [] 0 0 (fun _ => (u32 (rot s.e 11))) (fun _ => []))), (5, (.as (u32 ((rot s.e 6) ^^^ (rot s.e 11))))), (6, .g), (7, (.call [] 0 0 (fun _ => (u32 (rot s.e 25))) (fun _ => []))), (8, (.as (u32 (((rot s.e 6) ^^^ (rot s.e 11)) ^^^ (rot s.e 25))))), (9, (.as (u32 (s.h + (((rot s.e 6) ^^^ (rot s.e 11)) ^^^ (rot s.e 25)))))), (10, .g), (11, .g), (12, (.as (u32 (s.e &&& s.f)))), (13, .g), (14, (.as (u32 (~~~s.e)))), (15, .g), (16, (.as (u32 ((~~~s.e) &&& s.g)))), (17, (.as (u32 ((s.e &&& s.f) ^^^ ((~~~s.e) &&& s.g))))), (18, (.as (u32 ((s.h + (((rot s.e 6) ^^^ (rot s.e 11)) ^^^ (rot s.e 25))) + ((s.e &&& s.f) ^^^ ((~~~s.e) &&& s.g)))))), (19, .g), (20, (.as (u32 (((s.h + (((rot s.e 6) ^^^ (rot s.e 11)) ^^^ (rot s.e 25))) + ((s.e &&& s.f) ^^^ ((~~~s.e) &&& s.g))) + add)))), (21, .g)] (.reg [(0, .g), (1, (.call [] 0 0 (fun _ => (u32 (rot s.a 2))) (fun _ => []))), (2, .g), (3, (.call [] 0 0 (fun _ => (u32 (rot s.a 13))) (fun _ => []))), (4, (.as (u32 ((rot s.a 2) ^^^ (rot s.a 13))))), (5, .g), (6, (.call [] 0 0 (fun _ => (u32 (rot s.a 22))) (fun _ => []))), (7, (.as (u32 (((rot s.a 2) ^^^ (rot s.a 13)) ^^^ (rot s.a 22))))), (8, .g), (9, .g), (10, (.as (u32 (s.a &&& s.b)))), (11, .g), (12, .g), (13, (.as (u32 (s.a &&& s.c)))), (14, (.as (u32 ((s.a &&& s.b) ^^^ (s.a &&& s.c))))), (15, .g), (16, .g), (17, (.as (u32 (s.b &&& s.c)))), (18, (.as (u32 (((s.a &&& s.b) ^^^ (s.a &&& s.c)) ^^^ (s.b &&& s.c))))), (19, (.as (u32 ((((rot s.a 2) ^^^ (rot s.a 13)) ^^^ (rot s.a 22)) + (((s.a &&& s.b) ^^^ (s.a &&& s.c)) ^^^ (s.b &&& s.c)))))), (20, .g)] (.reg [(0, .g), (1, .g), (2, (.as (u32 ((((s.h + (((rot s.e 6) ^^^ (rot s.e 11)) ^^^ (rot s.e 25))) + ((s.e &&& s.f) ^^^ ((~~~s.e) &&& s.g))) + add) + ((((rot s.a 2) ^^^ (rot s.a 13)) ^^^ (rot s.a 22)) + (((s.a &&& s.b) ^^^ (s.a &&& s.c)) ^^^ (s.b &&& s.c))))))), (3, .g), (4, .g), (5, .g), (6, .g), (7, .g), (8, (.as (u32 (s.d + (((s.h + (((rot s.e 6) ^^^ (rot s.e 11)) ^^^ (rot s.e 25))) + ((s.e &&& s.f) ^^^ ((~~~s.e) &&& s.g))) + add))))), (9, .g), (10, .g), (11, .g), (12, .g), (13, (.st 1 (.lit 0)))] .done)))))))) [(1, 0)]
    (Eq.mp (by kernel_rfl) (fun (n1 n2 : Nat) => aI (sk (sk tV)) (aI (sk (aI (aT (ad n1 0)) (sk (aI (aT (ad n1 1)) (sk (aI (aT (ad n1 2)) (sk (aI (aT (ad n1 3)) (sk (aI (aT (ad n1 4)) (sk (aI (aT (ad n1 5)) (sk (aI (aT (ad n1 6)) (sk (aI (aT (ad n1 7)) (sk (sk (sk (sk (sk (sk (sk (sk tV)))))))))))))))))))))))) (aI (sk (sk (aI (aT (right_6 s.e)) (sk (aI (aT (right_11 s.e)) (aI (aT (@is_xor32 Tryd.prog 51 51 (.tmp 33) (.tmp 35) (rot s.e 6) (rot s.e 11))) (sk (aI (aT (right_25 s.e)) (aI (aT (@is_xor32 Tryd.prog 51 51 (.tmp 36) (.tmp 38) ((rot s.e 6) ^^^ (rot s.e 11)) (rot s.e 25))) (aI (aT (@is_add32 Tryd.prog 51 51 (.tmp 31) (.tmp 39) s.h (((rot s.e 6) ^^^ (rot s.e 11)) ^^^ (rot s.e 25)))) (sk (sk (aI (aT (@is_and32 Tryd.prog 51 51 (.tmp 41) (.tmp 42) s.e s.f)) (sk (aI (aT (@is_not32 Tryd.prog 51 (.tmp 44) s.e)) (sk (aI (aT (@is_and32 Tryd.prog 51 51 (.tmp 45) (.tmp 46) (~~~s.e) s.g)) (aI (aT (@is_xor32 Tryd.prog 51 51 (.tmp 43) (.tmp 47) (s.e &&& s.f) ((~~~s.e) &&& s.g))) (aI (aT (@is_add32 Tryd.prog 51 51 (.tmp 40) (.tmp 48) (s.h + (((rot s.e 6) ^^^ (rot s.e 11)) ^^^ (rot s.e 25))) ((s.e &&& s.f) ^^^ ((~~~s.e) &&& s.g)))) (sk (aI (aT (@is_add32 Tryd.prog 51 51 (.tmp 49) (.tmp 50) ((s.h + (((rot s.e 6) ^^^ (rot s.e 11)) ^^^ (rot s.e 25))) + ((s.e &&& s.f) ^^^ ((~~~s.e) &&& s.g))) add)) (sk tV)))))))))))))))))))))) (aI (sk (aI (aT (right_2 s.a)) (sk (aI (aT (right_13 s.a)) (aI (aT (@is_xor32 Tryd.prog 51 51 (.tmp 53) (.tmp 55) (rot s.a 2) (rot s.a 13))) (sk (aI (aT (right_22 s.a)) (aI (aT (@is_xor32 Tryd.prog 51 51 (.tmp 56) (.tmp 58) ((rot s.a 2) ^^^ (rot s.a 13)) (rot s.a 22))) (sk (sk (aI (aT (@is_and32 Tryd.prog 51 51 (.tmp 60) (.tmp 61) s.a s.b)) (sk (sk (aI (aT (@is_and32 Tryd.prog 51 51 (.tmp 63) (.tmp 64) s.a s.c)) (aI (aT (@is_xor32 Tryd.prog 51 51 (.tmp 62) (.tmp 65) (s.a &&& s.b) (s.a &&& s.c))) (sk (sk (aI (aT (@is_and32 Tryd.prog 51 51 (.tmp 67) (.tmp 68) s.b s.c)) (aI (aT (@is_xor32 Tryd.prog 51 51 (.tmp 66) (.tmp 69) ((s.a &&& s.b) ^^^ (s.a &&& s.c)) (s.b &&& s.c))) (aI (aT (@is_add32 Tryd.prog 51 51 (.tmp 59) (.tmp 70) (((rot s.a 2) ^^^ (rot s.a 13)) ^^^ (rot s.a 22)) (((s.a &&& s.b) ^^^ (s.a &&& s.c)) ^^^ (s.b &&& s.c)))) (sk tV))))))))))))))))))))) (aI (sk (sk (aI (aT (@is_add32 Tryd.prog 51 51 (.tmp 72) (.tmp 73) (((s.h + (((rot s.e 6) ^^^ (rot s.e 11)) ^^^ (rot s.e 25))) + ((s.e &&& s.f) ^^^ ((~~~s.e) &&& s.g))) + add) ((((rot s.a 2) ^^^ (rot s.a 13)) ^^^ (rot s.a 22)) + (((s.a &&& s.b) ^^^ (s.a &&& s.c)) ^^^ (s.b &&& s.c))))) (sk (sk (sk (sk (sk (aI (aT (@is_add32 Tryd.prog 51 51 (.tmp 78) (.tmp 79) s.d (((s.h + (((rot s.e 6) ^^^ (rot s.e 11)) ^^^ (rot s.e 25))) + ((s.e &&& s.f) ^^^ ((~~~s.e) &&& s.g))) + add))) (sk (sk (sk (sk (aI (aT (ad n2 0)) tV)))))))))))))) (aI (aI (@rfl Value (ptr n2 0)) tV) (@rfl Value (w8V (rndS s add))))))))))
def spread_pure_S1 (b : Nat → UInt8) (n1 : Nat) (n2 : Nat) (n3 : Nat) (x1 : Nat × (Nat → UInt32)) : St := ⟨[(2, .v (ptr n2 0)), (3, .v (ptr n3 0)), (9, .v (vecV 64 (fun k => u8 (b k)))), (10, .v (nat x1.1))], [(0, some ⟨n1, true, 0, (litF 64 (fun k => u8 (b k)))⟩), (1, some ⟨n2, true, 0, (.lit [(u32 0), (u32 0), (u32 0), (u32 0), (u32 0), (u32 0), (u32 0), (u32 0), (u32 0), (u32 0), (u32 0), (u32 0), (u32 0), (u32 0), (u32 0), (u32 0), (u32 0), (u32 0), (u32 0), (u32 0), (u32 0), (u32 0), (u32 0), (u32 0), (u32 0), (u32 0), (u32 0), (u32 0), (u32 0), (u32 0), (u32 0), (u32 0), (u32 0), (u32 0), (u32 0), (u32 0), (u32 0), (u32 0), (u32 0), (u32 0), (u32 0), (u32 0), (u32 0), (u32 0), (u32 0), (u32 0), (u32 0), (u32 0), (u32 0), (u32 0), (u32 0), (u32 0), (u32 0), (u32 0), (u32 0), (u32 0), (u32 0), (u32 0), (u32 0), (u32 0), (u32 0), (u32 0), (u32 0), (u32 0)])⟩), (2, some ⟨n3, true, 0, (tabF 64 (fun k => u32 (x1.2 k)))⟩)], 3⟩
def spread_pure_R1 (b : Nat → UInt8) (n1 : Nat) (n2 : Nat) (n3 : Nat) (x1 : Nat × (Nat → UInt32)) : Prop := (x1.1 ≤ 64) ∧ (x1.2 = sp1 b x1.1)
def spread_pure_mu1 (b : Nat → UInt8) (n1 : Nat) (n2 : Nat) (n3 : Nat) (x1 : Nat × (Nat → UInt32)) : Nat := 64 - x1.1
def spread_pure_S2 (b : Nat → UInt8) (n1 : Nat) (n2 : Nat) (n3 : Nat) (x1 : Nat × (Nat → UInt32)) (x2 : Nat × (Nat → UInt32)) : St := ⟨[(2, .v (ptr n2 0)), (3, .v (ptr n3 0)), (6, .v (nat x2.1))], [(0, some ⟨n1, true, 0, (litF 64 (fun k => u8 (b k)))⟩), (1, some ⟨n2, true, 0, (.lit [(u32 0), (u32 0), (u32 0), (u32 0), (u32 0), (u32 0), (u32 0), (u32 0), (u32 0), (u32 0), (u32 0), (u32 0), (u32 0), (u32 0), (u32 0), (u32 0), (u32 0), (u32 0), (u32 0), (u32 0), (u32 0), (u32 0), (u32 0), (u32 0), (u32 0), (u32 0), (u32 0), (u32 0), (u32 0), (u32 0), (u32 0), (u32 0), (u32 0), (u32 0), (u32 0), (u32 0), (u32 0), (u32 0), (u32 0), (u32 0), (u32 0), (u32 0), (u32 0), (u32 0), (u32 0), (u32 0), (u32 0), (u32 0), (u32 0), (u32 0), (u32 0), (u32 0), (u32 0), (u32 0), (u32 0), (u32 0), (u32 0), (u32 0), (u32 0), (u32 0), (u32 0), (u32 0), (u32 0), (u32 0)])⟩), (2, some ⟨n3, true, 0, (tabF 64 (fun k => u32 (x2.2 k)))⟩)], 3⟩
def spread_pure_R2 (b : Nat → UInt8) (n1 : Nat) (n2 : Nat) (n3 : Nat) (x1 : Nat × (Nat → UInt32)) (x2 : Nat × (Nat → UInt32)) : Prop := (16 ≤ x2.1) ∧ (x2.1 ≤ 64) ∧ (x2.2 = sp2 b (x2.1 - 16))
def spread_pure_mu2 (b : Nat → UInt8) (n1 : Nat) (n2 : Nat) (n3 : Nat) (x1 : Nat × (Nat → UInt32)) (x2 : Nat × (Nat → UInt32)) : Nat := 64 - x2.1
theorem spread_pure (b : Nat → UInt8) : Pure Tryd.prog 52 [(vecV 64 (fun k => u8 (b k)))] (vecV 64 fun k => u32 (sprW b k)) :=
  pure_of_ev mix Tryd.func52 rfl rfl 400 (.regn [(0, .new), (1, .new)] (more (fun n1 => more (fun n2 => fun _ => (.regn [(0, .new)] (more (fun n3 => fun _ => (.reg [(0, (.ld 0 (.lit 0))), (1, .g)] (.cast 2 (tabF 64 (fun k => u32 ((fun _ => 0) k))) (.inv [2, 3, 9, 10] [0, 1, 2] 3 (spread_pure_R1 b n1 n2 n3) (spread_pure_S1 b n1 n2 n3) (spread_pure_mu1 b n1 n2 n3) ((0, (fun _ => 0)) : Nat × (Nat → UInt32)) (fun (x1 : Nat × (Nat → UInt32)) => (.reg [(0, (.as (Value.bool (decide (x1.1 < 64)))))] (.br (.reg [(0, .g), (1, (.as (u8 (b x1.1)))), (2, .g), (3, .g)] (.reg [(0, .g), (1, (.as (nat (x1.1 / 4)))), (2, .g), (3, (.as (nat (x1.1 / 4)))), (4, (.as (ptr n3 (0 + (x1.1 / 4) * 1)))), (5, (.ld 2 (.tab (x1.1 / 4) 0))), (6, (.as (u32 (shl32 (x1.2 (x1.1 / 4)) 8)))), (7, .g), (8, (.as (u32 ((b x1.1).toUInt32)))), (9, (.as (u32 ((shl32 (x1.2 (x1.1 / 4)) 8) ||| ((b x1.1).toUInt32))))), (10, (.as (ptr n3 (0 + (x1.1 / 4) * 1)))), (11, (.stc 2 (.tab (x1.1 / 4) 0) (tabF 64 (fun k => u32 (upd x1.2 (x1.1 / 4) ((shl32 (x1.2 (x1.1 / 4)) 8) ||| ((b x1.1).toUInt32)) k)))))] (.reg [(0, (.as (nat (x1.1 + 1)))), (1, .g)] .done))) (.reg [(0, .g)] (.inv [2, 3, 6] [0, 1, 2] 3 (spread_pure_R2 b n1 n2 n3 x1) (spread_pure_S2 b n1 n2 n3 x1) (spread_pure_mu2 b n1 n2 n3 x1) ((16, x1.2) : Nat × (Nat → UInt32)) (fun (x2 : Nat × (Nat → UInt32)) => (.reg [(0, .g), (1, (.as (Value.bool (decide (x2.1 < 64)))))] (.br (.reg [(0, .g), (1, (.as (nat (x2.1 - 15)))), (2, (.as (ptr n3 (0 + (x2.1 - 15) * 1)))), (3, (.ld 2 (.tab (x2.1 - 15) 0))), (4, .g), (5, (.as (nat (x2.1 - 2)))), (6, (.as (ptr n3 (0 + (x2.1 - 2) * 1)))), (7, (.ld 2 (.tab (x2.1 - 2) 0))), (8, .g), (9, .g)] (.reg [(0, .g), (1, .g), (2, (.as (nat (x2.1 - 16)))), (3, (.as (ptr n3 (0 + (x2.1 - 16) * 1)))), (4, (.ld 2 (.tab (x2.1 - 16) 0))), (5, .g), (6, (.as (nat (x2.1 - 7)))), (7, (.as (ptr n3 (0 + (x2.1 - 7) * 1)))), (8, (.ld 2 (.tab (x2.1 - 7) 0))), (9, (.as (u32 ((x2.2 (x2.1 - 16)) + (x2.2 (x2.1 - 7)))))), (10, .g), (11, (.call [] 0 0 (fun _ => (u32 (rot (x2.2 (x2.1 - 15)) 7))) (fun _ => []))), (12, .g), (13, (.call [] 0 0 (fun _ => (u32 (rot (x2.2 (x2.1 - 15)) 18))) (fun _ => []))), (14, (.as (u32 ((rot (x2.2 (x2.1 - 15)) 7) ^^^ (rot (x2.2 (x2.1 - 15)) 18))))), (15, .g), (16, (.as (u32 (shr32 (x2.2 (x2.1 - 15)) 3)))), (17, (.as (u32 (((rot (x2.2 (x2.1 - 15)) 7) ^^^ (rot (x2.2 (x2.1 - 15)) 18)) ^^^ (shr32 (x2.2 (x2.1 - 15)) 3))))), (18, (.as (u32 (((x2.2 (x2.1 - 16)) + (x2.2 (x2.1 - 7))) + (((rot (x2.2 (x2.1 - 15)) 7) ^^^ (rot (x2.2 (x2.1 - 15)) 18)) ^^^ (shr32 (x2.2 (x2.1 - 15)) 3)))))), (19, .g), (20, (.call [] 0 0 (fun _ => (u32 (rot (x2.2 (x2.1 - 2)) 17))) (fun _ => []))), (21, .g), (22, (.call [] 0 0 (fun _ => (u32 (rot (x2.2 (x2.1 - 2)) 19))) (fun _ => []))), (23, (.as (u32 ((rot (x2.2 (x2.1 - 2)) 17) ^^^ (rot (x2.2 (x2.1 - 2)) 19))))), (24, .g), (25, (.as (u32 (shr32 (x2.2 (x2.1 - 2)) 10)))), (26, (.as (u32 (((rot (x2.2 (x2.1 - 2)) 17) ^^^ (rot (x2.2 (x2.1 - 2)) 19)) ^^^ (shr32 (x2.2 (x2.1 - 2)) 10))))), (27, (.as (u32 ((((x2.2 (x2.1 - 16)) + (x2.2 (x2.1 - 7))) + (((rot (x2.2 (x2.1 - 15)) 7) ^^^ (rot (x2.2 (x2.1 - 15)) 18)) ^^^ (shr32 (x2.2 (x2.1 - 15)) 3))) + (((rot (x2.2 (x2.1 - 2)) 17) ^^^ (rot (x2.2 (x2.1 - 2)) 19)) ^^^ (shr32 (x2.2 (x2.1 - 2)) 10)))))), (28, (.as (ptr n3 (0 + x2.1 * 1)))), (29, (.stc 2 (.tab x2.1 0) (tabF 64 (fun k => u32 (upd x2.2 x2.1 ((((x2.2 (x2.1 - 16)) + (x2.2 (x2.1 - 7))) + (((rot (x2.2 (x2.1 - 15)) 7) ^^^ (rot (x2.2 (x2.1 - 15)) 18)) ^^^ (shr32 (x2.2 (x2.1 - 15)) 3))) + (((rot (x2.2 (x2.1 - 2)) 17) ^^^ (rot (x2.2 (x2.1 - 2)) 19)) ^^^ (shr32 (x2.2 (x2.1 - 2)) 10))) k)))))] (.reg [(0, .g), (1, (.as (nat (x2.1 + 1)))), (2, .g)] .done))) (.cast 2 (litF 64 (fun k => u32 (x2.2 k))) (.reg [(0, (.ld 2 (.lit 0))), (1, (.st 1 (.lit 0)))] .done)))))))))))))))))))) [(1, 0)]
    (Eq.mp (by kernel_rfl) (fun (n1 n2 : Nat) => aI (sk (sk tV)) (fun (n3 : Nat) => aI (sk tV) (aI (aI (aT (ad n1 0)) (sk tV)) (aI (to_tabF 64 (fun k => u32 ((fun _ => 0) k))) (aI (show (spread_pure_R1 b n1 n2 n3) ((0, (fun _ => 0)) : Nat × (Nat → UInt32)) from (show (0 ≤ 64) ∧ ((fun _ => 0) = sp1 b 0) from by exact ⟨by omega, rfl⟩)) (aI (@rfl St ((spread_pure_S1 b n1 n2 n3) ((0, (fun _ => 0)) : Nat × (Nat → UInt32)))) (fun (x1 : Nat × (Nat → UInt32)) (hx1 : (spread_pure_R1 b n1 n2 n3) x1) => have B0 : x1.1 ≤ 64 := hx1.1; have B1 : x1.2 = sp1 b x1.1 := hx1.2; aI (aI (aT (@is_lssn Tryd.prog 3 3 (.tmp 10) (.const (.int .i64 64))  x1.1 64)) tV) (aT (aI (fun (h1 : (decide (x1.1 < 64)) = true) => have f2 := (oT h1); aI (sk (aI (aT (@is_ixVec Tryd.prog 91 5 (.tmp 9) (.tmp 10) 64 (by kernel_rfl) (by kernel_rfl) ⟨.u8, by kernel_rfl⟩ (fun k => u8 (b k)) x1.1 (show x1.1 < 64 from by omega))) (sk (sk tV)))) (aI (sk (aI (aT (@is_quon Tryd.prog 3 3 (.tmp 14) (.const (.int .i64 4))  x1.1 4 (show 0 < 4 ∧ x1.1 ≤ 9223372036854775807 from by omega))) (sk (aI (aT (@is_quon Tryd.prog 3 3 (.tmp 16) (.const (.int .i64 4))  x1.1 4 (show 0 < 4 ∧ x1.1 ≤ 9223372036854775807 from by omega))) (aI (aT (@is_ixArr Tryd.prog 108 51 (.tmp 3) (.tmp 17) 1 64 (by kernel_rfl) (by kernel_rfl) n3 0 (x1.1 / 4) (show x1.1 / 4 < 64 from by omega))) (aI (aT (aI (show x1.1 / 4 < 64 from by omega) (@rfl Value (ptr n3 (0 + (x1.1 / 4) * 1))))) (aI (aT (@is_shl32 Tryd.prog 51 122 (.tmp 19) (.const (.int .u64 8)) (x1.2 (x1.1 / 4)) .u64 8)) (sk (aI (aT (@conv_u8_u32 Tryd.prog 5 51 (.tmp 21) (by kernel_rfl) (by kernel_rfl) (b x1.1))) (aI (aT (@is_or32 Tryd.prog 51 51 (.tmp 20) (.tmp 22) (shl32 (x1.2 (x1.1 / 4)) 8) ((b x1.1).toUInt32))) (aI (aT (@is_ixArr Tryd.prog 108 51 (.tmp 3) (.tmp 15) 1 64 (by kernel_rfl) (by kernel_rfl) n3 0 (x1.1 / 4) (show x1.1 / 4 < 64 from by omega))) (aI (aT (aI (show x1.1 / 4 < 64 from by omega) (aI (@rfl Value (ptr n3 (0 + (x1.1 / 4) * 1))) (store_tabF 64 u32 x1.2 (x1.1 / 4) ((shl32 (x1.2 (x1.1 / 4)) 8) ||| ((b x1.1).toUInt32)))))) tV)))))))))))) (aI (aI (aT (@is_addn Tryd.prog 3 3 (.tmp 10) (.const (.int .i64 1))  x1.1 1 (show x1.1 + 1 ≤ 9223372036854775807 from by omega))) (sk tV)) ((rnd (spread_pure_R1 b n1 n2 n3) (spread_pure_S1 b n1 n2 n3) (spread_pure_mu1 b n1 n2 n3) x1 ((x1.1 + 1, upd x1.2 (x1.1 / 4) ((shl32 (x1.2 (x1.1 / 4)) 8) ||| ((b x1.1).toUInt32))) : Nat × (Nat → UInt32)) (show (spread_pure_R1 b n1 n2 n3) ((x1.1 + 1, upd x1.2 (x1.1 / 4) ((shl32 (x1.2 (x1.1 / 4)) 8) ||| ((b x1.1).toUInt32))) : Nat × (Nat → UInt32)) ∧ (spread_pure_mu1 b n1 n2 n3) ((x1.1 + 1, upd x1.2 (x1.1 / 4) ((shl32 (x1.2 (x1.1 / 4)) 8) ||| ((b x1.1).toUInt32))) : Nat × (Nat → UInt32)) < (spread_pure_mu1 b n1 n2 n3) x1 from (show (((x1.1 + 1) ≤ 64) ∧ ((upd x1.2 (x1.1 / 4) ((shl32 (x1.2 (x1.1 / 4)) 8) ||| ((b x1.1).toUInt32))) = sp1 b (x1.1 + 1))) ∧ (64 - (x1.1 + 1)) < (64 - x1.1) from by exact ⟨⟨by omega, by rw [B1] <;> rfl⟩, by omega⟩))))))) (fun (h1 : (decide (x1.1 < 64)) = false) => have f2 := (oF h1); aI (sk tV) (aI (show (spread_pure_R2 b n1 n2 n3 x1) ((16, x1.2) : Nat × (Nat → UInt32)) from (show (16 ≤ 16) ∧ (16 ≤ 64) ∧ (x1.2 = sp2 b (16 - 16)) from by exact ⟨by omega, by omega, by rw [B1, show x1.1 = 64 by omega] <;> rfl⟩)) (aI (@rfl St ((spread_pure_S2 b n1 n2 n3 x1) ((16, x1.2) : Nat × (Nat → UInt32)))) (fun (x2 : Nat × (Nat → UInt32)) (hx2 : (spread_pure_R2 b n1 n2 n3 x1) x2) => have C0 := hx2.1; have C1 := hx2.2.1; have C2 := hx2.2.2; aI (sk (aI (aT (@is_lssn Tryd.prog 3 3 (.tmp 26) (.const (.int .i64 64))  x2.1 64)) tV)) (aT (aI (fun (h2 : (decide (x2.1 < 64)) = true) => have f6 := (oT h2); aI (sk (aI (aT (@is_subn Tryd.prog 3 3 (.tmp 30) (.const (.int .i64 15))  x2.1 15 (show 15 ≤ x2.1 ∧ x2.1 - 15 ≤ 9223372036854775807 from by omega))) (aI (aT (@is_ixArr Tryd.prog 108 51 (.tmp 3) (.tmp 31) 1 64 (by kernel_rfl) (by kernel_rfl) n3 0 (x2.1 - 15) (show x2.1 - 15 < 64 from by omega))) (aI (aT (aI (show x2.1 - 15 < 64 from by omega) (@rfl Value (ptr n3 (0 + (x2.1 - 15) * 1))))) (sk (aI (aT (@is_subn Tryd.prog 3 3 (.tmp 34) (.const (.int .i64 2))  x2.1 2 (show 2 ≤ x2.1 ∧ x2.1 - 2 ≤ 9223372036854775807 from by omega))) (aI (aT (@is_ixArr Tryd.prog 108 51 (.tmp 3) (.tmp 35) 1 64 (by kernel_rfl) (by kernel_rfl) n3 0 (x2.1 - 2) (show x2.1 - 2 < 64 from by omega))) (aI (aT (aI (show x2.1 - 2 < 64 from by omega) (@rfl Value (ptr n3 (0 + (x2.1 - 2) * 1))))) (sk (sk tV)))))))))) (aI (sk (sk (aI (aT (@is_subn Tryd.prog 3 3 (.tmp 39) (.const (.int .i64 16))  x2.1 16 (show 16 ≤ x2.1 ∧ x2.1 - 16 ≤ 9223372036854775807 from by omega))) (aI (aT (@is_ixArr Tryd.prog 108 51 (.tmp 3) (.tmp 40) 1 64 (by kernel_rfl) (by kernel_rfl) n3 0 (x2.1 - 16) (show x2.1 - 16 < 64 from by omega))) (aI (aT (aI (show x2.1 - 16 < 64 from by omega) (@rfl Value (ptr n3 (0 + (x2.1 - 16) * 1))))) (sk (aI (aT (@is_subn Tryd.prog 3 3 (.tmp 43) (.const (.int .i64 7))  x2.1 7 (show 7 ≤ x2.1 ∧ x2.1 - 7 ≤ 9223372036854775807 from by omega))) (aI (aT (@is_ixArr Tryd.prog 108 51 (.tmp 3) (.tmp 44) 1 64 (by kernel_rfl) (by kernel_rfl) n3 0 (x2.1 - 7) (show x2.1 - 7 < 64 from by omega))) (aI (aT (aI (show x2.1 - 7 < 64 from by omega) (@rfl Value (ptr n3 (0 + (x2.1 - 7) * 1))))) (aI (aT (@is_add32 Tryd.prog 51 51 (.tmp 42) (.tmp 46) (x2.2 (x2.1 - 16)) (x2.2 (x2.1 - 7)))) (sk (aI (aT (right_7 (x2.2 (x2.1 - 15)))) (sk (aI (aT (right_18 (x2.2 (x2.1 - 15)))) (aI (aT (@is_xor32 Tryd.prog 51 51 (.tmp 49) (.tmp 51) (rot (x2.2 (x2.1 - 15)) 7) (rot (x2.2 (x2.1 - 15)) 18))) (sk (aI (aT (@is_shr32 Tryd.prog 51 122 (.tmp 53) (.const (.int .u64 3)) (x2.2 (x2.1 - 15)) .u64 3)) (aI (aT (@is_xor32 Tryd.prog 51 51 (.tmp 52) (.tmp 54) ((rot (x2.2 (x2.1 - 15)) 7) ^^^ (rot (x2.2 (x2.1 - 15)) 18)) (shr32 (x2.2 (x2.1 - 15)) 3))) (aI (aT (@is_add32 Tryd.prog 51 51 (.tmp 47) (.tmp 55) ((x2.2 (x2.1 - 16)) + (x2.2 (x2.1 - 7))) (((rot (x2.2 (x2.1 - 15)) 7) ^^^ (rot (x2.2 (x2.1 - 15)) 18)) ^^^ (shr32 (x2.2 (x2.1 - 15)) 3)))) (sk (aI (aT (right_17 (x2.2 (x2.1 - 2)))) (sk (aI (aT (right_19 (x2.2 (x2.1 - 2)))) (aI (aT (@is_xor32 Tryd.prog 51 51 (.tmp 58) (.tmp 60) (rot (x2.2 (x2.1 - 2)) 17) (rot (x2.2 (x2.1 - 2)) 19))) (sk (aI (aT (@is_shr32 Tryd.prog 51 122 (.tmp 62) (.const (.int .u64 10)) (x2.2 (x2.1 - 2)) .u64 10)) (aI (aT (@is_xor32 Tryd.prog 51 51 (.tmp 61) (.tmp 63) ((rot (x2.2 (x2.1 - 2)) 17) ^^^ (rot (x2.2 (x2.1 - 2)) 19)) (shr32 (x2.2 (x2.1 - 2)) 10))) (aI (aT (@is_add32 Tryd.prog 51 51 (.tmp 56) (.tmp 64) (((x2.2 (x2.1 - 16)) + (x2.2 (x2.1 - 7))) + (((rot (x2.2 (x2.1 - 15)) 7) ^^^ (rot (x2.2 (x2.1 - 15)) 18)) ^^^ (shr32 (x2.2 (x2.1 - 15)) 3))) (((rot (x2.2 (x2.1 - 2)) 17) ^^^ (rot (x2.2 (x2.1 - 2)) 19)) ^^^ (shr32 (x2.2 (x2.1 - 2)) 10)))) (aI (aT (@is_ixArr Tryd.prog 108 51 (.tmp 3) (.tmp 38) 1 64 (by kernel_rfl) (by kernel_rfl) n3 0 x2.1 (show x2.1 < 64 from by omega))) (aI (aT (aI (show x2.1 < 64 from by omega) (aI (@rfl Value (ptr n3 (0 + x2.1 * 1))) (store_tabF 64 u32 x2.2 x2.1 ((((x2.2 (x2.1 - 16)) + (x2.2 (x2.1 - 7))) + (((rot (x2.2 (x2.1 - 15)) 7) ^^^ (rot (x2.2 (x2.1 - 15)) 18)) ^^^ (shr32 (x2.2 (x2.1 - 15)) 3))) + (((rot (x2.2 (x2.1 - 2)) 17) ^^^ (rot (x2.2 (x2.1 - 2)) 19)) ^^^ (shr32 (x2.2 (x2.1 - 2)) 10))))))) tV)))))))))))))))))))))))))))))) (aI (sk (aI (aT (@is_addn Tryd.prog 3 3 (.tmp 28) (.const (.int .i64 1))  x2.1 1 (show x2.1 + 1 ≤ 9223372036854775807 from by omega))) (sk tV))) ((rnd (spread_pure_R2 b n1 n2 n3 x1) (spread_pure_S2 b n1 n2 n3 x1) (spread_pure_mu2 b n1 n2 n3 x1) x2 ((x2.1 + 1, upd x2.2 x2.1 ((((x2.2 (x2.1 - 16)) + (x2.2 (x2.1 - 7))) + (((rot (x2.2 (x2.1 - 15)) 7) ^^^ (rot (x2.2 (x2.1 - 15)) 18)) ^^^ (shr32 (x2.2 (x2.1 - 15)) 3))) + (((rot (x2.2 (x2.1 - 2)) 17) ^^^ (rot (x2.2 (x2.1 - 2)) 19)) ^^^ (shr32 (x2.2 (x2.1 - 2)) 10)))) : Nat × (Nat → UInt32)) (show (spread_pure_R2 b n1 n2 n3 x1) ((x2.1 + 1, upd x2.2 x2.1 ((((x2.2 (x2.1 - 16)) + (x2.2 (x2.1 - 7))) + (((rot (x2.2 (x2.1 - 15)) 7) ^^^ (rot (x2.2 (x2.1 - 15)) 18)) ^^^ (shr32 (x2.2 (x2.1 - 15)) 3))) + (((rot (x2.2 (x2.1 - 2)) 17) ^^^ (rot (x2.2 (x2.1 - 2)) 19)) ^^^ (shr32 (x2.2 (x2.1 - 2)) 10)))) : Nat × (Nat → UInt32)) ∧ (spread_pure_mu2 b n1 n2 n3 x1) ((x2.1 + 1, upd x2.2 x2.1 ((((x2.2 (x2.1 - 16)) + (x2.2 (x2.1 - 7))) + (((rot (x2.2 (x2.1 - 15)) 7) ^^^ (rot (x2.2 (x2.1 - 15)) 18)) ^^^ (shr32 (x2.2 (x2.1 - 15)) 3))) + (((rot (x2.2 (x2.1 - 2)) 17) ^^^ (rot (x2.2 (x2.1 - 2)) 19)) ^^^ (shr32 (x2.2 (x2.1 - 2)) 10)))) : Nat × (Nat → UInt32)) < (spread_pure_mu2 b n1 n2 n3 x1) x2 from (show ((16 ≤ (x2.1 + 1)) ∧ ((x2.1 + 1) ≤ 64) ∧ ((upd x2.2 x2.1 ((((x2.2 (x2.1 - 16)) + (x2.2 (x2.1 - 7))) + (((rot (x2.2 (x2.1 - 15)) 7) ^^^ (rot (x2.2 (x2.1 - 15)) 18)) ^^^ (shr32 (x2.2 (x2.1 - 15)) 3))) + (((rot (x2.2 (x2.1 - 2)) 17) ^^^ (rot (x2.2 (x2.1 - 2)) 19)) ^^^ (shr32 (x2.2 (x2.1 - 2)) 10)))) = sp2 b ((x2.1 + 1) - 16))) ∧ (64 - (x2.1 + 1)) < (64 - x2.1) from by exact ⟨⟨by omega, by omega, sp_step C0 C2⟩, by omega⟩))))))) (fun (h2 : (decide (x2.1 < 64)) = false) => have f6 := (oF h2); aI (to_litF 64 (fun k => u32 (x2.2 k))) (aI (aI (aT (ad n3 0)) (aI (aT (ad n2 0)) tV)) (aI (aI (@rfl Value (ptr n2 0)) tV) ((show (vecV 64 (fun k => u32 (x2.2 k))) = vecV 64 (fun k => u32 (sprW b k)) from by have e0 : x2.1 = 64 := (by omega); rw [C2, e0] <;> rfl)))))))))))))))))))))
theorem round_vec (s : Nat → UInt32) (add : UInt32) : Pure Tryd.prog 53 [vecV 8 fun k => u32 (s k), u32 add] (vecV 8 fun k => u32 (rndF s add k)) := round_pure (w8F s) add
def mix_fam_S1 (s : Nat → UInt32) (b : Nat → UInt8) (n1 : Nat) (n2 : Nat) (n3 : Nat) (n4 : Nat) (n5 : Nat) (x1 : Nat × (Nat → UInt32)) : St := ⟨[(2, .v (ptr n1 0)), (4, .v (ptr n3 0)), (5, .v (ptr n4 0)), (6, .v (ptr n5 0)), (12, .v (nat x1.1))], [(0, some ⟨n1, true, 0, (litF 8 (fun k => u32 (s k)))⟩), (1, some ⟨n2, true, 0, (litF 64 (fun k => u8 (b k)))⟩), (2, some ⟨n3, true, 0, (.lit [(u32 0), (u32 0), (u32 0), (u32 0), (u32 0), (u32 0), (u32 0), (u32 0)])⟩), (3, some ⟨n4, true, 0, (tabF 64 (fun k => u32 (sprW b k)))⟩), (4, some ⟨n5, true, 0, (litF 8 (fun k => u32 (x1.2 k)))⟩)], 5⟩
def mix_fam_R1 (s : Nat → UInt32) (b : Nat → UInt8) (n1 : Nat) (n2 : Nat) (n3 : Nat) (n4 : Nat) (n5 : Nat) (x1 : Nat × (Nat → UInt32)) : Prop := (x1.1 ≤ 64) ∧ (x1.2 = mixR s (sprW b) x1.1)
def mix_fam_mu1 (s : Nat → UInt32) (b : Nat → UInt8) (n1 : Nat) (n2 : Nat) (n3 : Nat) (n4 : Nat) (n5 : Nat) (x1 : Nat × (Nat → UInt32)) : Nat := 64 - x1.1
def mix_fam_S2 (s : Nat → UInt32) (b : Nat → UInt8) (n1 : Nat) (n2 : Nat) (n3 : Nat) (n4 : Nat) (n5 : Nat) (x1 : Nat × (Nat → UInt32)) (x2 : Nat × (Nat → UInt32)) : St := ⟨[(2, .v (ptr n1 0)), (4, .v (ptr n3 0)), (6, .v (ptr n5 0)), (25, .v (nat x2.1))], [(0, some ⟨n1, true, 0, (tabF 8 (fun k => u32 (s k)))⟩), (1, some ⟨n2, true, 0, (litF 64 (fun k => u8 (b k)))⟩), (2, some ⟨n3, true, 0, (.lit [(u32 0), (u32 0), (u32 0), (u32 0), (u32 0), (u32 0), (u32 0), (u32 0)])⟩), (3, some ⟨n4, true, 0, (tabF 64 (fun k => u32 (sprW b k)))⟩), (4, some ⟨n5, true, 0, (tabF 8 (fun k => u32 (x2.2 k)))⟩)], 5⟩
def mix_fam_R2 (s : Nat → UInt32) (b : Nat → UInt8) (n1 : Nat) (n2 : Nat) (n3 : Nat) (n4 : Nat) (n5 : Nat) (x1 : Nat × (Nat → UInt32)) (x2 : Nat × (Nat → UInt32)) : Prop := (x2.1 ≤ 8) ∧ (x2.2 = addR s (mixR s (sprW b) 64) x2.1)
def mix_fam_mu2 (s : Nat → UInt32) (b : Nat → UInt8) (n1 : Nat) (n2 : Nat) (n3 : Nat) (n4 : Nat) (n5 : Nat) (x1 : Nat × (Nat → UInt32)) (x2 : Nat × (Nat → UInt32)) : Nat := 8 - x2.1
theorem mix_fam (s : Nat → UInt32) (b : Nat → UInt8) : RunsF famT Tryd.prog 41 [(vecV 8 (fun k => u32 (s k))), (vecV 64 (fun k => u8 (b k)))] [] 0 (fun (_ : List Nat) => vecV 8 fun k => u32 (mixS s b k)) (fun (_ : List Nat) => []) :=
  runsF_of_ev (F := famT) mix Tryd.func41 rfl rfl 400 (.regn [(0, .new), (1, .new), (2, .new)] (more (fun n1 => more (fun n2 => more (fun n3 => fun _ => (.regn [(0, (.ld 1 (.lit 0))), (1, (.call [] 0 0 (fun _ => (vecV 64 (fun k => u32 (sprW b k)))) (fun _ => []))), (2, .new), (3, (.st 3 (.lit 0)))] (more (fun n4 => fun _ => (.regn [(0, (.ld 0 (.lit 0))), (1, .new), (2, (.st 4 (.lit 0)))] (more (fun n5 => fun _ => (.reg [(0, .g)] (.cast 3 (tabF 64 (fun k => u32 (sprW b k))) (.inv [2, 4, 5, 6, 12] [0, 1, 2, 3, 4] 5 (mix_fam_R1 s b n1 n2 n3 n4 n5) (mix_fam_S1 s b n1 n2 n3 n4 n5) (mix_fam_mu1 s b n1 n2 n3 n4 n5) ((0, s) : Nat × (Nat → UInt32)) (fun (x1 : Nat × (Nat → UInt32)) => (.reg [(0, (.as (Value.bool (decide (x1.1 < 64)))))] (.br (.reg [(0, .g), (1, .g)] (.openr rndB (.reg [(0, (.ld 4 (.lit 0))), (1, .g), (2, (.as (ptr 1 (0 + x1.1 * 1)))), (3, (.ld 5 (.tab x1.1 0))), (4, .g), (5, (.as (ptr n4 (0 + x1.1 * 1)))), (6, (.ld 3 (.tab x1.1 0))), (7, (.as (u32 ((rndW x1.1) + (sprW b x1.1))))), (8, (.call [] 0 0 (fun _ => (vecV 8 (fun k => u32 (rndF x1.2 ((rndW x1.1) + (sprW b x1.1)) k)))) (fun _ => []))), (9, (.st 4 (.lit 0)))] (.reg [(0, (.as (nat (x1.1 + 1)))), (1, .g)] .done)))) (.reg [(0, .g)] (.cast 0 (tabF 8 (fun k => u32 (s k))) (.cast 4 (tabF 8 (fun k => u32 (x1.2 k))) (.inv [2, 4, 6, 25] [0, 1, 2, 3, 4] 5 (mix_fam_R2 s b n1 n2 n3 n4 n5 x1) (mix_fam_S2 s b n1 n2 n3 n4 n5 x1) (mix_fam_mu2 s b n1 n2 n3 n4 n5 x1) ((0, x1.2) : Nat × (Nat → UInt32)) (fun (x2 : Nat × (Nat → UInt32)) => (.reg [(0, (.as (Value.bool (decide (x2.1 < 8)))))] (.br (.reg [(0, .g), (1, .g)] (.reg [(0, .g), (1, (.as (ptr n5 (0 + x2.1 * 1)))), (2, (.ld 4 (.tab x2.1 0))), (3, .g), (4, (.as (ptr n1 (0 + x2.1 * 1)))), (5, (.ld 0 (.tab x2.1 0))), (6, (.as (u32 ((x2.2 x2.1) + (s x2.1))))), (7, (.as (ptr n5 (0 + x2.1 * 1)))), (8, (.stc 4 (.tab x2.1 0) (tabF 8 (fun k => u32 (upd x2.2 x2.1 ((x2.2 x2.1) + (s x2.1)) k)))))] (.reg [(0, (.as (nat (x2.1 + 1)))), (1, .g)] .done))) (.cast 4 (litF 8 (fun k => u32 (x2.2 k))) (.reg [(0, (.ld 4 (.lit 0))), (1, (.st 2 (.lit 0)))] .done)))))))))))))))))))))))))) [(2, 0)] [] rfl
    (Eq.mp (by kernel_rfl) (fun (n1 n2 n3 : Nat) => aI (sk (sk (sk tV))) (fun (n4 : Nat) => aI (aI (aT (ad n2 0)) (aI (aT (spread_pure b)) (sk (aI (aT (ad n4 0)) tV)))) (fun (n5 : Nat) => aI (aI (aT (ad n1 0)) (sk (aI (aT (ad n5 0)) tV))) (aI (sk tV) (aI (to_tabF 64 (fun k => u32 (sprW b k))) (aI (show (mix_fam_R1 s b n1 n2 n3 n4 n5) ((0, s) : Nat × (Nat → UInt32)) from (show (0 ≤ 64) ∧ (s = mixR s (sprW b) 0) from by exact ⟨by omega, rfl⟩)) (aI (@rfl St ((mix_fam_S1 s b n1 n2 n3 n4 n5) ((0, s) : Nat × (Nat → UInt32)))) (fun (x1 : Nat × (Nat → UInt32)) (hx1 : (mix_fam_R1 s b n1 n2 n3 n4 n5) x1) => have B0 : x1.1 ≤ 64 := hx1.1; have B1 : x1.2 = mixR s (sprW b) x1.1 := hx1.2; aI (aI (aT (@is_lssn Tryd.prog 3 3 (.tmp 12) (.const (.int .i64 64))  x1.1 64)) tV) (aT (aI (fun (h1 : (decide (x1.1 < 64)) = true) => have f2 := (oT h1); aI (sk (sk tV)) (aI (Or.inr rfl : famT rndB) (aI (aI (aT (ad n5 0)) (sk (aI (aT (@is_ixArr Tryd.prog 108 51 (.global 1) (.tmp 16) 1 64 (by kernel_rfl) (by kernel_rfl) 1 0 x1.1 (show x1.1 < 64 from by omega))) (aI (aT (aI (show x1.1 < 64 from by omega) (@rfl Value (ptr 1 (0 + x1.1 * 1))))) (sk (aI (aT (@is_ixArr Tryd.prog 108 51 (.tmp 5) (.tmp 19) 1 64 (by kernel_rfl) (by kernel_rfl) n4 0 x1.1 (show x1.1 < 64 from by omega))) (aI (aT (aI (show x1.1 < 64 from by omega) (@rfl Value (ptr n4 (0 + x1.1 * 1))))) (aI (aT (@is_add32 Tryd.prog 51 51 (.tmp 18) (.tmp 21) (rndW x1.1) (sprW b x1.1))) (aI (aT (round_vec x1.2 ((rndW x1.1) + (sprW b x1.1)))) (aI (aT (ad n5 0)) tV)))))))))) (aI (aI (aT (@is_addn Tryd.prog 3 3 (.tmp 12) (.const (.int .i64 1))  x1.1 1 (show x1.1 + 1 ≤ 9223372036854775807 from by omega))) (sk tV)) ((rnd (mix_fam_R1 s b n1 n2 n3 n4 n5) (mix_fam_S1 s b n1 n2 n3 n4 n5) (mix_fam_mu1 s b n1 n2 n3 n4 n5) x1 ((x1.1 + 1, (rndF x1.2 ((rndW x1.1) + (sprW b x1.1)))) : Nat × (Nat → UInt32)) (show (mix_fam_R1 s b n1 n2 n3 n4 n5) ((x1.1 + 1, (rndF x1.2 ((rndW x1.1) + (sprW b x1.1)))) : Nat × (Nat → UInt32)) ∧ (mix_fam_mu1 s b n1 n2 n3 n4 n5) ((x1.1 + 1, (rndF x1.2 ((rndW x1.1) + (sprW b x1.1)))) : Nat × (Nat → UInt32)) < (mix_fam_mu1 s b n1 n2 n3 n4 n5) x1 from (show (((x1.1 + 1) ≤ 64) ∧ ((rndF x1.2 ((rndW x1.1) + (sprW b x1.1))) = mixR s (sprW b) (x1.1 + 1))) ∧ (64 - (x1.1 + 1)) < (64 - x1.1) from by exact ⟨⟨by omega, by rw [B1] <;> rfl⟩, by omega⟩)))))))) (fun (h1 : (decide (x1.1 < 64)) = false) => have f2 := (oF h1); aI (sk tV) (aI (to_tabF 8 (fun k => u32 (s k))) (aI (to_tabF 8 (fun k => u32 (x1.2 k))) (aI (show (mix_fam_R2 s b n1 n2 n3 n4 n5 x1) ((0, x1.2) : Nat × (Nat → UInt32)) from (show (0 ≤ 8) ∧ (x1.2 = addR s (mixR s (sprW b) 64) 0) from by exact ⟨by omega, by rw [B1, show x1.1 = 64 by omega] <;> rfl⟩)) (aI (@rfl St ((mix_fam_S2 s b n1 n2 n3 n4 n5 x1) ((0, x1.2) : Nat × (Nat → UInt32)))) (fun (x2 : Nat × (Nat → UInt32)) (hx2 : (mix_fam_R2 s b n1 n2 n3 n4 n5 x1) x2) => have C0 := hx2.1; have C1 := hx2.2; aI (aI (aT (@is_lssn Tryd.prog 3 3 (.tmp 25) (.const (.int .i64 8))  x2.1 8)) tV) (aT (aI (fun (h2 : (decide (x2.1 < 8)) = true) => have f5 := (oT h2); aI (sk (sk tV)) (aI (sk (aI (aT (@is_ixArr Tryd.prog 90 51 (.tmp 6) (.tmp 28) 1 8 (by kernel_rfl) (by kernel_rfl) n5 0 x2.1 (show x2.1 < 8 from by omega))) (aI (aT (aI (show x2.1 < 8 from by omega) (@rfl Value (ptr n5 (0 + x2.1 * 1))))) (sk (aI (aT (@is_ixArr Tryd.prog 90 51 (.tmp 2) (.tmp 31) 1 8 (by kernel_rfl) (by kernel_rfl) n1 0 x2.1 (show x2.1 < 8 from by omega))) (aI (aT (aI (show x2.1 < 8 from by omega) (@rfl Value (ptr n1 (0 + x2.1 * 1))))) (aI (aT (@is_add32 Tryd.prog 51 51 (.tmp 30) (.tmp 33) (x2.2 x2.1) (s x2.1))) (aI (aT (@is_ixArr Tryd.prog 90 51 (.tmp 6) (.tmp 28) 1 8 (by kernel_rfl) (by kernel_rfl) n5 0 x2.1 (show x2.1 < 8 from by omega))) (aI (aT (aI (show x2.1 < 8 from by omega) (aI (@rfl Value (ptr n5 (0 + x2.1 * 1))) (store_tabF 8 u32 x2.2 x2.1 ((x2.2 x2.1) + (s x2.1)))))) tV))))))))) (aI (aI (aT (@is_addn Tryd.prog 3 3 (.tmp 25) (.const (.int .i64 1))  x2.1 1 (show x2.1 + 1 ≤ 9223372036854775807 from by omega))) (sk tV)) ((rnd (mix_fam_R2 s b n1 n2 n3 n4 n5 x1) (mix_fam_S2 s b n1 n2 n3 n4 n5 x1) (mix_fam_mu2 s b n1 n2 n3 n4 n5 x1) x2 ((x2.1 + 1, upd x2.2 x2.1 ((x2.2 x2.1) + (s x2.1))) : Nat × (Nat → UInt32)) (show (mix_fam_R2 s b n1 n2 n3 n4 n5 x1) ((x2.1 + 1, upd x2.2 x2.1 ((x2.2 x2.1) + (s x2.1))) : Nat × (Nat → UInt32)) ∧ (mix_fam_mu2 s b n1 n2 n3 n4 n5 x1) ((x2.1 + 1, upd x2.2 x2.1 ((x2.2 x2.1) + (s x2.1))) : Nat × (Nat → UInt32)) < (mix_fam_mu2 s b n1 n2 n3 n4 n5 x1) x2 from (show (((x2.1 + 1) ≤ 8) ∧ ((upd x2.2 x2.1 ((x2.2 x2.1) + (s x2.1))) = addR s (mixR s (sprW b) 64) (x2.1 + 1))) ∧ (8 - (x2.1 + 1)) < (8 - x2.1) from by exact ⟨⟨by omega, by rw [C1] <;> rfl⟩, by omega⟩))))))) (fun (h2 : (decide (x2.1 < 8)) = false) => have f5 := (oF h2); aI (to_litF 8 (fun k => u32 (x2.2 k))) (aI (aI (aT (ad n5 0)) (aI (aT (ad n3 0)) tV)) (aI (aI (@rfl Value (ptr n3 0)) tV) (eX (fun (ns : List Nat) => ns.length = 0 ∧ ((vecV 8 (fun k => u32 (x2.2 k))) : Value) = (fun (_ : List Nat) => vecV 8 fun k => u32 (mixS s b k)) ns ∧ ([] : List (Option Blk)) = (fun (_ : List Nat) => []) ns) [] (aI (@rfl Nat 0) (aI ((show (vecV 8 (fun k => u32 (x2.2 k))) = vecV 8 (fun k => u32 (mixS s b k)) from by have e0 : x2.1 = 8 := (by omega); rw [C1, e0] <;> rfl)) (@rfl (List (Option Blk)) []))))))))))))))))))))))))))
end Go.Proofs.YtnkokocpchedkaaDoor
end
section
namespace Go.Eng
structure HS where
  s : Nat → UInt32
  l : Nat → UInt8
  n : UInt64
def hashL (H : HS) : List Value := (List.range 8).map (fun k => u32 (H.s k)) ++ ((List.range 64).map (fun k => u8 (H.l k)) ++ [u64 H.n])
def hashC (H : HS) : Cont := .lit (hashL H)
theorem hashL_length (H : HS) : (hashL H).length = 73 := by simp [hashL]
theorem hash_get (H : HS) (k : Nat) : (hashL H)[k]? = if k < 8 then some (u32 (H.s k)) else if k < 72 then some (u8 (H.l (k - 8))) else if k = 72 then some (u64 H.n) else none := by
  unfold hashL
  by_cases h1 : k < 8
  · rw [if_pos h1, List.getElem?_append_left (by simpa using h1), List.getElem?_map, List.getElem?_range h1]; rfl
  rw [if_neg h1, List.getElem?_append_right (by simp; omega)]
  simp only [List.length_map, List.length_range]
  by_cases h2 : k < 72
  · rw [if_pos h2, List.getElem?_append_left (by simp; omega), List.getElem?_map, List.getElem?_range (by omega)]; rfl
  rw [if_neg h2, List.getElem?_append_right (by simp; omega)]
  simp only [List.length_map, List.length_range]
  by_cases h3 : k = 72
  · subst h3; rfl
  · rw [if_neg h3]
    rw [List.getElem?_eq_none (by simp; omega)]
def cpyL {α : Type} (l : Nat → α) (i n : Nat) (g : Nat → α) : Nat → α := fun k => if i ≤ k ∧ k < i + n then g (k - i) else l k
theorem cpyL_zero {α : Type} (l : Nat → α) (i : Nat) (g : Nat → α) : cpyL l i 0 g = l := by
  funext k; unfold cpyL; rw [if_neg (by omega)]
theorem cpyL_succ {α : Type} (l : Nat → α) (i n : Nat) (g : Nat → α) : upd (cpyL l i n g) (i + n) (g n) = cpyL l i (n + 1) g := by
  funext k; unfold upd cpyL
  by_cases h : k = i + n
  · subst h; rw [if_pos rfl, if_pos (by omega), Nat.add_sub_cancel_left]
  · rw [if_neg h]
    by_cases h2 : i ≤ k ∧ k < i + n
    · rw [if_pos h2, if_pos (by omega)]
    · rw [if_neg h2, if_neg (by omega)]
theorem splice_last (H : HS) (i n : Nat) (g : Nat → UInt8) (h : i + n ≤ 64) : splice (hashL H) (8 + i) ((List.range n).map fun j => u8 (g j)) = hashL ⟨H.s, cpyL H.l i n g, H.n⟩ := by
  apply List.ext_getElem?
  intro k
  rw [splice_get _ _ _ (by rw [hashL_length]; simp; omega), hash_get, hash_get]
  simp only [List.length_map, List.length_range]
  by_cases h1 : 8 + i ≤ k ∧ k < 8 + i + n
  · rw [if_pos h1, map_get u8 g n _ (by omega), if_neg (by omega), if_pos (by omega)]
    simp only [cpyL]
    rw [if_pos (by omega), show k - 8 - i = k - (8 + i) by omega]
  · rw [if_neg h1]
    by_cases h2 : k < 8
    · rw [if_pos h2, if_pos h2]
    · rw [if_neg h2, if_neg h2]
      by_cases h3 : k < 72
      · rw [if_pos h3, if_pos h3]
        simp only [cpyL]
        rw [if_neg (by omega)]
      · rw [if_neg h3, if_neg h3]
theorem splice_words (H : HS) (g : Nat → UInt32) : splice (hashL H) 0 ((List.range 8).map fun j => u32 (g j)) = hashL ⟨g, H.l, H.n⟩ := by
  apply List.ext_getElem?
  intro k
  rw [splice_get _ _ _ (by rw [hashL_length]; simp), hash_get, hash_get]
  simp only [List.length_map, List.length_range, Nat.zero_add, Nat.zero_le, true_and, Nat.sub_zero]
  by_cases h1 : k < 8
  · rw [if_pos h1, map_get u32 g 8 _ h1, if_pos h1]
  · rw [if_neg h1, if_neg h1, if_neg h1]
theorem splice_num (H : HS) (m : UInt64) : splice (hashL H) 72 [u64 m] = hashL ⟨H.s, H.l, m⟩ := by
  apply List.ext_getElem?
  intro k
  rw [splice_get _ _ _ (by rw [hashL_length]; simp), hash_get, hash_get]
  simp only [List.length_singleton]
  by_cases h1 : 72 ≤ k ∧ k < 72 + 1
  · obtain rfl : k = 72 := by omega
    rfl
  · rw [if_neg h1]
    by_cases h2 : k < 8
    · rw [if_pos h2, if_pos h2]
    · rw [if_neg h2, if_neg h2]
      by_cases h3 : k < 72
      · rw [if_pos h3, if_pos h3]
      · rw [if_neg h3, if_neg h3, if_neg (by omega), if_neg (by omega)]
theorem all_one {α : Type} (K : α → Value) (hK : ∀ a, Value.oneCell' (K a) = true) (g : Nat → α) (n : Nat) : ((List.range n).map fun j => K (g j)).all Value.oneCell' = true := by
  rw [List.all_eq_true]; intro x hx; obtain ⟨j, _, rfl⟩ := List.mem_map.1 hx; exact hK _
theorem store_lit {D cs D' : List Value} {o : Nat} (h : o + cs.length ≤ D.length) (he : splice D o cs = D') : (Cont.lit D).store (.lit o) cs = some (.lit D') := by
  show (match Nat.ble (o + cs.length) D.length with
    | true => some (Cont.lit (splice D o cs))
    | false => none) = _
  rw [Nat.ble_eq_true_of_le h, he]
theorem st_words (H : HS) (g : Nat → UInt32) : (hashC H).store (.lit 0) (vecV 8 fun k => u32 (g k)).cells.toList = some (hashC ⟨g, H.l, H.n⟩) :=
  store_lit (by rw [hashL_length]; exact Nat.le_of_ble_eq_true rfl) (splice_words H g)
theorem st_num (H : HS) (m : UInt64) : (hashC H).store (.lit 72) (u64 m).cells.toList = some (hashC ⟨H.s, H.l, m⟩) :=
  store_lit (by rw [hashL_length]; exact Nat.le_of_ble_eq_true rfl) (splice_num H m)
section
variable {P : Program} {dT sT ty e : TypeId}
theorem srun_cpLast (hu : P.underlying dT = some (.slice e)) (hs : sizeB P e = some 1) (H : HS) (g : Nat → UInt8) (b k bs os i sl sc dc : Nat) (N : Nat) (hi : i < 64) (hN : os + sl ≤ N) :
    SRuns P (copySem dT sT ty (.slice (some ⟨b, 8 + i, none⟩) (64 - i) dc) (.slice (some ⟨k, bs + os, none⟩) sl sc)) [⟨b, true, 0, hashC H⟩, ⟨k, false, bs, tabF N fun j => u8 (g j)⟩] 0 (fun _ => nat (min sl (64 - i)))
      (fun _ => [some ⟨b, true, 0, hashC ⟨H.s, cpyL H.l i (min sl (64 - i)) (fun j => g (os + j)), H.n⟩⟩, none]) := by
  have h := srun_copyG (P := P) (dT := dT) (sT := sT) (ty := ty) (e := e) (n := b) (k := k) (od := 8 + i) (dl := 64 - i) (dc := dc) (bs := bs) (os := os) (sl := sl) (sc := sc)
    (D := hashL H) (cs := (List.range (min sl (64 - i))).map fun j => u8 (g (os + j))) (S := tabF N fun j => u8 (g j)) hu hs (fun j hj => by
      have hj' : j < min sl (64 - i) := by simpa using hj
      rw [tabF_in (by omega), map_get u8 (fun j => g (os + j)) _ _ hj']) (by simp) (all_one u8 (fun _ => rfl) _ _)
    (store_lit (by rw [hashL_length]; simp; omega) (splice_last H i (min sl (64 - i)) (fun j => g (os + j)) (by omega)))
  rw [show ((List.range (min sl (64 - i))).map fun j => u8 (g (os + j))).length = min sl (64 - i) by simp] at h
  exact h
theorem srun_cpWords (hu : P.underlying dT = some (.slice e)) (hs : sizeB P e = some 1) (H G : HS) (b k : Nat) :
    SRuns P (copySem dT sT ty (.slice (some ⟨b, 0, none⟩) 8 8) (.slice (some ⟨k, 0, none⟩) 8 8)) [⟨b, true, 0, hashC H⟩, ⟨k, false, 0, hashC G⟩] 0 (fun _ => nat 8)
      (fun _ => [some ⟨b, true, 0, hashC ⟨G.s, H.l, H.n⟩⟩, none]) :=
  srun_copyG (P := P) (dT := dT) (sT := sT) (ty := ty) (e := e) (n := b) (k := k) (od := 0) (dl := 8) (dc := 8) (bs := 0) (os := 0) (sl := 8) (sc := 8)
    (D := hashL H) (cs := (List.range 8).map fun j => u32 (G.s j)) (S := hashC G) hu hs (fun j hj => by
      have hj' : j < 8 := by simpa using hj
      rw [map_get u32 G.s _ _ hj']; show (hashL G)[0 + j]? = _; rw [hash_get, if_pos (by omega), Nat.zero_add]) (by simp) (all_one u32 (fun _ => rfl) _ _)
    (store_lit (by rw [hashL_length]; simp) (splice_words H G.s))
theorem srun_cpBytes (hu : P.underlying dT = some (.slice e)) (hs : sizeB P e = some 1) (H G : HS) (b k : Nat) :
    SRuns P (copySem dT sT ty (.slice (some ⟨b, 8, none⟩) 64 64) (.slice (some ⟨k, 8, none⟩) 64 64)) [⟨b, true, 0, hashC H⟩, ⟨k, false, 0, hashC G⟩] 0 (fun _ => nat 64)
      (fun _ => [some ⟨b, true, 0, hashC ⟨H.s, cpyL H.l 0 64 G.l, H.n⟩⟩, none]) :=
  srun_copyG (P := P) (dT := dT) (sT := sT) (ty := ty) (e := e) (n := b) (k := k) (od := 8) (dl := 64) (dc := 64) (bs := 0) (os := 8) (sl := 64) (sc := 64)
    (D := hashL H) (cs := (List.range 64).map fun j => u8 (G.l j)) (S := hashC G) hu hs (fun j hj => by
      have hj' : j < 64 := by simpa using hj
      rw [map_get u8 G.l _ _ hj']; show (hashL G)[8 + j]? = _; rw [hash_get, if_neg (by omega), if_pos (by omega), Nat.add_sub_cancel_left]) (by simp) (all_one u8 (fun _ => rfl) _ _)
    (store_lit (by rw [hashL_length]; simp) (splice_last H 0 64 G.l (by omega)))
theorem is_slArrN {t : TypeId} {x y : Operand} {n : Nat} (ht : P.underlying t = some (.array n e)) (hs : sizeB P e = some 1) (b o i : Nat) (k : IntKind) (hi : i < n) :
    IsOp P (.slice t x (some y) none none) [ptr b o, .int k (i : Int)] (.slice (some ⟨b, o + i, none⟩) (n - i) (n - i)) := by
  have h := is_slArr (x := x) (y := y) ht hs b o i k (by omega)
  rwa [if_neg (by omega)] at h
end
def put (H : HS) (x : UInt8) : HS :=
  if (H.n + 1) % 64 = 0 then ⟨mixS H.s (upd H.l (H.n % 64).toNat x), upd H.l (H.n % 64).toNat x, H.n + 1⟩ else ⟨H.s, upd H.l (H.n % 64).toNat x, H.n + 1⟩
def puts (H : HS) (f : Nat → UInt8) : Nat → HS
  | 0 => H
  | k + 1 => put (puts H f k) (f k)
theorem puts_add (H : HS) (f : Nat → UInt8) (a : Nat) : ∀ b, puts H f (a + b) = puts (puts H f a) (fun k => f (a + k)) b
  | 0 => rfl
  | b + 1 => by show put (puts H f (a + b)) (f (a + b)) = put _ (f (a + b)); rw [puts_add H f a b]
theorem puts_congr (H : HS) {f g : Nat → UInt8} : ∀ {n : Nat}, (∀ k, k < n → f k = g k) → puts H f n = puts H g n
  | 0, _ => rfl
  | n + 1, h => by rw [puts, puts, puts_congr H (fun k hk => h k (by omega)), h n (by omega)]
theorem n64_lt (n : UInt64) : (n % 64).toNat < 64 := by
  rw [UInt64.toNat_mod]; exact Nat.mod_lt _ (by decide)
theorem n64_add (n : UInt64) (k : Nat) (h : (n % 64).toNat + k < 64) : ((n + UInt64.ofNat k) % 64).toNat = (n % 64).toNat + k := by
  have h1 : (64 : UInt64).toNat = 64 := rfl
  rw [UInt64.toNat_mod, h1] at h
  rw [UInt64.toNat_mod, UInt64.toNat_mod, h1]
  rw [UInt64.toNat_add, UInt64.toNat_ofNat']
  have := n.toNat_lt
  omega
theorem n64_end (n : UInt64) (k : Nat) (h : (n % 64).toNat + k = 64) : (n + UInt64.ofNat k) % 64 = 0 := by
  apply UInt64.toNat_inj.1
  have h1 : (64 : UInt64).toNat = 64 := rfl
  rw [UInt64.toNat_mod, h1] at h ⊢
  rw [UInt64.toNat_add, UInt64.toNat_ofNat']
  have := n.toNat_lt
  show _ = 0
  omega
theorem n_succ (n : UInt64) (k : Nat) : n + UInt64.ofNat k + 1 = n + UInt64.ofNat (k + 1) := by
  apply UInt64.toNat_inj.1
  simp only [UInt64.toNat_add, UInt64.toNat_ofNat']
  have h1 : (1 : UInt64).toNat = 1 := rfl
  rw [h1]
  omega
theorem puts_mid (H : HS) (g : Nat → UInt8) : ∀ {k : Nat}, (H.n % 64).toNat + k < 64 → puts H g k = ⟨H.s, cpyL H.l (H.n % 64).toNat k g, H.n + UInt64.ofNat k⟩
  | 0, _ => by
    rw [puts, cpyL_zero]
    show H = ⟨H.s, H.l, H.n + 0⟩
    rw [UInt64.add_zero]
  | k + 1, h => by
    have hz : ¬ (H.n + UInt64.ofNat (k + 1)) % 64 = 0 := fun e => by
      have h1 := n64_add H.n (k + 1) (by omega)
      rw [e] at h1
      have h2 : (0 : UInt64).toNat = 0 := rfl
      omega
    rw [puts, puts_mid H g (by omega), put]
    simp only [n_succ]
    rw [if_neg hz, n64_add H.n k (by omega), cpyL_succ]
theorem puts_end (H : HS) (g : Nat → UInt8) {k : Nat} (h : (H.n % 64).toNat + k = 64) : puts H g k = ⟨mixS H.s (cpyL H.l (H.n % 64).toNat k g), cpyL H.l (H.n % 64).toNat k g, H.n + UInt64.ofNat k⟩ := by
  have := n64_lt H.n
  obtain ⟨k, rfl⟩ : ∃ j, k = j + 1 := ⟨k - 1, by omega⟩
  rw [puts, puts_mid H g (by omega), put]
  simp only [n_succ]
  rw [if_pos (n64_end H.n (k + 1) h), n64_add H.n k (by omega), cpyL_succ]
theorem wr_no {H : HS} {g : Nat → UInt8} {k m : Nat} (hk : k = min m (64 - (H.n % 64).toNat)) (h : ((H.n + UInt64.ofNat k) % 64 == 0) = false) : (HS.mk H.s (cpyL H.l (H.n % 64).toNat k g) (H.n + UInt64.ofNat k)) = puts H g k := by
  have := n64_lt H.n
  rw [puts_mid]
  rcases Nat.lt_or_ge ((H.n % 64).toNat + k) 64 with h1 | h1
  · exact h1
  · rw [n64_end H.n k (by omega)] at h
    cases h
theorem wr_yes {H : HS} {g : Nat → UInt8} {k m : Nat} (hm : 0 < m) (hk : k = min m (64 - (H.n % 64).toNat)) (h : ((H.n + UInt64.ofNat k) % 64 == 0) = true) : (HS.mk (mixS H.s (cpyL H.l (H.n % 64).toNat k g)) (cpyL H.l (H.n % 64).toNat k g) (H.n + UInt64.ofNat k)) = puts H g k := by
  have := n64_lt H.n
  rw [puts_end]
  rcases Nat.lt_or_ge ((H.n % 64).toNat + k) 64 with h1 | h1
  · exfalso
    have h2 := n64_add H.n k h1
    rw [beq_iff_eq.1 h] at h2
    have h3 : (0 : UInt64).toNat = 0 := rfl
    omega
  · omega
def wakeH (H : HS) : HS := if (H.n == 0) = true then ⟨begW, H.l, H.n⟩ else H
def wrH (H : HS) (f : Nat → UInt8) (n : Nat) : HS := puts (wakeH H) f n
def famTB (b : BytL) (x : Blk) : Prop := famT x ∨ famB b x
end Go.Eng
end
section
namespace Go.Eng
open Go.RowKit Go.WideShapes Go.ChangeShapes Go.ChangeAt Go.Deep
structure BytS where
  wa : Option Addr
  wn : Nat
  wc : Nat
  wb : Nat
  wo : Nat
  wf : Nat → BytL
def bysB (q : BytS) : Blk := ⟨q.wb, false, q.wo, tabF q.wn fun k => slqV (q.wf k)⟩
structure OkS (q : BytS) : Prop where
  cap : q.wn ≤ q.wc
  ad : 0 < q.wn → q.wa = some ⟨q.wb, q.wo, none⟩
  len : q.wn ≤ 9223372036854775807
  el : ∀ k, k < q.wn → OkB (q.wf k)
def famS (q : BytS) (b : Blk) : Prop := (0 < q.wn ∧ b = bysB q) ∨ ∃ k, k < q.wn ∧ famB (q.wf k) b
section
variable {H : Type} {enc : TypeId × Value → H} {P : Program}
theorem int_cell {W : World} {base : Nat} {sp : Nat → Bool} {held : Bool} {i : TypeId} (hi : P.underlying i = some (.int .i64)) {c : Value} {fuel : Nat} {z : DataW H × List MemPlace} (h : DataW.trod enc P W base sp held fuel i [c] = some z) :
    ∃ x : Int, c = int x ∧ -9223372036854775808 ≤ x ∧ x ≤ 9223372036854775807 := by
  obtain ⟨x0, e0, _, w0⟩ := DataW.trod_int hi h
  simp at e0
  have hx : -9223372036854775808 ≤ x0 ∧ x0 ≤ 9223372036854775807 := by simpa [Lit.wf, IntKind.min, IntKind.max, IntKind.signed, IntKind.bits] using w0
  exact ⟨x0, e0, hx.1, hx.2⟩
theorem slice1_cell {α : Type} [Inhabited α] (K : α → Value) (G : α → Prop) {W : World} {base : Nat} {sp : Nat → Bool} {held : Bool} {t e : TypeId} {v : Value} {fuel : Nat} {x : DataW H × List MemPlace} (ht : P.underlying t = some (.slice e))
    (hc : P.cellsOf e = 1) (hel : ∀ n v x, DataW.trod enc P W base sp held n e [v] = some x → ∃ a, v = K a ∧ G a) (hf : DataW.trod enc P W base sp held fuel t [v] = some x) :
    ∃ (wa : Option Addr) (wn wc wb wo : Nat) (f : Nat → α), v = .slice wa wn wc ∧ wn ≤ wc ∧ (0 < wn → wa = some ⟨wb, wo, none⟩) ∧ wn ≤ 9223372036854775807 ∧ (∀ k, k < wn → G (f k)) ∧ (0 < wn → Holds ⟨wb, false, wo, tabF wn fun k => K (f k)⟩ W) := by
  rcases open_slice1 ht hc hf with ⟨hcs, _⟩ | ⟨a, len, cap, m, n, V, D, Pl, hcs, _, hl, hm, hmm, _, hx⟩
  · simp only [List.cons.injEq, and_true] at hcs
    subst hcs
    exact ⟨none, 0, 0, 0, 0, fun _ => default, rfl, Nat.le_refl _, fun h => absurd h (Nat.lt_irrefl 0), Nat.zero_le _, fun k hk => absurd hk (Nat.not_lt_zero k), fun h => absurd h (Nat.lt_irrefl 0)⟩
  · simp only [List.cons.injEq, and_true] at hcs
    subst hcs
    by_cases h0 : len = 0
    · subst h0
      exact ⟨some a, 0, cap, 0, 0, fun _ => default, rfl, Nat.zero_le _, fun h => absurd h (Nat.lt_irrefl 0), Nat.zero_le _, fun k hk => absurd hk (Nat.not_lt_zero k), fun h => absurd h (Nat.lt_irrefl 0)⟩
    have hlm : len ≤ m := by rw [hmm]; split <;> omega
    have hspot : a.spot = none := World.cell?_spot (by
      have := (hx 0 (by omega)).1
      rwa [show a.add 0 = a from by cases a; simp [Addr.add]] at this)
    obtain ⟨ab, ao, spot⟩ := a
    simp only at hspot
    subst hspot
    have hV : ∀ i, i < len → ∃ x : α, V i = K x ∧ G x := fun i hi => by
      obtain ⟨_, h2⟩ := hx i (by omega)
      exact hel _ _ _ h2
    obtain ⟨f, hfV⟩ := choose_lt (α := α) (p := fun i x => V i = K x ∧ G x) hV
    refine ⟨some ⟨ab, ao, none⟩, len, cap, ab, ao, f, rfl, hl, fun _ => rfl, by unfold maxLen at hm; omega, fun k hk => (hfV k hk).2, fun _ => ⟨lt_of_cell (hx 0 (by omega)).1, fun o v ho => ?_, (fun h => by cases h), obj_not rfl⟩⟩
    have ho' : (tabF len fun k => K (f k)).get o = some v := ho
    by_cases hol : o < len
    · rw [tabF_in hol] at ho'
      injection ho' with ho'
      have := (hx o (by omega)).1
      rw [add_none] at this
      show W.cell? ⟨ab, ao + o, none⟩ = some v
      rw [this, (hfV o hol).1, ho']
    · rw [tabF_out hol] at ho'; cases ho'
instance : Inhabited BytL := ⟨bytZ none 0⟩
end
end Go.Eng
namespace Go.Eng
open Go.RowKit Go.WideShapes Go.ChangeShapes Go.ChangeAt Go.Deep
section
variable {H : Type} {enc : TypeId × Value → H} {P : Program}
end
end Go.Eng
end
section
namespace Go.Eng
theorem hash_copy (H : HS) (z : Nat → UInt8) : hashC ⟨H.s, cpyL z 0 64 H.l, H.n⟩ = hashC H := by
  refine congrArg Cont.lit (List.ext_getElem? fun k => ?_)
  rw [hash_get, hash_get]
  by_cases h2 : k < 8
  · rw [if_pos h2, if_pos h2]
  · rw [if_neg h2, if_neg h2]
    by_cases h3 : k < 72
    · rw [if_pos h3, if_pos h3]
      simp only [cpyL]
      rw [if_pos (by omega), Nat.sub_zero]
    · rw [if_neg h3, if_neg h3]
def newH : HS := ⟨fun _ => 0, fun _ => 0, 0⟩
section
variable {P : Program} {t ty e : TypeId}
def ldSem (t : TypeId) (x : Value) : Sem Next := do pure (.value (← Instr.loadAt t x))
theorem srun_ldW (ha : aggB P t = some false) (H : HS) (b i : Nat) (hi : i < 8) : SRuns P (ldSem t (.pointer (some ⟨b, 0 + i * 1, none⟩))) [⟨b, false, 0, hashC H⟩] 0 (fun _ => u32 (H.s i)) (fun _ => [none]) := by
  intro w hm hap
  have hS : Holds ⟨b, false, 0, hashC H⟩ w := hm _ (by simp)
  have hc := hS.cell i (u32 (H.s i)) (by show (hashL H)[i]? = _; rw [hash_get, if_pos hi])
  refine ⟨[], w, rfl, .inl ?_, ?_⟩
  · have hr := run_loadAt_one (P := P) (t := t) (w := w) (b := b) (o := 0 + i * 1) (v := u32 (H.s i)) ha (by rw [Nat.mul_one]; exact hc)
    show (Instr.loadAt t _ >>= fun v => Sem.pure (Next.value v)).run P w = _
    rw [Sem.run_bind, hr]; rfl
  · exact ⟨fun p b hpb => by rcases p with _ | p <;> simp [listMem] at hpb, fun p q b c _ hpb => by rcases p with _ | p <;> simp [listMem] at hpb, (Adv.refl _ _).weak fun p b hpb => by rcases p with _ | p <;> simp [listMem] at hpb⟩
theorem mk_make_cap {B : Nat} {z : Value} (ht : P.underlying t = some (.slice e)) (h1 : OneC P e z B) (n c : Nat) (k1 k2 : IntKind) (hn : n ≤ c) (hb : (B : Int) * (c : Int) ≤ 281474976710656 ∧ c ≤ 9223372036854775807) {α : Type} (K : α → Value) (a : α) (hz : K a = z) :
    SRuns P (makeSem t (.int k1 (n : Int)) (.int k2 (c : Int))) [] 1 (fun ns => .slice (some ⟨ns.getD 0 0, 0, none⟩) n (n + (c - n))) (fun ns => [some ⟨ns.getD 0 0, true, 0, spr (n + (c - n)) n (fun _ => K a) z⟩]) := by
  subst hz
  obtain ⟨i, hi, hz, hsz, hB, hzc⟩ := h1
  subst hB
  rw [show n + (c - n) = c by omega]
  refine (srun_made (P := P) (e := e) (s := makeSem t (.int k1 (n : Int)) (.int k2 (c : Int))) (cs := madeCells (K a).cells (c * i.size)) (len := n) (cap := c) fun w => ?_).recont (fun _ => rfl) fun ns o v ho => ?_
  · refine run_value ?_
    have := run_make (P := P) w t e i (K a) ht hi hz k1 k2 (n : Int) (c : Int) (by omega) (by omega) hb.1 (by omega)
    simpa using this
  · by_cases hon : o < c
    · rw [spr, tabF_in hon] at ho
      rw [hzc, hsz]
      simp [Cont.get, madeCells, hon, Nat.mod_one]
      simpa using ho
    · rw [spr, tabF_out hon] at ho; cases ho
end
theorem store_spr {α : Type} (c n : Nat) (K : α → Value) (f : Nat → α) (z : Value) (i : Nat) (v : α) (hi : i < n) : (spr c n (fun k => K (f k)) z).store (.tab i 0) [K v] = some (spr c n (fun k => K (upd f i v k)) z) := by
  show some (Cont.tab c 1 fun k => if k = i then [K v] else [if k < n then K (f k) else z]) = _
  unfold spr tabF
  congr 2
  funext k
  by_cases h : k = i
  · subst h; simp [upd, hi]
  · simp [upd, h]
theorem spr_as {c n : Nat} {f g : Nat → Value} {z : Value} (h : ∀ k, k < n → f k = g k) : spr c n f z = spr c n g z := by
  unfold spr
  congr 1
  funext k
  by_cases hk : k < n
  · rw [if_pos hk, if_pos hk, h k hk]
  · rw [if_neg hk, if_neg hk]
def zerosU (n : UInt64) : UInt64 := (119 - n % 64) % 64
def tailZ (n : UInt64) : Nat := (1 + zerosU n).toNat
def lenB (n : UInt64) (i : Nat) : UInt8 := (shr64 (8 * n) (56 - 8 * i)).toUInt8
def tailF (n : UInt64) : Nat → UInt8 := fun k => if k = 0 then 128 else if k < tailZ n then 0 else lenB n (k - tailZ n)
theorem zeros_lt (n : UInt64) : (zerosU n).toNat < 64 := n64_lt _
theorem tailZ_val (n : UInt64) : tailZ n = 1 + (zerosU n).toNat := by
  unfold tailZ
  rw [UInt64.toNat_add]
  have := zeros_lt n
  have h1 : (1 : UInt64).toNat = 1 := rfl
  omega
theorem zeros_mod (n : UInt64) : (n.toNat + (zerosU n).toNat) % 64 = 55 := by
  unfold zerosU
  have h64 : (64 : UInt64).toNat = 64 := rfl
  have h119 : (119 : UInt64).toNat = 119 := rfl
  have h1 := n64_lt n
  have h2 : (n % 64).toNat = n.toNat % 64 := by rw [UInt64.toNat_mod, h64]
  rw [UInt64.toNat_mod, h64, UInt64.toNat_sub_of_le _ _ (by rw [UInt64.le_iff_toNat_le]; omega), h119]
  omega
theorem tail_mod (n : UInt64) : (n.toNat + (tailZ n + 8)) % 64 = 0 := by
  have := zeros_mod n
  rw [tailZ_val]; omega
def digB (s : Nat → UInt32) (i : Nat) : UInt8 := (shr32 (s (i / 4)) (24 - i % 4 * 8)).toUInt8
def digR (s : Nat → UInt32) (i : Nat) : Nat → UInt8 := fun k => if k < i then digB s k else 0
theorem digR_succ (s : Nat → UInt32) (i : Nat) : upd (digR s i) i (digB s i) = digR s (i + 1) := by
  funext k; unfold upd digR
  by_cases h : k = i
  · subst h; rw [if_pos rfl, if_pos (by omega)]
  · rw [if_neg h]
    by_cases h2 : k < i
    · rw [if_pos h2, if_pos (by omega)]
    · rw [if_neg h2, if_neg (by omega)]
def endH (H : HS) : HS := wrH H (tailF H.n) (tailZ H.n + 8)
def sumD (H : HS) : Nat → UInt8 := digB (endH H).s
theorem vec_digR (s : Nat → UInt32) : vecV 32 (fun k => u8 (digR s 32 k)) = vecV 32 fun k => u8 (digB s k) :=
  vecV_ext fun k hk => by rw [digR, if_pos hk]
theorem RunsF.lendW {F F' : Blk → Prop} {P : Program} {f : FuncId} {args : List Value} {b0 : Blk} {cs : List Blk} {v : Value} {o : Blk} (h : RunsF F P f args [b0] 0 (fun _ => v) (fun _ => [some o]))
    (hF : ∀ w : World, FamH F' w → (∀ b ∈ cs, Holds b w) → FamH F w) (hn : ∀ x, F x → ∀ j, x.has j → (∃ y, F' y ∧ y.has j) ∨ ∃ c ∈ cs, c.has j) (hb0 : b0.own = true) (hc : ∀ b ∈ cs, b.own = false) :
    RunsF F' P f args (b0 :: cs) 0 (fun _ => v) (fun _ => some o :: noneL cs) := by
  intro w hm ha hF'
  have hsub : ∀ p b, listMem ([b0].map some) p = some b → p = 0 ∧ b = b0 := fun p b hp => by
    rcases p with _ | p
    · cases hp; exact ⟨rfl, rfl⟩
    · simp [listMem] at hp
  have ho1 : ∀ k, Owns (listMem ([b0].map some)) k → Owns (listMem ((b0 :: cs).map some)) k := fun k ⟨p, b, h1, h2, h3⟩ => by
    obtain ⟨rfl, rfl⟩ := hsub p b h1
    exact ⟨0, b, rfl, h2, h3⟩
  have hapart : ∀ c ∈ cs, ∀ k, b0.has k → ¬ c.has k := fun c hcm => by
    obtain ⟨i, hi⟩ := List.getElem?_of_mem hcm
    exact ha 0 (i + 1) b0 c (by omega) rfl (by show listMem (some b0 :: cs.map some) (i + 1) = some c; simp [listMem, hi]) hb0
  have hw := hF w (fun b hb' => ⟨(hF' b hb').1, (hF' b hb').2.1⟩) (fun b hb' => hm b (by simp [hb']))
  refine Calls.mono (h w (fun b hb' => hm b (by simp at hb'; simp [hb'])) (fun p q b c hpq hpb hqc ho => ?_) (fun b hFb => ⟨(hw b hFb).1, (hw b hFb).2, fun j hj ⟨p, b', h1, h2, h3⟩ => ?_⟩)) ?_
  · obtain ⟨rfl, _⟩ := hsub p b hpb
    obtain ⟨rfl, _⟩ := hsub q c hqc
    exact absurd rfl hpq
  · obtain ⟨rfl, rfl⟩ := hsub p b' h1
    rcases hn b hFb j hj with ⟨y, hy, he⟩ | ⟨c, hcm, he⟩
    · exact (hF' y hy).2.2 j he (ho1 _ ⟨0, b', rfl, h2, h3⟩)
    · exact hapart c hcm j h3 he
  · rintro e w' ⟨ns, hns, he, hp⟩
    have hout : ∀ p b, listMem (some o :: noneL cs) p = some b → listMem [some o] p = some b := fun p b hpb => by
      rcases p with _ | p
      · exact hpb
      · exact absurd (show listMem (noneL cs) p = some b by simpa [listMem] using hpb) (noneL_get _ _ _)
    exact ⟨ns, hns, he, ⟨fun p b hpb => hp.holds p b (hout p b hpb), fun p q b c hpq hpb hqc => hp.apart p q b c hpq (hout p b hpb) (hout q c hqc),
      ⟨hp.adv.os, hp.adv.output, hp.adv.tape, hp.adv.size, fun k hk hno => hp.adv.heap k hk (fun hk' => hno (ho1 k hk')), fun k ⟨p, b, h1, h2, h3⟩ => by
        rcases hp.adv.names k ⟨p, b, hout p b h1, h2, h3⟩ with h4 | h4
        · exact .inl (ho1 k h4)
        · exact .inr h4, fun p b hpb hob => by
        have h1 := hp.adv.ro p b (hout p b hpb) hob
        obtain ⟨rfl, rfl⟩ := hsub p b h1
        exact rfl⟩⟩⟩
end Go.Eng
namespace Go.Eng
theorem srun_cpLastA {P : Program} {dT sT ty e : TypeId} (hu : P.underlying dT = some (.slice e)) (hs : sizeB P e = some 1) (H : HS) (g : Nat → UInt8) (b k bs os i sl sc dc : Nat) (N : Nat) (hi : i < 64) (hN : os + sl ≤ N) {A : Option Addr} (hA : A = some ⟨k, bs + os, none⟩) :
    SRuns P (copySem dT sT ty (.slice (some ⟨b, 8 + i, none⟩) (64 - i) dc) (.slice A sl sc)) [⟨b, true, 0, hashC H⟩, ⟨k, false, bs, tabF N fun j => u8 (g j)⟩] 0 (fun _ => nat (min sl (64 - i)))
      (fun _ => [some ⟨b, true, 0, hashC ⟨H.s, cpyL H.l i (min sl (64 - i)) (fun j => g (os + j)), H.n⟩⟩, none]) := by
  subst hA; exact srun_cpLast hu hs H g b k bs os i sl sc dc N hi hN
theorem wr_init {H G : HS} {b : BytL} (hb : OkB b) (hG : G = wakeH H) : b.wn ≤ b.wn ∧ b.wn ≤ b.wc ∧ G = puts (wakeH H) b.wf (b.wn - b.wn) ∧ (0 < b.wn → b.wa = some ⟨b.wb, b.wo + (b.wn - b.wn), none⟩) ∧ b.wc ≤ b.wc := by
  rw [Nat.sub_self]
  exact ⟨Nat.le_refl _, hb.cap, hG, hb.ad, Nat.le_refl _⟩
theorem wr_step {H G G' : HS} {b : BytL} {A : Option Addr} {m q k i : Nat} (hm : 0 < m) (h0 : m ≤ b.wn) (h1 : m ≤ q) (h2 : G = puts (wakeH H) b.wf (b.wn - m)) (h3 : 0 < m → A = some ⟨b.wb, b.wo + (b.wn - m), none⟩) (h4 : q ≤ b.wc)
    (hG : G' = puts G (fun j => b.wf (b.wn - m + j)) k) (hk : k = min m (64 - i)) (hi : i < 64) :
    (m - k ≤ b.wn ∧ m - k ≤ q - k ∧ G' = puts (wakeH H) b.wf (b.wn - (m - k)) ∧ (0 < m - k → fromA A q k 1 = some ⟨b.wb, b.wo + (b.wn - (m - k)), none⟩) ∧ q - k ≤ b.wc) ∧ m - k < m := by
  refine ⟨⟨by omega, by omega, ?_, fun h5 => ?_, by omega⟩, by omega⟩
  · rw [hG, h2, show b.wn - (m - k) = (b.wn - m) + k by omega, puts_add]
  · rw [h3 hm]
    unfold fromA
    rw [if_neg (by omega)]
    simp [add_none] <;> omega
theorem wr_fin {H G : HS} {b : BytL} {m : Nat} (h : G = puts (wakeH H) b.wf (b.wn - m)) (hm : ¬ 0 < m) : hashC G = hashC (wrH H b.wf b.wn) := by
  rw [h, show b.wn - m = b.wn by omega]; rfl
end Go.Eng
namespace Go.Eng
theorem tailZ_le (n : UInt64) : 0 < (1 + (119 - n % 64) % 64).toNat ∧ (1 + (119 - n % 64) % 64).toNat ≤ 64 := by
  have h := tailZ_val n
  have h2 := zeros_lt n
  unfold tailZ zerosU at h
  unfold zerosU at h2
  omega
theorem tail_cat (n : UInt64) (k : Nat) (hk : k < (1 + (119 - n % 64) % 64).toNat + 8) {z : Nat} (hz : z = (1 + (119 - n % 64) % 64).toNat) :
    catU (catU (catU (catU (catU (catU (catU (catU (upd (fun _ => 0) 0 128) z (fun _ => (shr64 (8 * n) 56).toUInt8)) (z + 1) (fun _ => (shr64 (8 * n) 48).toUInt8)) (z + 1 + 1) (fun _ => (shr64 (8 * n) 40).toUInt8)) (z + 1 + 1 + 1) (fun _ => (shr64 (8 * n) 32).toUInt8)) (z + 1 + 1 + 1 + 1) (fun _ => (shr64 (8 * n) 24).toUInt8)) (z + 1 + 1 + 1 + 1 + 1) (fun _ => (shr64 (8 * n) 16).toUInt8)) (z + 1 + 1 + 1 + 1 + 1 + 1) (fun _ => (shr64 (8 * n) 8).toUInt8)) (z + 1 + 1 + 1 + 1 + 1 + 1 + 1) (fun _ => (shr64 (8 * n) 0).toUInt8) k = tailF n k := by
  have h0 := tailZ_le n
  have e : tailZ n = z := hz.symm
  unfold tailF
  rw [e]
  rw [← hz] at hk h0
  by_cases h1 : k < z
  · have : ∀ j, k < z + j := fun j => by omega
    simp only [catU, upd]
    rw [if_pos (by omega), if_pos (by omega), if_pos (by omega), if_pos (by omega), if_pos (by omega), if_pos (by omega), if_pos (by omega), if_pos h1, if_pos h1]
  · obtain ⟨j, rfl⟩ : ∃ j, k = z + j := ⟨k - z, by omega⟩
    rw [if_neg (by omega), if_neg h1, Nat.add_sub_cancel_left]
    rcases j with _ | _ | _ | _ | _ | _ | _ | _ | j
    · simp only [catU]; rw [if_pos (by omega), if_pos (by omega), if_pos (by omega), if_pos (by omega), if_pos (by omega), if_pos (by omega), if_pos (by omega), if_neg (by omega)]; rfl
    · simp only [catU]; rw [if_pos (by omega), if_pos (by omega), if_pos (by omega), if_pos (by omega), if_pos (by omega), if_pos (by omega), if_neg (by omega)]; rfl
    · simp only [catU]; rw [if_pos (by omega), if_pos (by omega), if_pos (by omega), if_pos (by omega), if_pos (by omega), if_neg (by omega)]; rfl
    · simp only [catU]; rw [if_pos (by omega), if_pos (by omega), if_pos (by omega), if_pos (by omega), if_neg (by omega)]; rfl
    · simp only [catU]; rw [if_pos (by omega), if_pos (by omega), if_pos (by omega), if_neg (by omega)]; rfl
    · simp only [catU]; rw [if_pos (by omega), if_pos (by omega), if_neg (by omega)]; rfl
    · simp only [catU]; rw [if_pos (by omega), if_neg (by omega)]; rfl
    · simp only [catU]; rw [if_neg (by omega)]; rfl
    · omega
theorem digR_zero (s : Nat → UInt32) : (fun _ => 0) = digR s 0 := by
  funext k; unfold digR; rw [if_neg (by omega)]
theorem famTB_own {F : Blk → Prop} (hT : ∀ x, famT x → F x) {nm n cc : Nat} {f : Nat → UInt8} {B : Blk} (hH : ∀ w : World, Holds B w → Holds ⟨nm, false, 0, tabF n fun k => u8 (f k)⟩ w) :
    ∀ w : World, FamH F w → (∀ b ∈ [B], Holds b w) → FamH (famTB (bytO nm n cc f)) w := fun w hF hb x hx => by
  rcases hx with hx | hx
  · exact hF x (hT x hx)
  · exact holdb_own (hH w (hb B (by simp))) x hx
theorem famTB_names {F : Blk → Prop} (hT : ∀ x, famT x → F x) {nm n cc : Nat} {f : Nat → UInt8} {B : Blk} (hn : B.has nm) :
    ∀ x, famTB (bytO nm n cc f) x → ∀ j, x.has j → (∃ y, F y ∧ y.has j) ∨ ∃ c ∈ [B], c.has j := fun x hx j hj => by
  rcases hx with hx | ⟨_, rfl⟩
  · exact .inl ⟨x, hT x hx, hj⟩
  · have hj : nm = j := hj
    subst hj
    exact .inr ⟨B, by simp, hn⟩
def famTS (q : BytS) (b : Blk) : Prop := famT b ∨ famS q b
theorem famTS_el {q : BytS} {i : Nat} (hi : i < q.wn) (x : Blk) (h : famTB (q.wf i) x) : famTS q x := by
  rcases h with h | h
  · exact .inl h
  · exact .inr (.inr ⟨i, hi, h⟩)
def wrS (H : HS) (f : Nat → BytL) : Nat → HS
  | 0 => H
  | k + 1 => wrH (wrS H f k) (f k).wf (f k).wn
def ofD (q : BytS) : Nat → UInt8 := sumD (wrS newH q.wf q.wn)
end Go.Eng
namespace Go.Eng
theorem digR_step {s : Nat → UInt32} {d : Nat → UInt8} {i : Nat} (h : d = digR s i) : upd d i ((shr32 (s (i / 4)) (24 - i % 4 * 8)).toUInt8) = digR s (i + 1) := by
  subst h; exact digR_succ s i
theorem sum_fin (H : HS) {d : Nat → UInt8} {i : Nat} (h : d = digR (wrH H (tailF H.n) (tailZ H.n + 8)).s i) (hi : i = 32) : vecV 32 (fun k => u8 (d k)) = vecV 32 fun k => u8 (sumD H k) := by
  subst h hi; exact vec_digR _
end Go.Eng
namespace Go.Eng
def wordB (b : Nat → UInt8) (i : Nat) : UInt32 := (b (4 * i)).toUInt32 * 16777216 + (b (4 * i + 1)).toUInt32 * 65536 + (b (4 * i + 2)).toUInt32 * 256 + (b (4 * i + 3)).toUInt32
def rw1 (b : Nat → UInt8) (j : Nat) : Nat → UInt32 := fun k => if k < j then wordB b k else 0
theorem rw1_zero (b : Nat → UInt8) : (fun _ => 0) = rw1 b 0 := by funext k; unfold rw1; rw [if_neg (by omega)]
theorem rw1_succ (b : Nat → UInt8) (j : Nat) : upd (rw1 b j) j (wordB b j) = rw1 b (j + 1) := by
  funext k; unfold upd rw1
  by_cases h : k = j
  · subst h; rw [if_pos rfl, if_pos (by omega)]
  · rw [if_neg h]
    by_cases h2 : k < j
    · rw [if_pos h2, if_pos (by omega)]
    · rw [if_neg h2, if_neg (by omega)]
def word_part (b : Nat → UInt8) (i : Nat) : Nat → UInt32
  | 0 => 0
  | j + 1 => shl32 (word_part b i j) 8 ||| (b (4 * i + j)).toUInt32
theorem sp1_word (b : Nat → UInt8) : ∀ (n k : Nat), sp1 b n k = word_part b k (if 4 * k + 4 ≤ n then 4 else n - 4 * k)
  | 0, k => by
    rw [if_neg (by omega), show 0 - 4 * k = 0 by omega]; rfl
  | n + 1, k => by
    rw [sp1]
    unfold upd
    by_cases h : k = n / 4
    · subst h
      rw [if_pos rfl, sp1_word b n (n / 4)]
      have h4 := Nat.div_add_mod n 4
      have hl := Nat.mod_lt n (show 4 > 0 by omega)
      rw [if_neg (by omega)]
      have e : (if 4 * (n / 4) + 4 ≤ n + 1 then 4 else n + 1 - 4 * (n / 4)) = (n - 4 * (n / 4)) + 1 := by
        split <;> omega
      rw [e, word_part, show 4 * (n / 4) + (n - 4 * (n / 4)) = n by omega]
    · rw [if_neg h, sp1_word b n k]
      congr 1
      have h4 := Nat.div_add_mod n 4
      have hl := Nat.mod_lt n (show 4 > 0 by omega)
      by_cases h5 : 4 * k + 4 ≤ n
      · rw [if_pos h5, if_pos (by omega)]
      · rw [if_neg h5]
        split <;> omega
theorem or_byte (x : UInt32) (y : UInt8) (hx : x.toNat < 16777216) : (shl32 x 8 ||| y.toUInt32).toNat = x.toNat * 256 + y.toNat := by
  have hy := y.toNat_lt
  have h1 : (shl32 x 8).toNat = 2 ^ 8 * x.toNat := by rw [shl32_toNat, Nat.mul_comm]; exact Nat.mod_eq_of_lt (by omega)
  rw [UInt32.toNat_or, h1, UInt8.toNat_toUInt32, ← Nat.two_pow_add_eq_or_of_lt (by omega)]
  omega
theorem word_full (b : Nat → UInt8) (i : Nat) : word_part b i 4 = wordB b i := by
  apply UInt32.toNat_inj.1
  have b0 := (b (4 * i)).toNat_lt
  have b1 := (b (4 * i + 1)).toNat_lt
  have b2 := (b (4 * i + 2)).toNat_lt
  have b3 := (b (4 * i + 3)).toNat_lt
  have e1 : (word_part b i 1).toNat = (b (4 * i)).toNat := by
    have := or_byte 0 (b (4 * i)) (by decide)
    have h0 : (0 : UInt32).toNat = 0 := rfl
    rw [h0] at this
    simpa [word_part] using this
  have e2 : (word_part b i 2).toNat = (b (4 * i)).toNat * 256 + (b (4 * i + 1)).toNat := by
    rw [← e1]; exact or_byte (word_part b i 1) _ (by omega)
  have e3 : (word_part b i 3).toNat = ((b (4 * i)).toNat * 256 + (b (4 * i + 1)).toNat) * 256 + (b (4 * i + 2)).toNat := by
    rw [← e2]; exact or_byte (word_part b i 2) _ (by omega)
  have e4 : (word_part b i 4).toNat = (((b (4 * i)).toNat * 256 + (b (4 * i + 1)).toNat) * 256 + (b (4 * i + 2)).toNat) * 256 + (b (4 * i + 3)).toNat := by
    rw [← e3]; exact or_byte (word_part b i 3) _ (by omega)
  rw [e4]
  unfold wordB
  simp only [UInt32.toNat_add, UInt32.toNat_mul, UInt8.toNat_toUInt32]
  have c1 : (16777216 : UInt32).toNat = 16777216 := rfl
  have c2 : (65536 : UInt32).toNat = 65536 := rfl
  have c3 : (256 : UInt32).toNat = 256 := rfl
  rw [c1, c2, c3]
  omega
theorem rw1_all (b : Nat → UInt8) : rw1 b 16 = sp1 b 64 := by
  funext k
  rw [sp1_word]
  unfold rw1
  by_cases h : k < 16
  · rw [if_pos h, if_pos (by omega), word_full]
  · rw [if_neg h, if_neg (by omega), show 64 - 4 * k = 0 by omega]; rfl
theorem div_shr (x m : UInt32) (n : Nat) (h : m.toNat = 2 ^ n) : x / m = shr32 x n := by
  apply UInt32.toNat_inj.1
  rw [UInt32.toNat_div, shr32_toNat, h]
theorem rsp_step {b : Nat → UInt8} {j : Nat} {v : Nat → UInt32} (h : 16 ≤ j) (hv : v = sp2 b (j - 16)) :
    upd v j (v (j - 16) + (rot (v (j - 15)) 7 ^^^ rot (v (j - 15)) 18 ^^^ v (j - 15) / 8) + v (j - 7) + (rot (v (j - 2)) 17 ^^^ rot (v (j - 2)) 19 ^^^ v (j - 2) / 1024)) = sp2 b (j + 1 - 16) := by
  rw [← sp_step h hv, div_shr _ 8 3 rfl, div_shr _ 1024 10 rfl]
  congr 1
  congr 1
  rw [UInt32.add_assoc, UInt32.add_assoc (v (j - 16)), UInt32.add_comm (v (j - 7))]
theorem choose_eq (e f g : UInt32) : (e &&& f ||| (4294967295 - e) &&& g) = (e &&& f ^^^ ~~~e &&& g) := by
  have h : (4294967295 : UInt32) - e = ~~~e := by
    apply UInt32.toBitVec_inj.1
    show BitVec.allOnes 32 - e.toBitVec = ~~~e.toBitVec
    exact BitVec.allOnes_sub_eq_not _
  rw [h]
  apply UInt32.toBitVec_inj.1
  show (e.toBitVec &&& f.toBitVec ||| ~~~e.toBitVec &&& g.toBitVec) = (e.toBitVec &&& f.toBitVec ^^^ ~~~e.toBitVec &&& g.toBitVec)
  apply BitVec.eq_of_getLsbD_eq
  intro i hi
  simp only [BitVec.getLsbD_or, BitVec.getLsbD_and, BitVec.getLsbD_xor, BitVec.getLsbD_not, hi, decide_true, Bool.true_and]
  cases e.toBitVec.getLsbD i <;> simp
theorem most_eq (a b c : UInt32) : (a &&& b ||| a &&& c ||| b &&& c) = (a &&& b ^^^ a &&& c ^^^ b &&& c) := by
  apply UInt32.toBitVec_inj.1
  show (a.toBitVec &&& b.toBitVec ||| a.toBitVec &&& c.toBitVec ||| b.toBitVec &&& c.toBitVec) = (a.toBitVec &&& b.toBitVec ^^^ a.toBitVec &&& c.toBitVec ^^^ b.toBitVec &&& c.toBitVec)
  apply BitVec.eq_of_getLsbD_eq
  intro i hi
  simp only [BitVec.getLsbD_or, BitVec.getLsbD_and, BitVec.getLsbD_xor]
  cases a.toBitVec.getLsbD i <;> cases b.toBitVec.getLsbD i <;> cases c.toBitVec.getLsbD i <;> rfl
theorem rnd_ref (v : Nat → UInt32) (k w : UInt32) :
    (W8.mk (v 7 + (rot (v 4) 6 ^^^ rot (v 4) 11 ^^^ rot (v 4) 25) + (v 4 &&& v 5 ||| (4294967295 - v 4) &&& v 6) + k + w + ((rot (v 0) 2 ^^^ rot (v 0) 13 ^^^ rot (v 0) 22) + (v 0 &&& v 1 ||| v 0 &&& v 2 ||| v 1 &&& v 2))) (v 0) (v 1) (v 2)
      (v 3 + (v 7 + (rot (v 4) 6 ^^^ rot (v 4) 11 ^^^ rot (v 4) 25) + (v 4 &&& v 5 ||| (4294967295 - v 4) &&& v 6) + k + w)) (v 4) (v 5) (v 6)).get = rndF v (k + w) := by
  unfold rndF rndS rndX rndY w8F
  rw [choose_eq, most_eq]
  simp only [UInt32.add_assoc]
theorem mixS_congr {s : Nat → UInt32} {f g : Nat → UInt8} (h : ∀ k, k < 64 → f k = g k) : mixS s f = mixS s g := by
  have h1 : sp1 f 64 = sp1 g 64 := by
    have : ∀ n, n ≤ 64 → sp1 f n = sp1 g n := fun n => by
      induction n with
      | zero => intro _; rfl
      | succ n ih => intro hn; rw [sp1, sp1, ih (by omega), h n (by omega)]
    exact this 64 (Nat.le_refl _)
  have h2 : ∀ n, sp2 f n = sp2 g n := fun n => by
    induction n with
    | zero => exact h1
    | succ n ih => rw [sp2, sp2, ih]
  unfold mixS sprW
  rw [h2]
def foldS (f : Nat → UInt8) : Nat → (Nat → UInt32)
  | 0 => begW
  | j + 1 => mixS (foldS f j) (fun k => f (64 * j + k))
def begH : HS := ⟨begW, fun _ => 0, 0⟩
theorem wake_new : wakeH newH = begH := by unfold wakeH newH; rw [if_pos (by rfl)]; rfl
theorem puts_n (H : HS) (f : Nat → UInt8) : ∀ n, (puts H f n).n = H.n + UInt64.ofNat n
  | 0 => by show H.n = H.n + 0; rw [UInt64.add_zero]
  | n + 1 => by
    rw [puts, put, ← n_succ, ← puts_n H f n]
    split <;> rfl
theorem puts_fold (f : Nat → UInt8) : ∀ j, (puts begH f (64 * j)).s = foldS f j
  | 0 => rfl
  | j + 1 => by
    have hn : ((puts begH f (64 * j)).n % 64).toNat = 0 := by
      rw [puts_n]
      have h1 : (64 : UInt64).toNat = 64 := rfl
      show ((0 + UInt64.ofNat (64 * j)) % 64).toNat = 0
      rw [UInt64.zero_add, UInt64.toNat_mod, UInt64.toNat_ofNat', h1]
      omega
    rw [show 64 * (j + 1) = 64 * j + 64 by omega, puts_add, puts_end _ _ (k := 64) (by omega), foldS, ← puts_fold f j]
    exact mixS_congr fun k hk => by
      unfold cpyL
      rw [hn, if_pos (by omega), Nat.sub_zero]
structure Stands (H : HS) (f : Nat → UInt8) (n : Nat) : Prop where
  wake : wakeH H = puts begH f n
  num : H.n = UInt64.ofNat n
theorem stands_new (f : Nat → UInt8) : Stands newH f 0 := ⟨wake_new, rfl⟩
theorem wake_puts (f : Nat → UInt8) {n : Nat} (h : n < 18446744073709551616) : wakeH (puts begH f n) = puts begH f n := by
  rcases Nat.eq_zero_or_pos n with h0 | h0
  · subst h0; rfl
  · unfold wakeH
    have : (puts begH f n).n ≠ 0 := fun e => by
      rw [puts_n] at e
      have h2 := congrArg UInt64.toNat e
      rw [show begH.n = 0 from rfl, UInt64.zero_add, UInt64.toNat_ofNat', Nat.mod_eq_of_lt h] at h2
      have h3 : (0 : UInt64).toNat = 0 := rfl
      omega
    rw [if_neg (by simpa using this)]
theorem Stands.wr {H : HS} {f : Nat → UInt8} {n : Nat} (h : Stands H f n) (g : Nat → UInt8) (m : Nat) : wrH H g m = puts begH (catU f n g) (n + m) := by
  unfold wrH
  rw [h.wake, puts_add begH (catU f n g) n m, puts_congr begH (f := f) (g := catU f n g) (fun k hk => by unfold catU; rw [if_pos hk])]
  exact puts_congr _ fun k hk => by unfold catU; rw [if_neg (by omega), Nat.add_sub_cancel_left]
theorem Stands.write {H : HS} {f g : Nat → UInt8} {n m : Nat} (h : Stands H f n) (hm : n + m < 18446744073709551616) : Stands (wrH H g m) (catU f n g) (n + m) := by
  have e := h.wr g m
  refine ⟨?_, ?_⟩
  · rw [e, wake_puts _ hm]
  · rw [e, puts_n]; show 0 + _ = _; rw [UInt64.zero_add]
theorem Stands.congr {H : HS} {f g : Nat → UInt8} {n : Nat} (h : Stands H f n) (hfg : ∀ k, k < n → f k = g k) : Stands H g n :=
  ⟨by rw [h.wake]; exact puts_congr _ hfg, h.num⟩
def padF (f : Nat → UInt8) (n : Nat) : Nat → UInt8 := catU f n (tailF (UInt64.ofNat n))
def digOf (f : Nat → UInt8) (n : Nat) : Nat → UInt8 := digB (foldS (padF f n) ((n + (tailZ (UInt64.ofNat n) + 8)) / 64))
theorem Stands.sum {H : HS} {f : Nat → UInt8} {n : Nat} (h : Stands H f n) (hn : n < 18446744073709551616 - 128) : sumD H = digOf f n := by
  have hz := tailZ_le (UInt64.ofNat n)
  have hz2 : tailZ (UInt64.ofNat n) ≤ 64 := hz.2
  have hm := tail_mod (UInt64.ofNat n)
  rw [UInt64.toNat_ofNat', Nat.mod_eq_of_lt (show n < 2 ^ 64 by omega)] at hm
  unfold sumD digOf endH
  rw [h.num]
  refine congrArg digB ?_
  have e := h.wr (tailF (UInt64.ofNat n)) (tailZ (UInt64.ofNat n) + 8)
  have hq : 64 * ((n + (tailZ (UInt64.ofNat n) + 8)) / 64) = n + (tailZ (UInt64.ofNat n) + 8) := by omega
  rw [e]
  show _ = foldS (padF f n) _
  rw [← puts_fold, hq]; rfl
theorem foldS_congr {f g : Nat → UInt8} : ∀ {j : Nat}, (∀ k, k < 64 * j → f k = g k) → foldS f j = foldS g j
  | 0, _ => rfl
  | j + 1, h => by
    rw [foldS, foldS, foldS_congr (fun k hk => h k (by omega))]
    exact mixS_congr fun k hk => h _ (by omega)
theorem digOf_congr {f g : Nat → UInt8} {n : Nat} (h : ∀ k, k < n → f k = g k) : digOf f n = digOf g n := by
  unfold digOf padF
  refine congrArg digB ?_
  exact foldS_congr fun k _ => by
    unfold catU
    by_cases hk : k < n
    · rw [if_pos hk, if_pos hk, h k hk]
    · rw [if_neg hk, if_neg hk]
end Go.Eng
namespace Go.Eng
def bytP (nm at_ n c : Nat) (f : Nat → UInt8) : BytL := ⟨some ⟨nm, at_, none⟩, n, c, nm, at_, fun k => f (at_ + k)⟩
theorem okb_part {nm at_ n c : Nat} {f : Nat → UInt8} (h1 : n ≤ c) (h2 : n ≤ 9223372036854775807) : OkB (bytP nm at_ n c f) := ⟨h1, fun _ => rfl, h2⟩
theorem holdb_part {nm at_ n r k c : Nat} {f : Nat → UInt8} (hk : at_ + k ≤ n) : ∀ w : World, (∀ b ∈ [(⟨nm, false, 0, spr (n + r) n (fun k => u8 (f k)) (u8 0)⟩ : Blk)], Holds b w) → ∀ b, famB (bytP nm at_ k c f) b → Holds b w ∧ b.own = false := fun w hw b hb => by
  obtain ⟨_, rfl⟩ := hb
  have h := holds_sprB (hw _ (List.Mem.head _))
  refine ⟨⟨h.lt, fun j v hj => ?_, (fun h => by cases h), obj_not rfl⟩, rfl⟩
  have hj' : (tabF k fun j => u8 (f (at_ + j))).get j = some v := hj
  by_cases hl : j < k
  · rw [tabF_in hl] at hj'
    have := h.cell (at_ + j) v (by show (tabF n _).get _ = _; rw [tabF_in (by omega)]; exact hj')
    show w.cell? ⟨nm, at_ + j, none⟩ = some v
    simpa using this
  · rw [tabF_out hl] at hj'; cases hj'
theorem is_slPartN {P : Program} {t e : TypeId} {x y z : Operand} (ht : P.underlying t = some (.slice e)) (hs : sizeB P e = some 1) (n len cap i j l : Nat) (hi : i + l = j ∧ j ≤ cap ∧ i < cap) :
    IsOp P (.slice t x (some y) (some z) none) [.slice (some ⟨n, 0, none⟩) len cap, nat i, nat j] (.slice (some ⟨n, i, none⟩) l (cap - i)) := by
  intro ρ o' ho hv
  rw [ho] at hv
  have hv' : [ρ x, ρ y, ρ z] = [Value.slice (some ⟨n, 0, none⟩) len cap, nat i, nat j] := hv
  injection hv' with h1 hv'
  injection hv' with h2 hv'
  injection hv' with h3 _
  unfold execOp
  rw [ho]
  simp only [Option.map]
  show pureRun P (Sem.bind (Instr.sliceAt t (ρ x) (some (ρ y)) (some (ρ z)) none) fun v => Sem.pure (Next.value v)) = _
  rw [pureRun_bind, h1, h2, h3]
  have hi' : 0 ≤ (i : Int) ∧ (i : Int) ≤ (j : Int) := by omega
  have hj' : 0 ≤ (j : Int) ∧ (j : Int) ≤ (cap : Int) := by omega
  have hne : ¬ cap = i := by omega
  have hl : j - i = l := by omega
  have e : pureRun P (Instr.sliceAt t (.slice (some ⟨n, 0, none⟩) len cap) (some (nat i)) (some (nat j)) none) = some (.slice (some ⟨n, i, none⟩) l (cap - i)) := by
    simp only [Instr.sliceAt, Instr.slice, Instr.sliceBounds, Instr.sliceBound, nat, pureRun_bind', asIntOf, pureRun, pure, pureRun_underlying ht, hi', hj', and_self, if_true, pureRun_sizeOf hs, Int.toNat_natCast]
    simp [hne, hl, add_none, Nat.mul_one]
  rw [e]
  rfl
def rpadL (n : Nat) : Nat := n + tailZ (UInt64.ofNat n)
def rpad (f : Nat → UInt8) (n : Nat) : Nat → UInt8 := fun k => if k < n then f k else if k = n then 128 else 0
theorem rpad_mod {n : Nat} (h : n < 9223372036854775808) : rpadL n % 64 = 56 ∧ n + 1 ≤ rpadL n ∧ rpadL n ≤ n + 64 := by
  have h1 := tail_mod (UInt64.ofNat n)
  have h2 := tailZ_le (UInt64.ofNat n)
  rw [UInt64.toNat_ofNat', Nat.mod_eq_of_lt (show n < 2 ^ 64 by omega)] at h1
  unfold rpadL
  have h3 : 0 < tailZ (UInt64.ofNat n) ∧ tailZ (UInt64.ofNat n) ≤ 64 := h2
  omega
theorem rpad_tail {f : Nat → UInt8} {n k : Nat} (hk : k < rpadL n) : padF f n k = rpad f n k := by
  unfold padF catU rpad tailF
  by_cases h : k < n
  · rw [if_pos h, if_pos h]
  · rw [if_neg h, if_neg h]
    unfold rpadL at hk
    by_cases h2 : k = n
    · subst h2; rw [if_pos (by omega), if_pos rfl]
    · rw [if_neg (by omega), if_neg h2, if_pos (by omega)]
theorem rpad_len {f : Nat → UInt8} {n j : Nat} (hj : j < 8) : padF f n (rpadL n + j) = lenB (UInt64.ofNat n) j := by
  have hz := tailZ_le (UInt64.ofNat n)
  have h3 : 0 < tailZ (UInt64.ofNat n) := hz.1
  unfold padF catU rpadL tailF
  rw [if_neg (by omega), if_neg (by omega), if_neg (by omega)]
  congr 1
  omega
end Go.Eng
end
section
namespace Go.Proofs.YtnkokocpchedkaaDoor
open Go Go.Eng
theorem new_runs : Runs Tryd.prog 28 [] [] 1 (fun (ns : List Nat) => (ptr (ns.getD 0 0) 0)) (fun (ns : List Nat) => [some ⟨(ns.getD 0 0), true, 0, (hashC newH)⟩]) :=
  runs_of_ev mix Tryd.func28 rfl rfl 400 (.reg [(0, .g)] (.regn [(0, .g), (1, .new), (2, .g)] (more (fun n1 => fun _ => .done)))) [] [0] rfl
    (Eq.mp (by kernel_rfl) (aI (sk tV) (fun (n1 : Nat) => aI (sk (sk (sk tV))) (aT (eX (fun (ns : List Nat) => ns.length = 1 ∧ ((ptr n1 0) : Value) = (fun (ns : List Nat) => (ptr (ns.getD 0 0) 0)) ns ∧ ([some ⟨n1, true, 0, (hashC (HS.mk (fun _ => 0) (fun _ => 0) 0))⟩] : List (Option Blk)) = (fun (ns : List Nat) => [some ⟨(ns.getD 0 0), true, 0, (hashC newH)⟩]) ns) [n1] (aI (@rfl Nat 1) (aI (@rfl Value (ptr n1 0)) (@rfl (List (Option Blk)) [some ⟨n1, true, 0, (hashC newH)⟩]))))))))
theorem copy_runs (c : Nat) (H : HS) : Runs Tryd.prog 42 [(ptr c 0)] [⟨c, false, 0, (hashC H)⟩] 1 (fun (ns : List Nat) => (ptr (ns.getD 0 0) 0)) (fun (ns : List Nat) => [some ⟨c, false, 0, (hashC H)⟩, some ⟨(ns.getD 0 0), true, 0, (hashC H)⟩]) :=
  runs_of_ev mix Tryd.func42 rfl rfl 400 (.reg [(0, .g)] (.regn [(0, .g), (1, .g), (2, .g), (3, (.ld 0 (.lit 72))), (4, .g), (5, .new), (6, .g)] (more (fun n1 => fun _ => (.reg [(0, .g), (1, .g), (2, .g), (3, .g), (4, .g), (5, .g), (6, .g), (7, .g), (8, (.oth [(1, false), (0, true)] 0 0 (fun _ => nat 8) (fun _ => [some ⟨n1, true, 0, hashC (HS.mk H.s (fun _ => 0) H.n)⟩, none])))] (.reg [(0, .g), (1, .g), (2, .g), (3, .g), (4, .g), (5, .g), (6, .g), (7, .g), (8, (.oth [(1, false), (0, true)] 0 0 (fun _ => nat 64) (fun _ => [some ⟨n1, true, 0, hashC (HS.mk H.s (cpyL (fun _ => 0) 0 64 H.l) H.n)⟩, none])))] (.reg [(0, .g), (1, .g)] .done))))))) [] [1] rfl
    (Eq.mp (by kernel_rfl) (aI (sk tV) (fun (n1 : Nat) => aI (sk (sk (sk (aI (aT (ad c 72)) (sk (sk (sk tV))))))) (aI (sk (sk (sk (sk (sk (sk (sk (sk (aI (aT (srun_cpWords (P := Tryd.prog) (dT := 111) (sT := 111) (ty := 3) (e := 51) (by kernel_rfl) (by kernel_rfl) (HS.mk (fun _ => 0) (fun _ => 0) H.n) H n1 c)) tV))))))))) (aI (sk (sk (sk (sk (sk (sk (sk (sk (aI (aT (srun_cpBytes (P := Tryd.prog) (dT := 42) (sT := 42) (ty := 3) (e := 5) (by kernel_rfl) (by kernel_rfl) (HS.mk H.s (fun _ => 0) H.n) H n1 c)) tV))))))))) (aI (sk (sk tV)) (aT (eX (fun (ns : List Nat) => ns.length = 1 ∧ ((ptr n1 0) : Value) = (fun (ns : List Nat) => (ptr (ns.getD 0 0) 0)) ns ∧ ([some ⟨c, false, 0, (hashC H)⟩, some ⟨n1, true, 0, (hashC (HS.mk H.s (cpyL (fun _ => 0) 0 64 H.l) H.n))⟩] : List (Option Blk)) = (fun (ns : List Nat) => [some ⟨c, false, 0, (hashC H)⟩, some ⟨(ns.getD 0 0), true, 0, (hashC H)⟩]) ns) [n1] (aI (@rfl Nat 1) (aI (@rfl Value (ptr n1 0)) ((congrArg (fun C => [some (⟨c, false, 0, hashC H⟩ : Blk), some ⟨n1, true, 0, C⟩]) (hash_copy H _)))))))))))))
def write_fam_S1 (c : Nat) (H : HS) (b : BytL) (x1 : HS × (Option Addr) × Nat × Nat) : St := ⟨[(0, .v (ptr c 0)), (1, .v (Value.slice x1.2.1 x1.2.2.1 x1.2.2.2))], [(0, some ⟨c, true, 0, (hashC x1.1)⟩)], 2⟩
def write_fam_R1 (c : Nat) (H : HS) (b : BytL) (x1 : HS × (Option Addr) × Nat × Nat) : Prop := (x1.2.2.1 ≤ b.wn) ∧ (x1.2.2.1 ≤ x1.2.2.2) ∧ (x1.1 = puts (wakeH H) b.wf (b.wn - x1.2.2.1)) ∧ (0 < x1.2.2.1 → x1.2.1 = some ⟨b.wb, b.wo + (b.wn - x1.2.2.1), none⟩) ∧ (x1.2.2.2 ≤ b.wc)
def write_fam_mu1 (c : Nat) (H : HS) (b : BytL) (x1 : HS × (Option Addr) × Nat × Nat) : Nat := x1.2.2.1
def write_fam_S2 (c : Nat) (H : HS) (b : BytL) (x2 : HS × (Option Addr) × Nat × Nat) : St := ⟨[(0, .v (ptr c 0)), (1, .v (Value.slice x2.2.1 x2.2.2.1 x2.2.2.2))], [(0, some ⟨c, true, 0, (hashC x2.1)⟩)], 1⟩
def write_fam_R2 (c : Nat) (H : HS) (b : BytL) (x2 : HS × (Option Addr) × Nat × Nat) : Prop := (x2.2.2.1 ≤ b.wn) ∧ (x2.2.2.1 ≤ x2.2.2.2) ∧ (x2.1 = puts (wakeH H) b.wf (b.wn - x2.2.2.1)) ∧ (0 < x2.2.2.1 → x2.2.1 = some ⟨b.wb, b.wo + (b.wn - x2.2.2.1), none⟩) ∧ (x2.2.2.2 ≤ b.wc)
def write_fam_mu2 (c : Nat) (H : HS) (b : BytL) (x2 : HS × (Option Addr) × Nat × Nat) : Nat := x2.2.2.1
theorem write_fam (c : Nat) (H : HS) (b : BytL) (hb : OkB b) : RunsF (famTB b) Tryd.prog 29 [(ptr c 0), (Value.slice b.wa b.wn b.wc)] [⟨c, true, 0, (hashC H)⟩] 0 (fun (_ : List Nat) => Value.tuple #[]) (fun (_ : List Nat) => [some ⟨c, true, 0, (hashC (wrH H b.wf b.wn))⟩]) :=
  runsF_of_ev (F := (famTB b)) mix Tryd.func29 rfl rfl 400 (.reg [(0, .g), (1, .g), (2, .g), (3, (.ld 0 (.lit 72))), (4, (.as (Value.bool (H.n == 0))))] (.br (.openr begB (.reg [(0, .g), (1, (.ld 1 (.lit 0))), (2, .g), (3, .g), (4, (.stc 0 (.lit 0) (hashC (HS.mk begW H.l H.n))))] (.inv [0, 1] [0] 2 (write_fam_R1 c H b) (write_fam_S1 c H b) (write_fam_mu1 c H b) (((HS.mk begW H.l H.n), b.wa, b.wn, b.wc) : HS × (Option Addr) × Nat × Nat) (fun (x1 : HS × (Option Addr) × Nat × Nat) => (.reg [(0, .g), (1, (.as (nat x1.2.2.1))), (2, (.as (Value.bool (decide (0 < x1.2.2.1)))))] (.br (.openr (bytB b) (.reg [(0, .g), (1, .g), (2, .g), (3, .g), (4, .g), (5, .g), (6, (.ld 0 (.lit 72))), (7, (.as (u64 (x1.1.n % 64)))), (8, (.as (Value.slice (some ⟨c, (8 + ((x1.1.n % 64).toNat)), none⟩) (64 - ((x1.1.n % 64).toNat)) (64 - ((x1.1.n % 64).toNat))))), (9, .g), (10, (.oth [(0, false), (2, true)] 0 0 (fun _ => nat (min x1.2.2.1 (64 - ((x1.1.n % 64).toNat)))) (fun _ => [some ⟨c, true, 0, hashC (HS.mk x1.1.s (cpyL x1.1.l ((x1.1.n % 64).toNat) (min x1.2.2.1 (64 - ((x1.1.n % 64).toNat))) (fun j => b.wf ((b.wn - x1.2.2.1) + j))) x1.1.n)⟩, none]))), (11, .g)] (.reg [(0, .g), (1, .g), (2, (.as (Value.slice (fromA x1.2.1 x1.2.2.2 (min x1.2.2.1 (64 - ((x1.1.n % 64).toNat))) 1) (x1.2.2.1 - (min x1.2.2.1 (64 - ((x1.1.n % 64).toNat)))) (x1.2.2.2 - (min x1.2.2.1 (64 - ((x1.1.n % 64).toNat))))))), (3, .g)] (.reg [(0, .g), (1, .g), (2, .g), (3, (.ld 0 (.lit 72))), (4, .g), (5, (.as (u64 (UInt64.ofNat (min x1.2.2.1 (64 - ((x1.1.n % 64).toNat))))))), (6, (.as (u64 (x1.1.n + (UInt64.ofNat (min x1.2.2.1 (64 - ((x1.1.n % 64).toNat)))))))), (7, .g), (8, .g), (9, (.stc 0 (.lit 72) (hashC (HS.mk x1.1.s (cpyL x1.1.l ((x1.1.n % 64).toNat) (min x1.2.2.1 (64 - ((x1.1.n % 64).toNat))) (fun j => b.wf ((b.wn - x1.2.2.1) + j))) (x1.1.n + (UInt64.ofNat (min x1.2.2.1 (64 - ((x1.1.n % 64).toNat)))))))))] (.reg [(0, .g), (1, .g), (2, .g), (3, (.ld 0 (.lit 72))), (4, (.as (u64 ((x1.1.n + (UInt64.ofNat (min x1.2.2.1 (64 - ((x1.1.n % 64).toNat))))) % 64)))), (5, (.as (Value.bool (((x1.1.n + (UInt64.ofNat (min x1.2.2.1 (64 - ((x1.1.n % 64).toNat))))) % 64) == 0))))] (.br (.reg [(0, .g), (1, .g), (2, .g), (3, .g), (4, (.ld 0 (.lit 0))), (5, .g), (6, .g), (7, .g), (8, (.ld 0 (.lit 8))), (9, (.callF [] 0 0 (fun _ => (vecV 8 (fun k => u32 (mixS x1.1.s (cpyL x1.1.l ((x1.1.n % 64).toNat) (min x1.2.2.1 (64 - ((x1.1.n % 64).toNat))) (fun j => b.wf ((b.wn - x1.2.2.1) + j))) k)))) (fun _ => []))), (10, .g), (11, .g), (12, (.stc 0 (.lit 0) (hashC (HS.mk (mixS x1.1.s (cpyL x1.1.l ((x1.1.n % 64).toNat) (min x1.2.2.1 (64 - ((x1.1.n % 64).toNat))) (fun j => b.wf ((b.wn - x1.2.2.1) + j)))) (cpyL x1.1.l ((x1.1.n % 64).toNat) (min x1.2.2.1 (64 - ((x1.1.n % 64).toNat))) (fun j => b.wf ((b.wn - x1.2.2.1) + j))) (x1.1.n + (UInt64.ofNat (min x1.2.2.1 (64 - ((x1.1.n % 64).toNat)))))))))] .done) .done)))))) .done)))))) (.inv [0, 1] [0] 1 (write_fam_R2 c H b) (write_fam_S2 c H b) (write_fam_mu2 c H b) ((H, b.wa, b.wn, b.wc) : HS × (Option Addr) × Nat × Nat) (fun (x2 : HS × (Option Addr) × Nat × Nat) => (.reg [(0, .g), (1, (.as (nat x2.2.2.1))), (2, (.as (Value.bool (decide (0 < x2.2.2.1)))))] (.br (.openr (bytB b) (.reg [(0, .g), (1, .g), (2, .g), (3, .g), (4, .g), (5, .g), (6, (.ld 0 (.lit 72))), (7, (.as (u64 (x2.1.n % 64)))), (8, (.as (Value.slice (some ⟨c, (8 + ((x2.1.n % 64).toNat)), none⟩) (64 - ((x2.1.n % 64).toNat)) (64 - ((x2.1.n % 64).toNat))))), (9, .g), (10, (.oth [(0, false), (1, true)] 0 0 (fun _ => nat (min x2.2.2.1 (64 - ((x2.1.n % 64).toNat)))) (fun _ => [some ⟨c, true, 0, hashC (HS.mk x2.1.s (cpyL x2.1.l ((x2.1.n % 64).toNat) (min x2.2.2.1 (64 - ((x2.1.n % 64).toNat))) (fun j => b.wf ((b.wn - x2.2.2.1) + j))) x2.1.n)⟩, none]))), (11, .g)] (.reg [(0, .g), (1, .g), (2, (.as (Value.slice (fromA x2.2.1 x2.2.2.2 (min x2.2.2.1 (64 - ((x2.1.n % 64).toNat))) 1) (x2.2.2.1 - (min x2.2.2.1 (64 - ((x2.1.n % 64).toNat)))) (x2.2.2.2 - (min x2.2.2.1 (64 - ((x2.1.n % 64).toNat))))))), (3, .g)] (.reg [(0, .g), (1, .g), (2, .g), (3, (.ld 0 (.lit 72))), (4, .g), (5, (.as (u64 (UInt64.ofNat (min x2.2.2.1 (64 - ((x2.1.n % 64).toNat))))))), (6, (.as (u64 (x2.1.n + (UInt64.ofNat (min x2.2.2.1 (64 - ((x2.1.n % 64).toNat)))))))), (7, .g), (8, .g), (9, (.stc 0 (.lit 72) (hashC (HS.mk x2.1.s (cpyL x2.1.l ((x2.1.n % 64).toNat) (min x2.2.2.1 (64 - ((x2.1.n % 64).toNat))) (fun j => b.wf ((b.wn - x2.2.2.1) + j))) (x2.1.n + (UInt64.ofNat (min x2.2.2.1 (64 - ((x2.1.n % 64).toNat)))))))))] (.reg [(0, .g), (1, .g), (2, .g), (3, (.ld 0 (.lit 72))), (4, (.as (u64 ((x2.1.n + (UInt64.ofNat (min x2.2.2.1 (64 - ((x2.1.n % 64).toNat))))) % 64)))), (5, (.as (Value.bool (((x2.1.n + (UInt64.ofNat (min x2.2.2.1 (64 - ((x2.1.n % 64).toNat))))) % 64) == 0))))] (.br (.reg [(0, .g), (1, .g), (2, .g), (3, .g), (4, (.ld 0 (.lit 0))), (5, .g), (6, .g), (7, .g), (8, (.ld 0 (.lit 8))), (9, (.callF [] 0 0 (fun _ => (vecV 8 (fun k => u32 (mixS x2.1.s (cpyL x2.1.l ((x2.1.n % 64).toNat) (min x2.2.2.1 (64 - ((x2.1.n % 64).toNat))) (fun j => b.wf ((b.wn - x2.2.2.1) + j))) k)))) (fun _ => []))), (10, .g), (11, .g), (12, (.stc 0 (.lit 0) (hashC (HS.mk (mixS x2.1.s (cpyL x2.1.l ((x2.1.n % 64).toNat) (min x2.2.2.1 (64 - ((x2.1.n % 64).toNat))) (fun j => b.wf ((b.wn - x2.2.2.1) + j)))) (cpyL x2.1.l ((x2.1.n % 64).toNat) (min x2.2.2.1 (64 - ((x2.1.n % 64).toNat))) (fun j => b.wf ((b.wn - x2.2.2.1) + j))) (x2.1.n + (UInt64.ofNat (min x2.2.2.1 (64 - ((x2.1.n % 64).toNat)))))))))] .done) .done)))))) .done)))))) [] [] rfl
    (have f0 := hb.len; have f1 := hb.cap; Eq.mp (by kernel_rfl) (aI (sk (sk (sk (aI (aT (ad c 72)) (aI (aT (@is_eql64 Tryd.prog 22 22 (.tmp 8) (.const (.int .u64 0)) H.n 0)) tV))))) (aT (aI (fun (h1 : (H.n == 0) = true) => aI (Or.inl (Or.inl rfl) : famTB b begB) (aI (sk (aI (aT (ad 0 0)) (sk (sk (aI (aT (aT (aI (@rfl Value (ptr c 0)) (st_words H begW)))) tV))))) (aI (show (write_fam_R1 c H b) (((HS.mk begW H.l H.n), b.wa, b.wn, b.wc) : HS × (Option Addr) × Nat × Nat) from (show (b.wn ≤ b.wn) ∧ (b.wn ≤ b.wc) ∧ ((HS.mk begW H.l H.n) = puts (wakeH H) b.wf (b.wn - b.wn)) ∧ (0 < b.wn → b.wa = some ⟨b.wb, b.wo + (b.wn - b.wn), none⟩) ∧ (b.wc ≤ b.wc) from by exact wr_init hb (by first | exact (if_pos (by assumption)).symm | exact (if_neg (by simp_all)).symm))) (aI (@rfl St ((write_fam_S1 c H b) (((HS.mk begW H.l H.n), b.wa, b.wn, b.wc) : HS × (Option Addr) × Nat × Nat))) (fun (x1 : HS × (Option Addr) × Nat × Nat) (hx1 : (write_fam_R1 c H b) x1) => have B0 : x1.2.2.1 ≤ b.wn := hx1.1; have B1 : x1.2.2.1 ≤ x1.2.2.2 := hx1.2.1; have B2 : x1.1 = puts (wakeH H) b.wf (b.wn - x1.2.2.1) := hx1.2.2.1; have B3 : 0 < x1.2.2.1 → x1.2.1 = some ⟨b.wb, b.wo + (b.wn - x1.2.2.1), none⟩ := hx1.2.2.2.1; have B4 : x1.2.2.2 ≤ b.wc := hx1.2.2.2.2; aI (sk (aI (aT (@is_len Tryd.prog 42 5 (.tmp 14) (by kernel_rfl) x1.2.1 x1.2.2.1 x1.2.2.2)) (aI (aT (@is_gtrn Tryd.prog 3 3 (.tmp 15) (.const (.int .i64 0))  x1.2.2.1 0)) tV))) (aT (aI (fun (h2 : (decide (0 < x1.2.2.1)) = true) => have f8 := (oT h2); aI (Or.inr ⟨(show 0 < b.wn from by omega), rfl⟩ : famTB b (bytB b)) (aI (sk (sk (sk (sk (sk (sk (aI (aT (ad c 72)) (aI (aT (@is_rem64 Tryd.prog 22 22 (.tmp 23) (.const (.int .u64 64)) x1.1.n 64 (by decide))) (aI (aT (@is_slArrN Tryd.prog 5 91 (.tmp 19) (.tmp 24) 64 (by kernel_rfl) (by kernel_rfl) c 8 ((x1.1.n % 64).toNat) .u64 (n64_lt _))) (sk (aI (aT (srun_cpLastA (P := Tryd.prog) (dT := 42) (sT := 42) (ty := 3) (e := 5) (by kernel_rfl) (by kernel_rfl) x1.1 b.wf c b.wb b.wo (b.wn - x1.2.2.1) ((x1.1.n % 64).toNat) x1.2.2.1 x1.2.2.2 (64 - ((x1.1.n % 64).toNat)) b.wn (n64_lt _) (show (b.wn - x1.2.2.1) + x1.2.2.1 ≤ b.wn from by omega) (by exact B3 (by omega)))) (sk tV)))))))))))) (aI (sk (sk (aI (aT (@is_slqFrom Tryd.prog 42 5 (.tmp 28) (.tmp 29) (by kernel_rfl) 1 (by kernel_rfl) x1.2.1 x1.2.2.1 x1.2.2.2 (min x1.2.2.1 (64 - ((x1.1.n % 64).toNat))) (show min x1.2.2.1 (64 - ((x1.1.n % 64).toNat)) ≤ x1.2.2.1 ∧ x1.2.2.1 ≤ x1.2.2.2 from by omega))) (sk tV)))) (aI (sk (sk (sk (aI (aT (ad c 72)) (sk (aI (aT (@conv_int_u64 Tryd.prog 3 22 (.tmp 35) (by kernel_rfl) (by kernel_rfl) (min x1.2.2.1 (64 - ((x1.1.n % 64).toNat))))) (aI (aT (@is_add64 Tryd.prog 22 22 (.tmp 34) (.tmp 36) x1.1.n (UInt64.ofNat (min x1.2.2.1 (64 - ((x1.1.n % 64).toNat)))))) (sk (sk (aI (aT (aT (aI (@rfl Value (ptr c 72)) (st_num (HS.mk x1.1.s (cpyL x1.1.l ((x1.1.n % 64).toNat) (min x1.2.2.1 (64 - ((x1.1.n % 64).toNat))) (fun j => b.wf ((b.wn - x1.2.2.1) + j))) x1.1.n) (x1.1.n + (UInt64.ofNat (min x1.2.2.1 (64 - ((x1.1.n % 64).toNat))))))))) tV)))))))))) (aI (sk (sk (sk (aI (aT (ad c 72)) (aI (aT (@is_rem64 Tryd.prog 22 22 (.tmp 43) (.const (.int .u64 64)) (x1.1.n + (UInt64.ofNat (min x1.2.2.1 (64 - ((x1.1.n % 64).toNat))))) 64 (by decide))) (aI (aT (@is_eql64 Tryd.prog 22 22 (.tmp 44) (.const (.int .u64 0)) ((x1.1.n + (UInt64.ofNat (min x1.2.2.1 (64 - ((x1.1.n % 64).toNat))))) % 64) 0)) tV)))))) (aT (aI (fun (h3 : (((x1.1.n + (UInt64.ofNat (min x1.2.2.1 (64 - ((x1.1.n % 64).toNat))))) % 64) == 0) = true) => aI (sk (sk (sk (sk (aI (aT (ad c 0)) (sk (sk (sk (aI (aT (ad c 8)) (aI (aT (RunsF.mono (fun (x : Blk) (h : famT x) => (Or.inl h : famTB b x)) (mix_fam x1.1.s (cpyL x1.1.l ((x1.1.n % 64).toNat) (min x1.2.2.1 (64 - ((x1.1.n % 64).toNat))) (fun j => b.wf ((b.wn - x1.2.2.1) + j)))))) (sk (sk (aI (aT (aT (aI (@rfl Value (ptr c 0)) (st_words (HS.mk x1.1.s (cpyL x1.1.l ((x1.1.n % 64).toNat) (min x1.2.2.1 (64 - ((x1.1.n % 64).toNat))) (fun j => b.wf ((b.wn - x1.2.2.1) + j))) (x1.1.n + (UInt64.ofNat (min x1.2.2.1 (64 - ((x1.1.n % 64).toNat)))))) (mixS x1.1.s (cpyL x1.1.l ((x1.1.n % 64).toNat) (min x1.2.2.1 (64 - ((x1.1.n % 64).toNat))) (fun j => b.wf ((b.wn - x1.2.2.1) + j)))))))) tV))))))))))))) ((rnd (write_fam_R1 c H b) (write_fam_S1 c H b) (write_fam_mu1 c H b) x1 (((HS.mk (mixS x1.1.s (cpyL x1.1.l ((x1.1.n % 64).toNat) (min x1.2.2.1 (64 - ((x1.1.n % 64).toNat))) (fun j => b.wf ((b.wn - x1.2.2.1) + j)))) (cpyL x1.1.l ((x1.1.n % 64).toNat) (min x1.2.2.1 (64 - ((x1.1.n % 64).toNat))) (fun j => b.wf ((b.wn - x1.2.2.1) + j))) (x1.1.n + (UInt64.ofNat (min x1.2.2.1 (64 - ((x1.1.n % 64).toNat)))))), (fromA x1.2.1 x1.2.2.2 (min x1.2.2.1 (64 - ((x1.1.n % 64).toNat))) 1), x1.2.2.1 - (min x1.2.2.1 (64 - ((x1.1.n % 64).toNat))), x1.2.2.2 - (min x1.2.2.1 (64 - ((x1.1.n % 64).toNat)))) : HS × (Option Addr) × Nat × Nat) (show (write_fam_R1 c H b) (((HS.mk (mixS x1.1.s (cpyL x1.1.l ((x1.1.n % 64).toNat) (min x1.2.2.1 (64 - ((x1.1.n % 64).toNat))) (fun j => b.wf ((b.wn - x1.2.2.1) + j)))) (cpyL x1.1.l ((x1.1.n % 64).toNat) (min x1.2.2.1 (64 - ((x1.1.n % 64).toNat))) (fun j => b.wf ((b.wn - x1.2.2.1) + j))) (x1.1.n + (UInt64.ofNat (min x1.2.2.1 (64 - ((x1.1.n % 64).toNat)))))), (fromA x1.2.1 x1.2.2.2 (min x1.2.2.1 (64 - ((x1.1.n % 64).toNat))) 1), x1.2.2.1 - (min x1.2.2.1 (64 - ((x1.1.n % 64).toNat))), x1.2.2.2 - (min x1.2.2.1 (64 - ((x1.1.n % 64).toNat)))) : HS × (Option Addr) × Nat × Nat) ∧ (write_fam_mu1 c H b) (((HS.mk (mixS x1.1.s (cpyL x1.1.l ((x1.1.n % 64).toNat) (min x1.2.2.1 (64 - ((x1.1.n % 64).toNat))) (fun j => b.wf ((b.wn - x1.2.2.1) + j)))) (cpyL x1.1.l ((x1.1.n % 64).toNat) (min x1.2.2.1 (64 - ((x1.1.n % 64).toNat))) (fun j => b.wf ((b.wn - x1.2.2.1) + j))) (x1.1.n + (UInt64.ofNat (min x1.2.2.1 (64 - ((x1.1.n % 64).toNat)))))), (fromA x1.2.1 x1.2.2.2 (min x1.2.2.1 (64 - ((x1.1.n % 64).toNat))) 1), x1.2.2.1 - (min x1.2.2.1 (64 - ((x1.1.n % 64).toNat))), x1.2.2.2 - (min x1.2.2.1 (64 - ((x1.1.n % 64).toNat)))) : HS × (Option Addr) × Nat × Nat) < (write_fam_mu1 c H b) x1 from (show (((x1.2.2.1 - (min x1.2.2.1 (64 - ((x1.1.n % 64).toNat)))) ≤ b.wn) ∧ ((x1.2.2.1 - (min x1.2.2.1 (64 - ((x1.1.n % 64).toNat)))) ≤ (x1.2.2.2 - (min x1.2.2.1 (64 - ((x1.1.n % 64).toNat))))) ∧ ((HS.mk (mixS x1.1.s (cpyL x1.1.l ((x1.1.n % 64).toNat) (min x1.2.2.1 (64 - ((x1.1.n % 64).toNat))) (fun j => b.wf ((b.wn - x1.2.2.1) + j)))) (cpyL x1.1.l ((x1.1.n % 64).toNat) (min x1.2.2.1 (64 - ((x1.1.n % 64).toNat))) (fun j => b.wf ((b.wn - x1.2.2.1) + j))) (x1.1.n + (UInt64.ofNat (min x1.2.2.1 (64 - ((x1.1.n % 64).toNat)))))) = puts (wakeH H) b.wf (b.wn - (x1.2.2.1 - (min x1.2.2.1 (64 - ((x1.1.n % 64).toNat)))))) ∧ (0 < (x1.2.2.1 - (min x1.2.2.1 (64 - ((x1.1.n % 64).toNat)))) → (fromA x1.2.1 x1.2.2.2 (min x1.2.2.1 (64 - ((x1.1.n % 64).toNat))) 1) = some ⟨b.wb, b.wo + (b.wn - (x1.2.2.1 - (min x1.2.2.1 (64 - ((x1.1.n % 64).toNat))))), none⟩) ∧ ((x1.2.2.2 - (min x1.2.2.1 (64 - ((x1.1.n % 64).toNat)))) ≤ b.wc)) ∧ (x1.2.2.1 - (min x1.2.2.1 (64 - ((x1.1.n % 64).toNat)))) < x1.2.2.1 from by first | exact wr_step (by omega) B0 B1 B2 B3 B4 (wr_no rfl (by assumption)) rfl (n64_lt _) | exact wr_step (by omega) B0 B1 B2 B3 B4 (wr_yes (by omega) rfl (by assumption)) rfl (n64_lt _)))))) (fun (h3 : (((x1.1.n + (UInt64.ofNat (min x1.2.2.1 (64 - ((x1.1.n % 64).toNat))))) % 64) == 0) = false) => (rnd (write_fam_R1 c H b) (write_fam_S1 c H b) (write_fam_mu1 c H b) x1 (((HS.mk x1.1.s (cpyL x1.1.l ((x1.1.n % 64).toNat) (min x1.2.2.1 (64 - ((x1.1.n % 64).toNat))) (fun j => b.wf ((b.wn - x1.2.2.1) + j))) (x1.1.n + (UInt64.ofNat (min x1.2.2.1 (64 - ((x1.1.n % 64).toNat)))))), (fromA x1.2.1 x1.2.2.2 (min x1.2.2.1 (64 - ((x1.1.n % 64).toNat))) 1), x1.2.2.1 - (min x1.2.2.1 (64 - ((x1.1.n % 64).toNat))), x1.2.2.2 - (min x1.2.2.1 (64 - ((x1.1.n % 64).toNat)))) : HS × (Option Addr) × Nat × Nat) (show (write_fam_R1 c H b) (((HS.mk x1.1.s (cpyL x1.1.l ((x1.1.n % 64).toNat) (min x1.2.2.1 (64 - ((x1.1.n % 64).toNat))) (fun j => b.wf ((b.wn - x1.2.2.1) + j))) (x1.1.n + (UInt64.ofNat (min x1.2.2.1 (64 - ((x1.1.n % 64).toNat)))))), (fromA x1.2.1 x1.2.2.2 (min x1.2.2.1 (64 - ((x1.1.n % 64).toNat))) 1), x1.2.2.1 - (min x1.2.2.1 (64 - ((x1.1.n % 64).toNat))), x1.2.2.2 - (min x1.2.2.1 (64 - ((x1.1.n % 64).toNat)))) : HS × (Option Addr) × Nat × Nat) ∧ (write_fam_mu1 c H b) (((HS.mk x1.1.s (cpyL x1.1.l ((x1.1.n % 64).toNat) (min x1.2.2.1 (64 - ((x1.1.n % 64).toNat))) (fun j => b.wf ((b.wn - x1.2.2.1) + j))) (x1.1.n + (UInt64.ofNat (min x1.2.2.1 (64 - ((x1.1.n % 64).toNat)))))), (fromA x1.2.1 x1.2.2.2 (min x1.2.2.1 (64 - ((x1.1.n % 64).toNat))) 1), x1.2.2.1 - (min x1.2.2.1 (64 - ((x1.1.n % 64).toNat))), x1.2.2.2 - (min x1.2.2.1 (64 - ((x1.1.n % 64).toNat)))) : HS × (Option Addr) × Nat × Nat) < (write_fam_mu1 c H b) x1 from (show (((x1.2.2.1 - (min x1.2.2.1 (64 - ((x1.1.n % 64).toNat)))) ≤ b.wn) ∧ ((x1.2.2.1 - (min x1.2.2.1 (64 - ((x1.1.n % 64).toNat)))) ≤ (x1.2.2.2 - (min x1.2.2.1 (64 - ((x1.1.n % 64).toNat))))) ∧ ((HS.mk x1.1.s (cpyL x1.1.l ((x1.1.n % 64).toNat) (min x1.2.2.1 (64 - ((x1.1.n % 64).toNat))) (fun j => b.wf ((b.wn - x1.2.2.1) + j))) (x1.1.n + (UInt64.ofNat (min x1.2.2.1 (64 - ((x1.1.n % 64).toNat)))))) = puts (wakeH H) b.wf (b.wn - (x1.2.2.1 - (min x1.2.2.1 (64 - ((x1.1.n % 64).toNat)))))) ∧ (0 < (x1.2.2.1 - (min x1.2.2.1 (64 - ((x1.1.n % 64).toNat)))) → (fromA x1.2.1 x1.2.2.2 (min x1.2.2.1 (64 - ((x1.1.n % 64).toNat))) 1) = some ⟨b.wb, b.wo + (b.wn - (x1.2.2.1 - (min x1.2.2.1 (64 - ((x1.1.n % 64).toNat))))), none⟩) ∧ ((x1.2.2.2 - (min x1.2.2.1 (64 - ((x1.1.n % 64).toNat)))) ≤ b.wc)) ∧ (x1.2.2.1 - (min x1.2.2.1 (64 - ((x1.1.n % 64).toNat)))) < x1.2.2.1 from by first | exact wr_step (by omega) B0 B1 B2 B3 B4 (wr_no rfl (by assumption)) rfl (n64_lt _) | exact wr_step (by omega) B0 B1 B2 B3 B4 (wr_yes (by omega) rfl (by assumption)) rfl (n64_lt _)))))))))))) (fun (h2 : (decide (0 < x1.2.2.1)) = false) => have f8 := (oF h2); aT (eX (fun (ns : List Nat) => ns.length = 0 ∧ ((Value.tuple #[]) : Value) = (fun (_ : List Nat) => Value.tuple #[]) ns ∧ ([some ⟨c, true, 0, (hashC x1.1)⟩] : List (Option Blk)) = (fun (_ : List Nat) => [some ⟨c, true, 0, (hashC (wrH H b.wf b.wn))⟩]) ns) [] (aI (@rfl Nat 0) (aI (@rfl Value (Value.tuple #[])) ((show ([some ⟨c, true, 0, (hashC x1.1)⟩] : List (Option Blk)) = [some ⟨c, true, 0, (hashC (wrH H b.wf b.wn))⟩] from by rw [wr_fin B2 (by omega)]))))))))))))) (fun (h1 : (H.n == 0) = false) => aI (show (write_fam_R2 c H b) ((H, b.wa, b.wn, b.wc) : HS × (Option Addr) × Nat × Nat) from (show (b.wn ≤ b.wn) ∧ (b.wn ≤ b.wc) ∧ (H = puts (wakeH H) b.wf (b.wn - b.wn)) ∧ (0 < b.wn → b.wa = some ⟨b.wb, b.wo + (b.wn - b.wn), none⟩) ∧ (b.wc ≤ b.wc) from by exact wr_init hb (by first | exact (if_pos (by assumption)).symm | exact (if_neg (by simp_all)).symm))) (aI (@rfl St ((write_fam_S2 c H b) ((H, b.wa, b.wn, b.wc) : HS × (Option Addr) × Nat × Nat))) (fun (x2 : HS × (Option Addr) × Nat × Nat) (hx2 : (write_fam_R2 c H b) x2) => have B0 : x2.2.2.1 ≤ b.wn := hx2.1; have B1 : x2.2.2.1 ≤ x2.2.2.2 := hx2.2.1; have B2 : x2.1 = puts (wakeH H) b.wf (b.wn - x2.2.2.1) := hx2.2.2.1; have B3 : 0 < x2.2.2.1 → x2.2.1 = some ⟨b.wb, b.wo + (b.wn - x2.2.2.1), none⟩ := hx2.2.2.2.1; have B4 : x2.2.2.2 ≤ b.wc := hx2.2.2.2.2; aI (sk (aI (aT (@is_len Tryd.prog 42 5 (.tmp 14) (by kernel_rfl) x2.2.1 x2.2.2.1 x2.2.2.2)) (aI (aT (@is_gtrn Tryd.prog 3 3 (.tmp 15) (.const (.int .i64 0))  x2.2.2.1 0)) tV))) (aT (aI (fun (h4 : (decide (0 < x2.2.2.1)) = true) => have f8 := (oT h4); aI (Or.inr ⟨(show 0 < b.wn from by omega), rfl⟩ : famTB b (bytB b)) (aI (sk (sk (sk (sk (sk (sk (aI (aT (ad c 72)) (aI (aT (@is_rem64 Tryd.prog 22 22 (.tmp 23) (.const (.int .u64 64)) x2.1.n 64 (by decide))) (aI (aT (@is_slArrN Tryd.prog 5 91 (.tmp 19) (.tmp 24) 64 (by kernel_rfl) (by kernel_rfl) c 8 ((x2.1.n % 64).toNat) .u64 (n64_lt _))) (sk (aI (aT (srun_cpLastA (P := Tryd.prog) (dT := 42) (sT := 42) (ty := 3) (e := 5) (by kernel_rfl) (by kernel_rfl) x2.1 b.wf c b.wb b.wo (b.wn - x2.2.2.1) ((x2.1.n % 64).toNat) x2.2.2.1 x2.2.2.2 (64 - ((x2.1.n % 64).toNat)) b.wn (n64_lt _) (show (b.wn - x2.2.2.1) + x2.2.2.1 ≤ b.wn from by omega) (by exact B3 (by omega)))) (sk tV)))))))))))) (aI (sk (sk (aI (aT (@is_slqFrom Tryd.prog 42 5 (.tmp 28) (.tmp 29) (by kernel_rfl) 1 (by kernel_rfl) x2.2.1 x2.2.2.1 x2.2.2.2 (min x2.2.2.1 (64 - ((x2.1.n % 64).toNat))) (show min x2.2.2.1 (64 - ((x2.1.n % 64).toNat)) ≤ x2.2.2.1 ∧ x2.2.2.1 ≤ x2.2.2.2 from by omega))) (sk tV)))) (aI (sk (sk (sk (aI (aT (ad c 72)) (sk (aI (aT (@conv_int_u64 Tryd.prog 3 22 (.tmp 35) (by kernel_rfl) (by kernel_rfl) (min x2.2.2.1 (64 - ((x2.1.n % 64).toNat))))) (aI (aT (@is_add64 Tryd.prog 22 22 (.tmp 34) (.tmp 36) x2.1.n (UInt64.ofNat (min x2.2.2.1 (64 - ((x2.1.n % 64).toNat)))))) (sk (sk (aI (aT (aT (aI (@rfl Value (ptr c 72)) (st_num (HS.mk x2.1.s (cpyL x2.1.l ((x2.1.n % 64).toNat) (min x2.2.2.1 (64 - ((x2.1.n % 64).toNat))) (fun j => b.wf ((b.wn - x2.2.2.1) + j))) x2.1.n) (x2.1.n + (UInt64.ofNat (min x2.2.2.1 (64 - ((x2.1.n % 64).toNat))))))))) tV)))))))))) (aI (sk (sk (sk (aI (aT (ad c 72)) (aI (aT (@is_rem64 Tryd.prog 22 22 (.tmp 43) (.const (.int .u64 64)) (x2.1.n + (UInt64.ofNat (min x2.2.2.1 (64 - ((x2.1.n % 64).toNat))))) 64 (by decide))) (aI (aT (@is_eql64 Tryd.prog 22 22 (.tmp 44) (.const (.int .u64 0)) ((x2.1.n + (UInt64.ofNat (min x2.2.2.1 (64 - ((x2.1.n % 64).toNat))))) % 64) 0)) tV)))))) (aT (aI (fun (h5 : (((x2.1.n + (UInt64.ofNat (min x2.2.2.1 (64 - ((x2.1.n % 64).toNat))))) % 64) == 0) = true) => aI (sk (sk (sk (sk (aI (aT (ad c 0)) (sk (sk (sk (aI (aT (ad c 8)) (aI (aT (RunsF.mono (fun (x : Blk) (h : famT x) => (Or.inl h : famTB b x)) (mix_fam x2.1.s (cpyL x2.1.l ((x2.1.n % 64).toNat) (min x2.2.2.1 (64 - ((x2.1.n % 64).toNat))) (fun j => b.wf ((b.wn - x2.2.2.1) + j)))))) (sk (sk (aI (aT (aT (aI (@rfl Value (ptr c 0)) (st_words (HS.mk x2.1.s (cpyL x2.1.l ((x2.1.n % 64).toNat) (min x2.2.2.1 (64 - ((x2.1.n % 64).toNat))) (fun j => b.wf ((b.wn - x2.2.2.1) + j))) (x2.1.n + (UInt64.ofNat (min x2.2.2.1 (64 - ((x2.1.n % 64).toNat)))))) (mixS x2.1.s (cpyL x2.1.l ((x2.1.n % 64).toNat) (min x2.2.2.1 (64 - ((x2.1.n % 64).toNat))) (fun j => b.wf ((b.wn - x2.2.2.1) + j)))))))) tV))))))))))))) ((rnd (write_fam_R2 c H b) (write_fam_S2 c H b) (write_fam_mu2 c H b) x2 (((HS.mk (mixS x2.1.s (cpyL x2.1.l ((x2.1.n % 64).toNat) (min x2.2.2.1 (64 - ((x2.1.n % 64).toNat))) (fun j => b.wf ((b.wn - x2.2.2.1) + j)))) (cpyL x2.1.l ((x2.1.n % 64).toNat) (min x2.2.2.1 (64 - ((x2.1.n % 64).toNat))) (fun j => b.wf ((b.wn - x2.2.2.1) + j))) (x2.1.n + (UInt64.ofNat (min x2.2.2.1 (64 - ((x2.1.n % 64).toNat)))))), (fromA x2.2.1 x2.2.2.2 (min x2.2.2.1 (64 - ((x2.1.n % 64).toNat))) 1), x2.2.2.1 - (min x2.2.2.1 (64 - ((x2.1.n % 64).toNat))), x2.2.2.2 - (min x2.2.2.1 (64 - ((x2.1.n % 64).toNat)))) : HS × (Option Addr) × Nat × Nat) (show (write_fam_R2 c H b) (((HS.mk (mixS x2.1.s (cpyL x2.1.l ((x2.1.n % 64).toNat) (min x2.2.2.1 (64 - ((x2.1.n % 64).toNat))) (fun j => b.wf ((b.wn - x2.2.2.1) + j)))) (cpyL x2.1.l ((x2.1.n % 64).toNat) (min x2.2.2.1 (64 - ((x2.1.n % 64).toNat))) (fun j => b.wf ((b.wn - x2.2.2.1) + j))) (x2.1.n + (UInt64.ofNat (min x2.2.2.1 (64 - ((x2.1.n % 64).toNat)))))), (fromA x2.2.1 x2.2.2.2 (min x2.2.2.1 (64 - ((x2.1.n % 64).toNat))) 1), x2.2.2.1 - (min x2.2.2.1 (64 - ((x2.1.n % 64).toNat))), x2.2.2.2 - (min x2.2.2.1 (64 - ((x2.1.n % 64).toNat)))) : HS × (Option Addr) × Nat × Nat) ∧ (write_fam_mu2 c H b) (((HS.mk (mixS x2.1.s (cpyL x2.1.l ((x2.1.n % 64).toNat) (min x2.2.2.1 (64 - ((x2.1.n % 64).toNat))) (fun j => b.wf ((b.wn - x2.2.2.1) + j)))) (cpyL x2.1.l ((x2.1.n % 64).toNat) (min x2.2.2.1 (64 - ((x2.1.n % 64).toNat))) (fun j => b.wf ((b.wn - x2.2.2.1) + j))) (x2.1.n + (UInt64.ofNat (min x2.2.2.1 (64 - ((x2.1.n % 64).toNat)))))), (fromA x2.2.1 x2.2.2.2 (min x2.2.2.1 (64 - ((x2.1.n % 64).toNat))) 1), x2.2.2.1 - (min x2.2.2.1 (64 - ((x2.1.n % 64).toNat))), x2.2.2.2 - (min x2.2.2.1 (64 - ((x2.1.n % 64).toNat)))) : HS × (Option Addr) × Nat × Nat) < (write_fam_mu2 c H b) x2 from (show (((x2.2.2.1 - (min x2.2.2.1 (64 - ((x2.1.n % 64).toNat)))) ≤ b.wn) ∧ ((x2.2.2.1 - (min x2.2.2.1 (64 - ((x2.1.n % 64).toNat)))) ≤ (x2.2.2.2 - (min x2.2.2.1 (64 - ((x2.1.n % 64).toNat))))) ∧ ((HS.mk (mixS x2.1.s (cpyL x2.1.l ((x2.1.n % 64).toNat) (min x2.2.2.1 (64 - ((x2.1.n % 64).toNat))) (fun j => b.wf ((b.wn - x2.2.2.1) + j)))) (cpyL x2.1.l ((x2.1.n % 64).toNat) (min x2.2.2.1 (64 - ((x2.1.n % 64).toNat))) (fun j => b.wf ((b.wn - x2.2.2.1) + j))) (x2.1.n + (UInt64.ofNat (min x2.2.2.1 (64 - ((x2.1.n % 64).toNat)))))) = puts (wakeH H) b.wf (b.wn - (x2.2.2.1 - (min x2.2.2.1 (64 - ((x2.1.n % 64).toNat)))))) ∧ (0 < (x2.2.2.1 - (min x2.2.2.1 (64 - ((x2.1.n % 64).toNat)))) → (fromA x2.2.1 x2.2.2.2 (min x2.2.2.1 (64 - ((x2.1.n % 64).toNat))) 1) = some ⟨b.wb, b.wo + (b.wn - (x2.2.2.1 - (min x2.2.2.1 (64 - ((x2.1.n % 64).toNat))))), none⟩) ∧ ((x2.2.2.2 - (min x2.2.2.1 (64 - ((x2.1.n % 64).toNat)))) ≤ b.wc)) ∧ (x2.2.2.1 - (min x2.2.2.1 (64 - ((x2.1.n % 64).toNat)))) < x2.2.2.1 from by first | exact wr_step (by omega) B0 B1 B2 B3 B4 (wr_no rfl (by assumption)) rfl (n64_lt _) | exact wr_step (by omega) B0 B1 B2 B3 B4 (wr_yes (by omega) rfl (by assumption)) rfl (n64_lt _)))))) (fun (h5 : (((x2.1.n + (UInt64.ofNat (min x2.2.2.1 (64 - ((x2.1.n % 64).toNat))))) % 64) == 0) = false) => (rnd (write_fam_R2 c H b) (write_fam_S2 c H b) (write_fam_mu2 c H b) x2 (((HS.mk x2.1.s (cpyL x2.1.l ((x2.1.n % 64).toNat) (min x2.2.2.1 (64 - ((x2.1.n % 64).toNat))) (fun j => b.wf ((b.wn - x2.2.2.1) + j))) (x2.1.n + (UInt64.ofNat (min x2.2.2.1 (64 - ((x2.1.n % 64).toNat)))))), (fromA x2.2.1 x2.2.2.2 (min x2.2.2.1 (64 - ((x2.1.n % 64).toNat))) 1), x2.2.2.1 - (min x2.2.2.1 (64 - ((x2.1.n % 64).toNat))), x2.2.2.2 - (min x2.2.2.1 (64 - ((x2.1.n % 64).toNat)))) : HS × (Option Addr) × Nat × Nat) (show (write_fam_R2 c H b) (((HS.mk x2.1.s (cpyL x2.1.l ((x2.1.n % 64).toNat) (min x2.2.2.1 (64 - ((x2.1.n % 64).toNat))) (fun j => b.wf ((b.wn - x2.2.2.1) + j))) (x2.1.n + (UInt64.ofNat (min x2.2.2.1 (64 - ((x2.1.n % 64).toNat)))))), (fromA x2.2.1 x2.2.2.2 (min x2.2.2.1 (64 - ((x2.1.n % 64).toNat))) 1), x2.2.2.1 - (min x2.2.2.1 (64 - ((x2.1.n % 64).toNat))), x2.2.2.2 - (min x2.2.2.1 (64 - ((x2.1.n % 64).toNat)))) : HS × (Option Addr) × Nat × Nat) ∧ (write_fam_mu2 c H b) (((HS.mk x2.1.s (cpyL x2.1.l ((x2.1.n % 64).toNat) (min x2.2.2.1 (64 - ((x2.1.n % 64).toNat))) (fun j => b.wf ((b.wn - x2.2.2.1) + j))) (x2.1.n + (UInt64.ofNat (min x2.2.2.1 (64 - ((x2.1.n % 64).toNat)))))), (fromA x2.2.1 x2.2.2.2 (min x2.2.2.1 (64 - ((x2.1.n % 64).toNat))) 1), x2.2.2.1 - (min x2.2.2.1 (64 - ((x2.1.n % 64).toNat))), x2.2.2.2 - (min x2.2.2.1 (64 - ((x2.1.n % 64).toNat)))) : HS × (Option Addr) × Nat × Nat) < (write_fam_mu2 c H b) x2 from (show (((x2.2.2.1 - (min x2.2.2.1 (64 - ((x2.1.n % 64).toNat)))) ≤ b.wn) ∧ ((x2.2.2.1 - (min x2.2.2.1 (64 - ((x2.1.n % 64).toNat)))) ≤ (x2.2.2.2 - (min x2.2.2.1 (64 - ((x2.1.n % 64).toNat))))) ∧ ((HS.mk x2.1.s (cpyL x2.1.l ((x2.1.n % 64).toNat) (min x2.2.2.1 (64 - ((x2.1.n % 64).toNat))) (fun j => b.wf ((b.wn - x2.2.2.1) + j))) (x2.1.n + (UInt64.ofNat (min x2.2.2.1 (64 - ((x2.1.n % 64).toNat)))))) = puts (wakeH H) b.wf (b.wn - (x2.2.2.1 - (min x2.2.2.1 (64 - ((x2.1.n % 64).toNat)))))) ∧ (0 < (x2.2.2.1 - (min x2.2.2.1 (64 - ((x2.1.n % 64).toNat)))) → (fromA x2.2.1 x2.2.2.2 (min x2.2.2.1 (64 - ((x2.1.n % 64).toNat))) 1) = some ⟨b.wb, b.wo + (b.wn - (x2.2.2.1 - (min x2.2.2.1 (64 - ((x2.1.n % 64).toNat))))), none⟩) ∧ ((x2.2.2.2 - (min x2.2.2.1 (64 - ((x2.1.n % 64).toNat)))) ≤ b.wc)) ∧ (x2.2.2.1 - (min x2.2.2.1 (64 - ((x2.1.n % 64).toNat)))) < x2.2.2.1 from by first | exact wr_step (by omega) B0 B1 B2 B3 B4 (wr_no rfl (by assumption)) rfl (n64_lt _) | exact wr_step (by omega) B0 B1 B2 B3 B4 (wr_yes (by omega) rfl (by assumption)) rfl (n64_lt _)))))))))))) (fun (h4 : (decide (0 < x2.2.2.1)) = false) => have f8 := (oF h4); aT (eX (fun (ns : List Nat) => ns.length = 0 ∧ ((Value.tuple #[]) : Value) = (fun (_ : List Nat) => Value.tuple #[]) ns ∧ ([some ⟨c, true, 0, (hashC x2.1)⟩] : List (Option Blk)) = (fun (_ : List Nat) => [some ⟨c, true, 0, (hashC (wrH H b.wf b.wn))⟩]) ns) [] (aI (@rfl Nat 0) (aI (@rfl Value (Value.tuple #[])) ((show ([some ⟨c, true, 0, (hashC x2.1)⟩] : List (Option Blk)) = [some ⟨c, true, 0, (hashC (wrH H b.wf b.wn))⟩] from by rw [wr_fin B2 (by omega)])))))))))))))))
theorem write_own {F : Blk → Prop} (hT : ∀ x, famT x → F x) (c : Nat) (H : HS) (nm n cc : Nat) (f : Nat → UInt8) (B : Blk) (hn : B.has nm) (ho : B.own = false) (hH : ∀ w : World, Holds B w → Holds ⟨nm, false, 0, tabF n fun k => u8 (f k)⟩ w) (h1 : n ≤ cc) (h2 : n ≤ 9223372036854775807) :
    RunsF F Tryd.prog 29 [ptr c 0, .slice (some ⟨nm, 0, none⟩) n cc] [⟨c, true, 0, hashC H⟩, B] 0 (fun _ => .tuple #[]) (fun _ => [some ⟨c, true, 0, hashC (wrH H f n)⟩, none]) :=
  RunsF.lendW (cs := [B]) (write_fam c H (bytO nm n cc f) (okb_own h1 h2)) (famTB_own hT hH) (famTB_names hT hn) rfl (by simpa using ho)
theorem tail_runs0 (n : UInt64) : Runs Tryd.prog 43 [(u64 n)] [] 2 (fun (ns : List Nat) => (Value.slice (some ⟨(ns.getD 0 0), 0, none⟩) ((1 + ((119 - (n % 64)) % 64)).toNat + 1 + 1 + 1 + 1 + 1 + 1 + 1 + 1) ((1 + ((119 - (n % 64)) % 64)).toNat + 1 + 1 + 1 + 1 + 1 + 1 + 1 + 1 + (ns.getD 1 0)))) (fun (ns : List Nat) => [some ⟨(ns.getD 0 0), true, 0, (spr ((1 + ((119 - (n % 64)) % 64)).toNat + 1 + 1 + 1 + 1 + 1 + 1 + 1 + 1 + (ns.getD 1 0)) ((1 + ((119 - (n % 64)) % 64)).toNat + 1 + 1 + 1 + 1 + 1 + 1 + 1 + 1) (fun k => u8 (tailF n k)) (u8 0))⟩]) :=
  runs_of_ev mix Tryd.func43 rfl rfl 400 (.reg [(0, .g)] (.reg [(0, .g), (1, (.as (u64 (n % 64)))), (2, (.as (u64 (119 - (n % 64))))), (3, (.as (u64 ((119 - (n % 64)) % 64)))), (4, .g)] (.regn [(0, .g), (1, (.as (u64 (1 + ((119 - (n % 64)) % 64))))), (2, (.oth [] 1 1 (fun ns => Value.slice (some ⟨ns.getD 0 0, 0, none⟩) ((1 + ((119 - (n % 64)) % 64)).toNat) (((1 + ((119 - (n % 64)) % 64)).toNat) + (72 - ((1 + ((119 - (n % 64)) % 64)).toNat)))) (fun ns => [some ⟨ns.getD 0 0, true, 0, (spr ((1 + ((119 - (n % 64)) % 64)).toNat + (72 - ((1 + ((119 - (n % 64)) % 64)).toNat))) ((1 + ((119 - (n % 64)) % 64)).toNat) (fun k => u8 ((fun _ => 0) k)) (u8 0))⟩]))), (3, .g)] (more (fun n1 => fun _ => (.reg [(0, .g), (1, (.as (ptr n1 (0 + 0 * 1)))), (2, (.stc 0 (.tab 0 0) (spr ((1 + ((119 - (n % 64)) % 64)).toNat + (72 - ((1 + ((119 - (n % 64)) % 64)).toNat))) ((1 + ((119 - (n % 64)) % 64)).toNat) (fun k => u8 (upd (fun _ => 0) 0 128 k)) (u8 0))))] (.reg [(0, .g)] (.unroll (.reg [(0, .g)] (.yes (.reg [(0, .g), (1, .g)] (.regn [(0, .g), (1, .g), (2, (.as (u64 (8 * n)))), (3, .g), (4, .g), (5, .g), (6, (.as (u64 (shr64 (8 * n) 56)))), (7, (.as (u8 ((shr64 (8 * n) 56).toUInt8)))), (8, (.oth [] 1 1 (fun ns => Value.slice (some ⟨ns.getD 0 0, 0, none⟩) 1 1) (fun ns => [some ⟨ns.getD 0 0, true, 0, .lit [(u8 ((shr64 (8 * n) 56).toUInt8))]⟩]))), (9, (.oth [(0, false), (1, true)] 2 0 (fun ns => Value.slice (some ⟨(ns.getD 0 0), 0, none⟩) ((1 + ((119 - (n % 64)) % 64)).toNat + 1) ((1 + ((119 - (n % 64)) % 64)).toNat + 1 + (ns.getD 1 0))) (fun ns => [some ⟨(ns.getD 0 0), true, 0, (spr ((1 + ((119 - (n % 64)) % 64)).toNat + 1 + (ns.getD 1 0)) ((1 + ((119 - (n % 64)) % 64)).toNat + 1) (fun k => u8 (catU (upd (fun _ => 0) 0 128) ((1 + ((119 - (n % 64)) % 64)).toNat) (fun _ => ((shr64 (8 * n) 56).toUInt8)) k)) (u8 0))⟩, none]))), (10, .g)] (more (fun n2 => more (fun n3 => more (fun n4 => fun _ => (.reg [(0, .g), (1, .g)] (.unroll (.reg [(0, .g)] (.yes (.reg [(0, .g), (1, .g)] (.regn [(0, .g), (1, .g), (2, (.as (u64 (8 * n)))), (3, .g), (4, .g), (5, .g), (6, (.as (u64 (shr64 (8 * n) 48)))), (7, (.as (u8 ((shr64 (8 * n) 48).toUInt8)))), (8, (.oth [] 1 1 (fun ns => Value.slice (some ⟨ns.getD 0 0, 0, none⟩) 1 1) (fun ns => [some ⟨ns.getD 0 0, true, 0, .lit [(u8 ((shr64 (8 * n) 48).toUInt8))]⟩]))), (9, (.oth [(0, false), (2, true)] 2 0 (fun ns => Value.slice (some ⟨(ns.getD 0 0), 0, none⟩) ((1 + ((119 - (n % 64)) % 64)).toNat + 1 + 1) ((1 + ((119 - (n % 64)) % 64)).toNat + 1 + 1 + (ns.getD 1 0))) (fun ns => [some ⟨(ns.getD 0 0), true, 0, (spr ((1 + ((119 - (n % 64)) % 64)).toNat + 1 + 1 + (ns.getD 1 0)) ((1 + ((119 - (n % 64)) % 64)).toNat + 1 + 1) (fun k => u8 (catU (catU (upd (fun _ => 0) 0 128) ((1 + ((119 - (n % 64)) % 64)).toNat) (fun _ => ((shr64 (8 * n) 56).toUInt8))) ((1 + ((119 - (n % 64)) % 64)).toNat + 1) (fun _ => ((shr64 (8 * n) 48).toUInt8)) k)) (u8 0))⟩, none]))), (10, .g)] (more (fun n5 => more (fun n6 => more (fun n7 => fun _ => (.reg [(0, .g), (1, .g)] (.unroll (.reg [(0, .g)] (.yes (.reg [(0, .g), (1, .g)] (.regn [(0, .g), (1, .g), (2, (.as (u64 (8 * n)))), (3, .g), (4, .g), (5, .g), (6, (.as (u64 (shr64 (8 * n) 40)))), (7, (.as (u8 ((shr64 (8 * n) 40).toUInt8)))), (8, (.oth [] 1 1 (fun ns => Value.slice (some ⟨ns.getD 0 0, 0, none⟩) 1 1) (fun ns => [some ⟨ns.getD 0 0, true, 0, .lit [(u8 ((shr64 (8 * n) 40).toUInt8))]⟩]))), (9, (.oth [(0, false), (3, true)] 2 0 (fun ns => Value.slice (some ⟨(ns.getD 0 0), 0, none⟩) ((1 + ((119 - (n % 64)) % 64)).toNat + 1 + 1 + 1) ((1 + ((119 - (n % 64)) % 64)).toNat + 1 + 1 + 1 + (ns.getD 1 0))) (fun ns => [some ⟨(ns.getD 0 0), true, 0, (spr ((1 + ((119 - (n % 64)) % 64)).toNat + 1 + 1 + 1 + (ns.getD 1 0)) ((1 + ((119 - (n % 64)) % 64)).toNat + 1 + 1 + 1) (fun k => u8 (catU (catU (catU (upd (fun _ => 0) 0 128) ((1 + ((119 - (n % 64)) % 64)).toNat) (fun _ => ((shr64 (8 * n) 56).toUInt8))) ((1 + ((119 - (n % 64)) % 64)).toNat + 1) (fun _ => ((shr64 (8 * n) 48).toUInt8))) ((1 + ((119 - (n % 64)) % 64)).toNat + 1 + 1) (fun _ => ((shr64 (8 * n) 40).toUInt8)) k)) (u8 0))⟩, none]))), (10, .g)] (more (fun n8 => more (fun n9 => more (fun n10 => fun _ => (.reg [(0, .g), (1, .g)] (.unroll (.reg [(0, .g)] (.yes (.reg [(0, .g), (1, .g)] (.regn [(0, .g), (1, .g), (2, (.as (u64 (8 * n)))), (3, .g), (4, .g), (5, .g), (6, (.as (u64 (shr64 (8 * n) 32)))), (7, (.as (u8 ((shr64 (8 * n) 32).toUInt8)))), (8, (.oth [] 1 1 (fun ns => Value.slice (some ⟨ns.getD 0 0, 0, none⟩) 1 1) (fun ns => [some ⟨ns.getD 0 0, true, 0, .lit [(u8 ((shr64 (8 * n) 32).toUInt8))]⟩]))), (9, (.oth [(0, false), (4, true)] 2 0 (fun ns => Value.slice (some ⟨(ns.getD 0 0), 0, none⟩) ((1 + ((119 - (n % 64)) % 64)).toNat + 1 + 1 + 1 + 1) ((1 + ((119 - (n % 64)) % 64)).toNat + 1 + 1 + 1 + 1 + (ns.getD 1 0))) (fun ns => [some ⟨(ns.getD 0 0), true, 0, (spr ((1 + ((119 - (n % 64)) % 64)).toNat + 1 + 1 + 1 + 1 + (ns.getD 1 0)) ((1 + ((119 - (n % 64)) % 64)).toNat + 1 + 1 + 1 + 1) (fun k => u8 (catU (catU (catU (catU (upd (fun _ => 0) 0 128) ((1 + ((119 - (n % 64)) % 64)).toNat) (fun _ => ((shr64 (8 * n) 56).toUInt8))) ((1 + ((119 - (n % 64)) % 64)).toNat + 1) (fun _ => ((shr64 (8 * n) 48).toUInt8))) ((1 + ((119 - (n % 64)) % 64)).toNat + 1 + 1) (fun _ => ((shr64 (8 * n) 40).toUInt8))) ((1 + ((119 - (n % 64)) % 64)).toNat + 1 + 1 + 1) (fun _ => ((shr64 (8 * n) 32).toUInt8)) k)) (u8 0))⟩, none]))), (10, .g)] (more (fun n11 => more (fun n12 => more (fun n13 => fun _ => (.reg [(0, .g), (1, .g)] (.unroll (.reg [(0, .g)] (.yes (.reg [(0, .g), (1, .g)] (.regn [(0, .g), (1, .g), (2, (.as (u64 (8 * n)))), (3, .g), (4, .g), (5, .g), (6, (.as (u64 (shr64 (8 * n) 24)))), (7, (.as (u8 ((shr64 (8 * n) 24).toUInt8)))), (8, (.oth [] 1 1 (fun ns => Value.slice (some ⟨ns.getD 0 0, 0, none⟩) 1 1) (fun ns => [some ⟨ns.getD 0 0, true, 0, .lit [(u8 ((shr64 (8 * n) 24).toUInt8))]⟩]))), (9, (.oth [(0, false), (5, true)] 2 0 (fun ns => Value.slice (some ⟨(ns.getD 0 0), 0, none⟩) ((1 + ((119 - (n % 64)) % 64)).toNat + 1 + 1 + 1 + 1 + 1) ((1 + ((119 - (n % 64)) % 64)).toNat + 1 + 1 + 1 + 1 + 1 + (ns.getD 1 0))) (fun ns => [some ⟨(ns.getD 0 0), true, 0, (spr ((1 + ((119 - (n % 64)) % 64)).toNat + 1 + 1 + 1 + 1 + 1 + (ns.getD 1 0)) ((1 + ((119 - (n % 64)) % 64)).toNat + 1 + 1 + 1 + 1 + 1) (fun k => u8 (catU (catU (catU (catU (catU (upd (fun _ => 0) 0 128) ((1 + ((119 - (n % 64)) % 64)).toNat) (fun _ => ((shr64 (8 * n) 56).toUInt8))) ((1 + ((119 - (n % 64)) % 64)).toNat + 1) (fun _ => ((shr64 (8 * n) 48).toUInt8))) ((1 + ((119 - (n % 64)) % 64)).toNat + 1 + 1) (fun _ => ((shr64 (8 * n) 40).toUInt8))) ((1 + ((119 - (n % 64)) % 64)).toNat + 1 + 1 + 1) (fun _ => ((shr64 (8 * n) 32).toUInt8))) ((1 + ((119 - (n % 64)) % 64)).toNat + 1 + 1 + 1 + 1) (fun _ => ((shr64 (8 * n) 24).toUInt8)) k)) (u8 0))⟩, none]))), (10, .g)] (more (fun n14 => more (fun n15 => more (fun n16 => fun _ => (.reg [(0, .g), (1, .g)] (.unroll (.reg [(0, .g)] (.yes (.reg [(0, .g), (1, .g)] (.regn [(0, .g), (1, .g), (2, (.as (u64 (8 * n)))), (3, .g), (4, .g), (5, .g), (6, (.as (u64 (shr64 (8 * n) 16)))), (7, (.as (u8 ((shr64 (8 * n) 16).toUInt8)))), (8, (.oth [] 1 1 (fun ns => Value.slice (some ⟨ns.getD 0 0, 0, none⟩) 1 1) (fun ns => [some ⟨ns.getD 0 0, true, 0, .lit [(u8 ((shr64 (8 * n) 16).toUInt8))]⟩]))), (9, (.oth [(0, false), (6, true)] 2 0 (fun ns => Value.slice (some ⟨(ns.getD 0 0), 0, none⟩) ((1 + ((119 - (n % 64)) % 64)).toNat + 1 + 1 + 1 + 1 + 1 + 1) ((1 + ((119 - (n % 64)) % 64)).toNat + 1 + 1 + 1 + 1 + 1 + 1 + (ns.getD 1 0))) (fun ns => [some ⟨(ns.getD 0 0), true, 0, (spr ((1 + ((119 - (n % 64)) % 64)).toNat + 1 + 1 + 1 + 1 + 1 + 1 + (ns.getD 1 0)) ((1 + ((119 - (n % 64)) % 64)).toNat + 1 + 1 + 1 + 1 + 1 + 1) (fun k => u8 (catU (catU (catU (catU (catU (catU (upd (fun _ => 0) 0 128) ((1 + ((119 - (n % 64)) % 64)).toNat) (fun _ => ((shr64 (8 * n) 56).toUInt8))) ((1 + ((119 - (n % 64)) % 64)).toNat + 1) (fun _ => ((shr64 (8 * n) 48).toUInt8))) ((1 + ((119 - (n % 64)) % 64)).toNat + 1 + 1) (fun _ => ((shr64 (8 * n) 40).toUInt8))) ((1 + ((119 - (n % 64)) % 64)).toNat + 1 + 1 + 1) (fun _ => ((shr64 (8 * n) 32).toUInt8))) ((1 + ((119 - (n % 64)) % 64)).toNat + 1 + 1 + 1 + 1) (fun _ => ((shr64 (8 * n) 24).toUInt8))) ((1 + ((119 - (n % 64)) % 64)).toNat + 1 + 1 + 1 + 1 + 1) (fun _ => ((shr64 (8 * n) 16).toUInt8)) k)) (u8 0))⟩, none]))), (10, .g)] (more (fun n17 => more (fun n18 => more (fun n19 => fun _ => (.reg [(0, .g), (1, .g)] (.unroll (.reg [(0, .g)] (.yes (.reg [(0, .g), (1, .g)] (.regn [(0, .g), (1, .g), (2, (.as (u64 (8 * n)))), (3, .g), (4, .g), (5, .g), (6, (.as (u64 (shr64 (8 * n) 8)))), (7, (.as (u8 ((shr64 (8 * n) 8).toUInt8)))), (8, (.oth [] 1 1 (fun ns => Value.slice (some ⟨ns.getD 0 0, 0, none⟩) 1 1) (fun ns => [some ⟨ns.getD 0 0, true, 0, .lit [(u8 ((shr64 (8 * n) 8).toUInt8))]⟩]))), (9, (.oth [(0, false), (7, true)] 2 0 (fun ns => Value.slice (some ⟨(ns.getD 0 0), 0, none⟩) ((1 + ((119 - (n % 64)) % 64)).toNat + 1 + 1 + 1 + 1 + 1 + 1 + 1) ((1 + ((119 - (n % 64)) % 64)).toNat + 1 + 1 + 1 + 1 + 1 + 1 + 1 + (ns.getD 1 0))) (fun ns => [some ⟨(ns.getD 0 0), true, 0, (spr ((1 + ((119 - (n % 64)) % 64)).toNat + 1 + 1 + 1 + 1 + 1 + 1 + 1 + (ns.getD 1 0)) ((1 + ((119 - (n % 64)) % 64)).toNat + 1 + 1 + 1 + 1 + 1 + 1 + 1) (fun k => u8 (catU (catU (catU (catU (catU (catU (catU (upd (fun _ => 0) 0 128) ((1 + ((119 - (n % 64)) % 64)).toNat) (fun _ => ((shr64 (8 * n) 56).toUInt8))) ((1 + ((119 - (n % 64)) % 64)).toNat + 1) (fun _ => ((shr64 (8 * n) 48).toUInt8))) ((1 + ((119 - (n % 64)) % 64)).toNat + 1 + 1) (fun _ => ((shr64 (8 * n) 40).toUInt8))) ((1 + ((119 - (n % 64)) % 64)).toNat + 1 + 1 + 1) (fun _ => ((shr64 (8 * n) 32).toUInt8))) ((1 + ((119 - (n % 64)) % 64)).toNat + 1 + 1 + 1 + 1) (fun _ => ((shr64 (8 * n) 24).toUInt8))) ((1 + ((119 - (n % 64)) % 64)).toNat + 1 + 1 + 1 + 1 + 1) (fun _ => ((shr64 (8 * n) 16).toUInt8))) ((1 + ((119 - (n % 64)) % 64)).toNat + 1 + 1 + 1 + 1 + 1 + 1) (fun _ => ((shr64 (8 * n) 8).toUInt8)) k)) (u8 0))⟩, none]))), (10, .g)] (more (fun n20 => more (fun n21 => more (fun n22 => fun _ => (.reg [(0, .g), (1, .g)] (.unroll (.reg [(0, .g)] (.yes (.reg [(0, .g), (1, .g)] (.regn [(0, .g), (1, .g), (2, (.as (u64 (8 * n)))), (3, .g), (4, .g), (5, .g), (6, (.as (u64 (shr64 (8 * n) 0)))), (7, (.as (u8 ((shr64 (8 * n) 0).toUInt8)))), (8, (.oth [] 1 1 (fun ns => Value.slice (some ⟨ns.getD 0 0, 0, none⟩) 1 1) (fun ns => [some ⟨ns.getD 0 0, true, 0, .lit [(u8 ((shr64 (8 * n) 0).toUInt8))]⟩]))), (9, (.oth [(0, false), (8, true)] 2 0 (fun ns => Value.slice (some ⟨(ns.getD 0 0), 0, none⟩) ((1 + ((119 - (n % 64)) % 64)).toNat + 1 + 1 + 1 + 1 + 1 + 1 + 1 + 1) ((1 + ((119 - (n % 64)) % 64)).toNat + 1 + 1 + 1 + 1 + 1 + 1 + 1 + 1 + (ns.getD 1 0))) (fun ns => [some ⟨(ns.getD 0 0), true, 0, (spr ((1 + ((119 - (n % 64)) % 64)).toNat + 1 + 1 + 1 + 1 + 1 + 1 + 1 + 1 + (ns.getD 1 0)) ((1 + ((119 - (n % 64)) % 64)).toNat + 1 + 1 + 1 + 1 + 1 + 1 + 1 + 1) (fun k => u8 (catU (catU (catU (catU (catU (catU (catU (catU (upd (fun _ => 0) 0 128) ((1 + ((119 - (n % 64)) % 64)).toNat) (fun _ => ((shr64 (8 * n) 56).toUInt8))) ((1 + ((119 - (n % 64)) % 64)).toNat + 1) (fun _ => ((shr64 (8 * n) 48).toUInt8))) ((1 + ((119 - (n % 64)) % 64)).toNat + 1 + 1) (fun _ => ((shr64 (8 * n) 40).toUInt8))) ((1 + ((119 - (n % 64)) % 64)).toNat + 1 + 1 + 1) (fun _ => ((shr64 (8 * n) 32).toUInt8))) ((1 + ((119 - (n % 64)) % 64)).toNat + 1 + 1 + 1 + 1) (fun _ => ((shr64 (8 * n) 24).toUInt8))) ((1 + ((119 - (n % 64)) % 64)).toNat + 1 + 1 + 1 + 1 + 1) (fun _ => ((shr64 (8 * n) 16).toUInt8))) ((1 + ((119 - (n % 64)) % 64)).toNat + 1 + 1 + 1 + 1 + 1 + 1) (fun _ => ((shr64 (8 * n) 8).toUInt8))) ((1 + ((119 - (n % 64)) % 64)).toNat + 1 + 1 + 1 + 1 + 1 + 1 + 1) (fun _ => ((shr64 (8 * n) 0).toUInt8)) k)) (u8 0))⟩, none]))), (10, .g)] (more (fun n23 => more (fun n24 => more (fun n25 => fun _ => (.reg [(0, .g), (1, .g)] (.unroll (.reg [(0, .g)] (.no (.reg [(0, .g), (1, .g)] .done))))))))))))))))))))))))))))))))))))))))))))))))))))))))))))))))))))))))))))))))))))))))))) [] [0] rfl
    (have f0 : 0 < (1 + (119 - n % 64) % 64).toNat ∧ (1 + (119 - n % 64) % 64).toNat ≤ 64 := (tailZ_le n); Eq.mp (by kernel_rfl) (aI (sk tV) (aI (sk (aI (aT (@is_rem64 Tryd.prog 22 22 (.tmp 6) (.const (.int .u64 64)) n 64 (by decide))) (aI (aT (@is_sub64 Tryd.prog 22 22 (.const (.int .u64 119)) (.tmp 7) 119 (n % 64))) (aI (aT (@is_rem64 Tryd.prog 22 22 (.tmp 8) (.const (.int .u64 64)) (119 - (n % 64)) 64 (by decide))) (sk tV))))) (fun (n1 : Nat) => aI (sk (aI (aT (@is_add64 Tryd.prog 22 22 (.const (.int .u64 1)) (.tmp 10) 1 ((119 - (n % 64)) % 64))) (aI (aT (mk_make_cap (P := Tryd.prog) (t := 42) (e := 5) (by kernel_rfl) one5 ((1 + ((119 - (n % 64)) % 64)).toNat) 72 .u64 .i64 (show (1 + ((119 - (n % 64)) % 64)).toNat ≤ 72 from by omega) (show (1 : Int) * ((72 : Nat) : Int) ≤ 281474976710656 ∧ 72 ≤ 9223372036854775807 from by omega) u8 0 rfl)) (sk tV)))) (aI (sk (aI (aT (@is_ixSl Tryd.prog 42 5 (.tmp 13) (.const (.int .i64 0)) 1 (by kernel_rfl) (by kernel_rfl) n1 0 ((1 + ((119 - (n % 64)) % 64)).toNat) ((1 + ((119 - (n % 64)) % 64)).toNat + (72 - ((1 + ((119 - (n % 64)) % 64)).toNat))) 0 (show 0 < (1 + ((119 - (n % 64)) % 64)).toNat from by omega))) (aI (aT (aI (show 0 < (1 + ((119 - (n % 64)) % 64)).toNat + (72 - ((1 + ((119 - (n % 64)) % 64)).toNat)) from by omega) (aI (@rfl Value (ptr n1 (0 + 0 * 1))) (store_spr ((1 + ((119 - (n % 64)) % 64)).toNat + (72 - ((1 + ((119 - (n % 64)) % 64)).toNat))) ((1 + ((119 - (n % 64)) % 64)).toNat) u8 (fun _ => 0) (u8 0) 0 128 (show 0 < (1 + ((119 - (n % 64)) % 64)).toNat from by omega))))) tV))) (aI (sk tV) (aI (sk tV) (aT (aI (@rfl Bool true) (aI (sk (sk tV)) (fun (n2 n3 n4 : Nat) => aI (sk (sk (aI (aT (@is_mul64 Tryd.prog 22 22 (.const (.int .u64 8)) (.tmp 19) 8 n)) (sk (sk (sk (aI (aT (@is_shr64 Tryd.prog 22 3 (.tmp 20) (.tmp 23) (8 * n) .i64 56)) (aI (aT (@conv_u64_u8 Tryd.prog 22 5 (.tmp 24) (by kernel_rfl) (by kernel_rfl) (shr64 (8 * n) 56))) (aI (aT (mk_build (P := Tryd.prog) (t := 42) (e := 5) one5 1 #[(0, (u8 ((shr64 (8 * n) 56).toUInt8)))] #[(u8 ((shr64 (8 * n) 56).toUInt8))] (by kernel_rfl) (by decide) (by kernel_rfl))) (aI (aT (SRuns.dark [false, true] (mk_append (P := Tryd.prog) (t := 42) (ty := 42) (e := 5) (by kernel_rfl) one5 n1 ((1 + ((119 - (n % 64)) % 64)).toNat) (72 - ((1 + ((119 - (n % 64)) % 64)).toNat)) n2 0 0 1 1 u8 (upd (fun _ => 0) 0 128) (fun _ => ((shr64 (8 * n) 56).toUInt8)) (.lit [(u8 ((shr64 (8 * n) 56).toUInt8))]) (lit1_get (u8 ((shr64 (8 * n) 56).toUInt8))) (fun _ => rfl) (show ((1 + ((119 - (n % 64)) % 64)).toNat + 1) * 1 ≤ 140737488355328 ∧ (1 + ((119 - (n % 64)) % 64)).toNat + 1 ≤ 9223372036854775807 from by omega)))) (sk tV))))))))))) (aI (sk (sk tV)) (aI (sk tV) (aT (aI (@rfl Bool true) (aI (sk (sk tV)) (fun (n5 n6 n7 : Nat) => aI (sk (sk (aI (aT (@is_mul64 Tryd.prog 22 22 (.const (.int .u64 8)) (.tmp 19) 8 n)) (sk (sk (sk (aI (aT (@is_shr64 Tryd.prog 22 3 (.tmp 20) (.tmp 23) (8 * n) .i64 48)) (aI (aT (@conv_u64_u8 Tryd.prog 22 5 (.tmp 24) (by kernel_rfl) (by kernel_rfl) (shr64 (8 * n) 48))) (aI (aT (mk_build (P := Tryd.prog) (t := 42) (e := 5) one5 1 #[(0, (u8 ((shr64 (8 * n) 48).toUInt8)))] #[(u8 ((shr64 (8 * n) 48).toUInt8))] (by kernel_rfl) (by decide) (by kernel_rfl))) (aI (aT (SRuns.dark [false, true] (mk_append (P := Tryd.prog) (t := 42) (ty := 42) (e := 5) (by kernel_rfl) one5 n3 ((1 + ((119 - (n % 64)) % 64)).toNat + 1) n4 n5 0 0 1 1 u8 (catU (upd (fun _ => 0) 0 128) ((1 + ((119 - (n % 64)) % 64)).toNat) (fun _ => ((shr64 (8 * n) 56).toUInt8))) (fun _ => ((shr64 (8 * n) 48).toUInt8)) (.lit [(u8 ((shr64 (8 * n) 48).toUInt8))]) (lit1_get (u8 ((shr64 (8 * n) 48).toUInt8))) (fun _ => rfl) (show ((1 + ((119 - (n % 64)) % 64)).toNat + 1 + 1) * 1 ≤ 140737488355328 ∧ (1 + ((119 - (n % 64)) % 64)).toNat + 1 + 1 ≤ 9223372036854775807 from by omega)))) (sk tV))))))))))) (aI (sk (sk tV)) (aI (sk tV) (aT (aI (@rfl Bool true) (aI (sk (sk tV)) (fun (n8 n9 n10 : Nat) => aI (sk (sk (aI (aT (@is_mul64 Tryd.prog 22 22 (.const (.int .u64 8)) (.tmp 19) 8 n)) (sk (sk (sk (aI (aT (@is_shr64 Tryd.prog 22 3 (.tmp 20) (.tmp 23) (8 * n) .i64 40)) (aI (aT (@conv_u64_u8 Tryd.prog 22 5 (.tmp 24) (by kernel_rfl) (by kernel_rfl) (shr64 (8 * n) 40))) (aI (aT (mk_build (P := Tryd.prog) (t := 42) (e := 5) one5 1 #[(0, (u8 ((shr64 (8 * n) 40).toUInt8)))] #[(u8 ((shr64 (8 * n) 40).toUInt8))] (by kernel_rfl) (by decide) (by kernel_rfl))) (aI (aT (SRuns.dark [false, true] (mk_append (P := Tryd.prog) (t := 42) (ty := 42) (e := 5) (by kernel_rfl) one5 n6 ((1 + ((119 - (n % 64)) % 64)).toNat + 1 + 1) n7 n8 0 0 1 1 u8 (catU (catU (upd (fun _ => 0) 0 128) ((1 + ((119 - (n % 64)) % 64)).toNat) (fun _ => ((shr64 (8 * n) 56).toUInt8))) ((1 + ((119 - (n % 64)) % 64)).toNat + 1) (fun _ => ((shr64 (8 * n) 48).toUInt8))) (fun _ => ((shr64 (8 * n) 40).toUInt8)) (.lit [(u8 ((shr64 (8 * n) 40).toUInt8))]) (lit1_get (u8 ((shr64 (8 * n) 40).toUInt8))) (fun _ => rfl) (show ((1 + ((119 - (n % 64)) % 64)).toNat + 1 + 1 + 1) * 1 ≤ 140737488355328 ∧ (1 + ((119 - (n % 64)) % 64)).toNat + 1 + 1 + 1 ≤ 9223372036854775807 from by omega)))) (sk tV))))))))))) (aI (sk (sk tV)) (aI (sk tV) (aT (aI (@rfl Bool true) (aI (sk (sk tV)) (fun (n11 n12 n13 : Nat) => aI (sk (sk (aI (aT (@is_mul64 Tryd.prog 22 22 (.const (.int .u64 8)) (.tmp 19) 8 n)) (sk (sk (sk (aI (aT (@is_shr64 Tryd.prog 22 3 (.tmp 20) (.tmp 23) (8 * n) .i64 32)) (aI (aT (@conv_u64_u8 Tryd.prog 22 5 (.tmp 24) (by kernel_rfl) (by kernel_rfl) (shr64 (8 * n) 32))) (aI (aT (mk_build (P := Tryd.prog) (t := 42) (e := 5) one5 1 #[(0, (u8 ((shr64 (8 * n) 32).toUInt8)))] #[(u8 ((shr64 (8 * n) 32).toUInt8))] (by kernel_rfl) (by decide) (by kernel_rfl))) (aI (aT (SRuns.dark [false, true] (mk_append (P := Tryd.prog) (t := 42) (ty := 42) (e := 5) (by kernel_rfl) one5 n9 ((1 + ((119 - (n % 64)) % 64)).toNat + 1 + 1 + 1) n10 n11 0 0 1 1 u8 (catU (catU (catU (upd (fun _ => 0) 0 128) ((1 + ((119 - (n % 64)) % 64)).toNat) (fun _ => ((shr64 (8 * n) 56).toUInt8))) ((1 + ((119 - (n % 64)) % 64)).toNat + 1) (fun _ => ((shr64 (8 * n) 48).toUInt8))) ((1 + ((119 - (n % 64)) % 64)).toNat + 1 + 1) (fun _ => ((shr64 (8 * n) 40).toUInt8))) (fun _ => ((shr64 (8 * n) 32).toUInt8)) (.lit [(u8 ((shr64 (8 * n) 32).toUInt8))]) (lit1_get (u8 ((shr64 (8 * n) 32).toUInt8))) (fun _ => rfl) (show ((1 + ((119 - (n % 64)) % 64)).toNat + 1 + 1 + 1 + 1) * 1 ≤ 140737488355328 ∧ (1 + ((119 - (n % 64)) % 64)).toNat + 1 + 1 + 1 + 1 ≤ 9223372036854775807 from by omega)))) (sk tV))))))))))) (aI (sk (sk tV)) (aI (sk tV) (aT (aI (@rfl Bool true) (aI (sk (sk tV)) (fun (n14 n15 n16 : Nat) => aI (sk (sk (aI (aT (@is_mul64 Tryd.prog 22 22 (.const (.int .u64 8)) (.tmp 19) 8 n)) (sk (sk (sk (aI (aT (@is_shr64 Tryd.prog 22 3 (.tmp 20) (.tmp 23) (8 * n) .i64 24)) (aI (aT (@conv_u64_u8 Tryd.prog 22 5 (.tmp 24) (by kernel_rfl) (by kernel_rfl) (shr64 (8 * n) 24))) (aI (aT (mk_build (P := Tryd.prog) (t := 42) (e := 5) one5 1 #[(0, (u8 ((shr64 (8 * n) 24).toUInt8)))] #[(u8 ((shr64 (8 * n) 24).toUInt8))] (by kernel_rfl) (by decide) (by kernel_rfl))) (aI (aT (SRuns.dark [false, true] (mk_append (P := Tryd.prog) (t := 42) (ty := 42) (e := 5) (by kernel_rfl) one5 n12 ((1 + ((119 - (n % 64)) % 64)).toNat + 1 + 1 + 1 + 1) n13 n14 0 0 1 1 u8 (catU (catU (catU (catU (upd (fun _ => 0) 0 128) ((1 + ((119 - (n % 64)) % 64)).toNat) (fun _ => ((shr64 (8 * n) 56).toUInt8))) ((1 + ((119 - (n % 64)) % 64)).toNat + 1) (fun _ => ((shr64 (8 * n) 48).toUInt8))) ((1 + ((119 - (n % 64)) % 64)).toNat + 1 + 1) (fun _ => ((shr64 (8 * n) 40).toUInt8))) ((1 + ((119 - (n % 64)) % 64)).toNat + 1 + 1 + 1) (fun _ => ((shr64 (8 * n) 32).toUInt8))) (fun _ => ((shr64 (8 * n) 24).toUInt8)) (.lit [(u8 ((shr64 (8 * n) 24).toUInt8))]) (lit1_get (u8 ((shr64 (8 * n) 24).toUInt8))) (fun _ => rfl) (show ((1 + ((119 - (n % 64)) % 64)).toNat + 1 + 1 + 1 + 1 + 1) * 1 ≤ 140737488355328 ∧ (1 + ((119 - (n % 64)) % 64)).toNat + 1 + 1 + 1 + 1 + 1 ≤ 9223372036854775807 from by omega)))) (sk tV))))))))))) (aI (sk (sk tV)) (aI (sk tV) (aT (aI (@rfl Bool true) (aI (sk (sk tV)) (fun (n17 n18 n19 : Nat) => aI (sk (sk (aI (aT (@is_mul64 Tryd.prog 22 22 (.const (.int .u64 8)) (.tmp 19) 8 n)) (sk (sk (sk (aI (aT (@is_shr64 Tryd.prog 22 3 (.tmp 20) (.tmp 23) (8 * n) .i64 16)) (aI (aT (@conv_u64_u8 Tryd.prog 22 5 (.tmp 24) (by kernel_rfl) (by kernel_rfl) (shr64 (8 * n) 16))) (aI (aT (mk_build (P := Tryd.prog) (t := 42) (e := 5) one5 1 #[(0, (u8 ((shr64 (8 * n) 16).toUInt8)))] #[(u8 ((shr64 (8 * n) 16).toUInt8))] (by kernel_rfl) (by decide) (by kernel_rfl))) (aI (aT (SRuns.dark [false, true] (mk_append (P := Tryd.prog) (t := 42) (ty := 42) (e := 5) (by kernel_rfl) one5 n15 ((1 + ((119 - (n % 64)) % 64)).toNat + 1 + 1 + 1 + 1 + 1) n16 n17 0 0 1 1 u8 (catU (catU (catU (catU (catU (upd (fun _ => 0) 0 128) ((1 + ((119 - (n % 64)) % 64)).toNat) (fun _ => ((shr64 (8 * n) 56).toUInt8))) ((1 + ((119 - (n % 64)) % 64)).toNat + 1) (fun _ => ((shr64 (8 * n) 48).toUInt8))) ((1 + ((119 - (n % 64)) % 64)).toNat + 1 + 1) (fun _ => ((shr64 (8 * n) 40).toUInt8))) ((1 + ((119 - (n % 64)) % 64)).toNat + 1 + 1 + 1) (fun _ => ((shr64 (8 * n) 32).toUInt8))) ((1 + ((119 - (n % 64)) % 64)).toNat + 1 + 1 + 1 + 1) (fun _ => ((shr64 (8 * n) 24).toUInt8))) (fun _ => ((shr64 (8 * n) 16).toUInt8)) (.lit [(u8 ((shr64 (8 * n) 16).toUInt8))]) (lit1_get (u8 ((shr64 (8 * n) 16).toUInt8))) (fun _ => rfl) (show ((1 + ((119 - (n % 64)) % 64)).toNat + 1 + 1 + 1 + 1 + 1 + 1) * 1 ≤ 140737488355328 ∧ (1 + ((119 - (n % 64)) % 64)).toNat + 1 + 1 + 1 + 1 + 1 + 1 ≤ 9223372036854775807 from by omega)))) (sk tV))))))))))) (aI (sk (sk tV)) (aI (sk tV) (aT (aI (@rfl Bool true) (aI (sk (sk tV)) (fun (n20 n21 n22 : Nat) => aI (sk (sk (aI (aT (@is_mul64 Tryd.prog 22 22 (.const (.int .u64 8)) (.tmp 19) 8 n)) (sk (sk (sk (aI (aT (@is_shr64 Tryd.prog 22 3 (.tmp 20) (.tmp 23) (8 * n) .i64 8)) (aI (aT (@conv_u64_u8 Tryd.prog 22 5 (.tmp 24) (by kernel_rfl) (by kernel_rfl) (shr64 (8 * n) 8))) (aI (aT (mk_build (P := Tryd.prog) (t := 42) (e := 5) one5 1 #[(0, (u8 ((shr64 (8 * n) 8).toUInt8)))] #[(u8 ((shr64 (8 * n) 8).toUInt8))] (by kernel_rfl) (by decide) (by kernel_rfl))) (aI (aT (SRuns.dark [false, true] (mk_append (P := Tryd.prog) (t := 42) (ty := 42) (e := 5) (by kernel_rfl) one5 n18 ((1 + ((119 - (n % 64)) % 64)).toNat + 1 + 1 + 1 + 1 + 1 + 1) n19 n20 0 0 1 1 u8 (catU (catU (catU (catU (catU (catU (upd (fun _ => 0) 0 128) ((1 + ((119 - (n % 64)) % 64)).toNat) (fun _ => ((shr64 (8 * n) 56).toUInt8))) ((1 + ((119 - (n % 64)) % 64)).toNat + 1) (fun _ => ((shr64 (8 * n) 48).toUInt8))) ((1 + ((119 - (n % 64)) % 64)).toNat + 1 + 1) (fun _ => ((shr64 (8 * n) 40).toUInt8))) ((1 + ((119 - (n % 64)) % 64)).toNat + 1 + 1 + 1) (fun _ => ((shr64 (8 * n) 32).toUInt8))) ((1 + ((119 - (n % 64)) % 64)).toNat + 1 + 1 + 1 + 1) (fun _ => ((shr64 (8 * n) 24).toUInt8))) ((1 + ((119 - (n % 64)) % 64)).toNat + 1 + 1 + 1 + 1 + 1) (fun _ => ((shr64 (8 * n) 16).toUInt8))) (fun _ => ((shr64 (8 * n) 8).toUInt8)) (.lit [(u8 ((shr64 (8 * n) 8).toUInt8))]) (lit1_get (u8 ((shr64 (8 * n) 8).toUInt8))) (fun _ => rfl) (show ((1 + ((119 - (n % 64)) % 64)).toNat + 1 + 1 + 1 + 1 + 1 + 1 + 1) * 1 ≤ 140737488355328 ∧ (1 + ((119 - (n % 64)) % 64)).toNat + 1 + 1 + 1 + 1 + 1 + 1 + 1 ≤ 9223372036854775807 from by omega)))) (sk tV))))))))))) (aI (sk (sk tV)) (aI (sk tV) (aT (aI (@rfl Bool true) (aI (sk (sk tV)) (fun (n23 n24 n25 : Nat) => aI (sk (sk (aI (aT (@is_mul64 Tryd.prog 22 22 (.const (.int .u64 8)) (.tmp 19) 8 n)) (sk (sk (sk (aI (aT (@is_shr64 Tryd.prog 22 3 (.tmp 20) (.tmp 23) (8 * n) .i64 0)) (aI (aT (@conv_u64_u8 Tryd.prog 22 5 (.tmp 24) (by kernel_rfl) (by kernel_rfl) (shr64 (8 * n) 0))) (aI (aT (mk_build (P := Tryd.prog) (t := 42) (e := 5) one5 1 #[(0, (u8 ((shr64 (8 * n) 0).toUInt8)))] #[(u8 ((shr64 (8 * n) 0).toUInt8))] (by kernel_rfl) (by decide) (by kernel_rfl))) (aI (aT (SRuns.dark [false, true] (mk_append (P := Tryd.prog) (t := 42) (ty := 42) (e := 5) (by kernel_rfl) one5 n21 ((1 + ((119 - (n % 64)) % 64)).toNat + 1 + 1 + 1 + 1 + 1 + 1 + 1) n22 n23 0 0 1 1 u8 (catU (catU (catU (catU (catU (catU (catU (upd (fun _ => 0) 0 128) ((1 + ((119 - (n % 64)) % 64)).toNat) (fun _ => ((shr64 (8 * n) 56).toUInt8))) ((1 + ((119 - (n % 64)) % 64)).toNat + 1) (fun _ => ((shr64 (8 * n) 48).toUInt8))) ((1 + ((119 - (n % 64)) % 64)).toNat + 1 + 1) (fun _ => ((shr64 (8 * n) 40).toUInt8))) ((1 + ((119 - (n % 64)) % 64)).toNat + 1 + 1 + 1) (fun _ => ((shr64 (8 * n) 32).toUInt8))) ((1 + ((119 - (n % 64)) % 64)).toNat + 1 + 1 + 1 + 1) (fun _ => ((shr64 (8 * n) 24).toUInt8))) ((1 + ((119 - (n % 64)) % 64)).toNat + 1 + 1 + 1 + 1 + 1) (fun _ => ((shr64 (8 * n) 16).toUInt8))) ((1 + ((119 - (n % 64)) % 64)).toNat + 1 + 1 + 1 + 1 + 1 + 1) (fun _ => ((shr64 (8 * n) 8).toUInt8))) (fun _ => ((shr64 (8 * n) 0).toUInt8)) (.lit [(u8 ((shr64 (8 * n) 0).toUInt8))]) (lit1_get (u8 ((shr64 (8 * n) 0).toUInt8))) (fun _ => rfl) (show ((1 + ((119 - (n % 64)) % 64)).toNat + 1 + 1 + 1 + 1 + 1 + 1 + 1 + 1) * 1 ≤ 140737488355328 ∧ (1 + ((119 - (n % 64)) % 64)).toNat + 1 + 1 + 1 + 1 + 1 + 1 + 1 + 1 ≤ 9223372036854775807 from by omega)))) (sk tV))))))))))) (aI (sk (sk tV)) (aI (sk tV) (aT (aI (@rfl Bool false) (aI (sk (sk tV)) (aT (eX (fun (ns : List Nat) => ns.length = 2 ∧ ((Value.slice (some ⟨n24, 0, none⟩) ((1 + ((119 - (n % 64)) % 64)).toNat + 1 + 1 + 1 + 1 + 1 + 1 + 1 + 1) ((1 + ((119 - (n % 64)) % 64)).toNat + 1 + 1 + 1 + 1 + 1 + 1 + 1 + 1 + n25)) : Value) = (fun (ns : List Nat) => (Value.slice (some ⟨(ns.getD 0 0), 0, none⟩) ((1 + ((119 - (n % 64)) % 64)).toNat + 1 + 1 + 1 + 1 + 1 + 1 + 1 + 1) ((1 + ((119 - (n % 64)) % 64)).toNat + 1 + 1 + 1 + 1 + 1 + 1 + 1 + 1 + (ns.getD 1 0)))) ns ∧ ([some ⟨n24, true, 0, (spr ((1 + ((119 - (n % 64)) % 64)).toNat + 1 + 1 + 1 + 1 + 1 + 1 + 1 + 1 + n25) ((1 + ((119 - (n % 64)) % 64)).toNat + 1 + 1 + 1 + 1 + 1 + 1 + 1 + 1) (fun k => u8 (catU (catU (catU (catU (catU (catU (catU (catU (upd (fun _ => 0) 0 128) ((1 + ((119 - (n % 64)) % 64)).toNat) (fun _ => ((shr64 (8 * n) 56).toUInt8))) ((1 + ((119 - (n % 64)) % 64)).toNat + 1) (fun _ => ((shr64 (8 * n) 48).toUInt8))) ((1 + ((119 - (n % 64)) % 64)).toNat + 1 + 1) (fun _ => ((shr64 (8 * n) 40).toUInt8))) ((1 + ((119 - (n % 64)) % 64)).toNat + 1 + 1 + 1) (fun _ => ((shr64 (8 * n) 32).toUInt8))) ((1 + ((119 - (n % 64)) % 64)).toNat + 1 + 1 + 1 + 1) (fun _ => ((shr64 (8 * n) 24).toUInt8))) ((1 + ((119 - (n % 64)) % 64)).toNat + 1 + 1 + 1 + 1 + 1) (fun _ => ((shr64 (8 * n) 16).toUInt8))) ((1 + ((119 - (n % 64)) % 64)).toNat + 1 + 1 + 1 + 1 + 1 + 1) (fun _ => ((shr64 (8 * n) 8).toUInt8))) ((1 + ((119 - (n % 64)) % 64)).toNat + 1 + 1 + 1 + 1 + 1 + 1 + 1) (fun _ => ((shr64 (8 * n) 0).toUInt8)) k)) (u8 0))⟩] : List (Option Blk)) = (fun (ns : List Nat) => [some ⟨(ns.getD 0 0), true, 0, (spr ((1 + ((119 - (n % 64)) % 64)).toNat + 1 + 1 + 1 + 1 + 1 + 1 + 1 + 1 + (ns.getD 1 0)) ((1 + ((119 - (n % 64)) % 64)).toNat + 1 + 1 + 1 + 1 + 1 + 1 + 1 + 1) (fun k => u8 (tailF n k)) (u8 0))⟩]) ns) [n24, n25] (aI (@rfl Nat 2) (aI (@rfl Value (Value.slice (some ⟨n24, 0, none⟩) ((1 + ((119 - (n % 64)) % 64)).toNat + 1 + 1 + 1 + 1 + 1 + 1 + 1 + 1) ((1 + ((119 - (n % 64)) % 64)).toNat + 1 + 1 + 1 + 1 + 1 + 1 + 1 + 1 + n25))) ((show ([some ⟨n24, true, 0, (spr ((1 + ((119 - (n % 64)) % 64)).toNat + 1 + 1 + 1 + 1 + 1 + 1 + 1 + 1 + n25) ((1 + ((119 - (n % 64)) % 64)).toNat + 1 + 1 + 1 + 1 + 1 + 1 + 1 + 1) (fun k => u8 (catU (catU (catU (catU (catU (catU (catU (catU (upd (fun _ => 0) 0 128) ((1 + ((119 - (n % 64)) % 64)).toNat) (fun _ => ((shr64 (8 * n) 56).toUInt8))) ((1 + ((119 - (n % 64)) % 64)).toNat + 1) (fun _ => ((shr64 (8 * n) 48).toUInt8))) ((1 + ((119 - (n % 64)) % 64)).toNat + 1 + 1) (fun _ => ((shr64 (8 * n) 40).toUInt8))) ((1 + ((119 - (n % 64)) % 64)).toNat + 1 + 1 + 1) (fun _ => ((shr64 (8 * n) 32).toUInt8))) ((1 + ((119 - (n % 64)) % 64)).toNat + 1 + 1 + 1 + 1) (fun _ => ((shr64 (8 * n) 24).toUInt8))) ((1 + ((119 - (n % 64)) % 64)).toNat + 1 + 1 + 1 + 1 + 1) (fun _ => ((shr64 (8 * n) 16).toUInt8))) ((1 + ((119 - (n % 64)) % 64)).toNat + 1 + 1 + 1 + 1 + 1 + 1) (fun _ => ((shr64 (8 * n) 8).toUInt8))) ((1 + ((119 - (n % 64)) % 64)).toNat + 1 + 1 + 1 + 1 + 1 + 1 + 1) (fun _ => ((shr64 (8 * n) 0).toUInt8)) k)) (u8 0))⟩] : List (Option Blk)) = [some ⟨n24, true, 0, (spr ((1 + ((119 - (n % 64)) % 64)).toNat + 1 + 1 + 1 + 1 + 1 + 1 + 1 + 1 + n25) ((1 + ((119 - (n % 64)) % 64)).toNat + 1 + 1 + 1 + 1 + 1 + 1 + 1 + 1) (fun k => u8 (tailF n k)) (u8 0))⟩] from by rw [spr_as (fun k hk => congrArg u8 (tail_cat n k hk rfl))]))))))))))))))))))))))))))))))))))))))))))))))))))))))))))))))))
theorem tail_runs (n : UInt64) : Runs Tryd.prog 43 [u64 n] [] 2 (fun ns => .slice (some ⟨ns.getD 0 0, 0, none⟩) (tailZ n + 8) (tailZ n + 8 + ns.getD 1 0)) (fun ns => [some ⟨ns.getD 0 0, true, 0, spr (tailZ n + 8 + ns.getD 1 0) (tailZ n + 8) (fun k => u8 (tailF n k)) (u8 0)⟩]) := tail_runs0 n
def sum_fam_S1 (c : Nat) (H : HS) (n1 : Nat) (n2 : Nat) (n3 : Nat) (n4 : Nat) (n5 : Nat) (x1 : Nat × (Nat → UInt8)) : St := ⟨[(2, .v (ptr n1 0)), (3, .v (ptr n2 0)), (4, .v (ptr n5 0)), (15, .v (nat x1.1))], [(0, some ⟨c, false, 0, (hashC H)⟩), (1, some ⟨n1, true, 0, (.lit [(u8 0), (u8 0), (u8 0), (u8 0), (u8 0), (u8 0), (u8 0), (u8 0), (u8 0), (u8 0), (u8 0), (u8 0), (u8 0), (u8 0), (u8 0), (u8 0), (u8 0), (u8 0), (u8 0), (u8 0), (u8 0), (u8 0), (u8 0), (u8 0), (u8 0), (u8 0), (u8 0), (u8 0), (u8 0), (u8 0), (u8 0), (u8 0)])⟩), (2, some ⟨n2, true, 0, (hashC (wrH H (tailF H.n) (tailZ H.n + 8)))⟩), (3, some ⟨n3, true, 0, (spr (tailZ H.n + 8 + n4) (tailZ H.n + 8) (fun k => u8 (tailF H.n k)) (u8 0))⟩), (4, some ⟨n5, true, 0, (tabF 32 (fun k => u8 (x1.2 k)))⟩)], 5⟩
def sum_fam_R1 (c : Nat) (H : HS) (n1 : Nat) (n2 : Nat) (n3 : Nat) (n4 : Nat) (n5 : Nat) (x1 : Nat × (Nat → UInt8)) : Prop := (x1.1 ≤ 32) ∧ (x1.2 = digR (wrH H (tailF H.n) (tailZ H.n + 8)).s x1.1)
def sum_fam_mu1 (c : Nat) (H : HS) (n1 : Nat) (n2 : Nat) (n3 : Nat) (n4 : Nat) (n5 : Nat) (x1 : Nat × (Nat → UInt8)) : Nat := 32 - x1.1
theorem sum_fam (c : Nat) (H : HS) : RunsF famT Tryd.prog 31 [(ptr c 0)] [⟨c, false, 0, (hashC H)⟩] 0 (fun (_ : List Nat) => vecV 32 fun k => u8 (sumD H k)) (fun (_ : List Nat) => [some ⟨c, false, 0, (hashC H)⟩]) :=
  runsF_of_ev (F := famT) mix Tryd.func31 rfl rfl 400 (.regn [(0, .new)] (more (fun n1 => fun _ => (.regn [(0, .g), (1, (.call [(0, true)] 1 1 (fun ns => ptr (ns.getD 0 0) 0) (fun ns => [none, some ⟨ns.getD 0 0, true, 0, hashC H⟩]))), (2, .g)] (more (fun n2 => fun _ => (.regn [(0, .g), (1, .g), (2, .g), (3, .g), (4, (.ld 0 (.lit 72))), (5, (.call [] 2 1 (fun ns => Value.slice (some ⟨ns.getD 0 0, 0, none⟩) (tailZ H.n + 8) (tailZ H.n + 8 + ns.getD 1 0)) (fun ns => [some ⟨(ns.getD 0 0), true, 0, spr (tailZ H.n + 8 + (ns.getD 1 0)) (tailZ H.n + 8) (fun k => u8 (tailF H.n k)) (u8 0)⟩]))), (6, (.callF [(2, false), (3, true)] 0 0 (fun _ => (Value.tuple #[])) (fun _ => [some ⟨n2, true, 0, hashC (wrH H (tailF H.n) (tailZ H.n + 8))⟩, none])))] (more (fun n3 => more (fun n4 => fun _ => (.regn [(0, .new)] (more (fun n5 => fun _ => (.reg [(0, .g)] (.cast 4 (tabF 32 (fun k => u8 ((fun _ => 0) k))) (.inv [2, 3, 4, 15] [0, 1, 2, 3, 4] 5 (sum_fam_R1 c H n1 n2 n3 n4 n5) (sum_fam_S1 c H n1 n2 n3 n4 n5) (sum_fam_mu1 c H n1 n2 n3 n4 n5) ((0, (fun _ => 0)) : Nat × (Nat → UInt8)) (fun (x1 : Nat × (Nat → UInt8)) => (.reg [(0, (.as (Value.bool (decide (x1.1 < 32)))))] (.br (.reg [(0, .g), (1, .g)] (.reg [(0, .g), (1, .g), (2, .g), (3, (.as (nat (x1.1 / 4)))), (4, .g), (5, .g), (6, (.as (ptr n2 (0 + (x1.1 / 4) * 1)))), (7, (.oth [(2, true)] 0 0 (fun _ => (u32 ((wrH H (tailF H.n) (tailZ H.n + 8)).s (x1.1 / 4)))) (fun _ => [none]))), (8, .g), (9, (.as (nat (x1.1 % 4)))), (10, (.as (nat ((x1.1 % 4) * 8)))), (11, (.as (nat (24 - ((x1.1 % 4) * 8))))), (12, (.as (u32 (shr32 ((wrH H (tailF H.n) (tailZ H.n + 8)).s (x1.1 / 4)) (24 - ((x1.1 % 4) * 8)))))), (13, (.as (u8 ((shr32 ((wrH H (tailF H.n) (tailZ H.n + 8)).s (x1.1 / 4)) (24 - ((x1.1 % 4) * 8))).toUInt8)))), (14, (.as (ptr n5 (0 + x1.1 * 1)))), (15, (.stc 4 (.tab x1.1 0) (tabF 32 (fun k => u8 (upd x1.2 x1.1 ((shr32 ((wrH H (tailF H.n) (tailZ H.n + 8)).s (x1.1 / 4)) (24 - ((x1.1 % 4) * 8))).toUInt8) k)))))] (.reg [(0, (.as (nat (x1.1 + 1)))), (1, .g)] .done))) (.cast 4 (litF 32 (fun k => u8 (x1.2 k))) (.reg [(0, (.ld 4 (.lit 0))), (1, (.st 1 (.lit 0)))] .done))))))))))))))))))))) [(1, 0)] [] rfl
    (have f0 : tailZ H.n ≤ 64 := (tailZ_le H.n).2; Eq.mp (by kernel_rfl) (fun (n1 : Nat) => aI (sk tV) (fun (n2 : Nat) => aI (sk (aI (aT (Runs.dark [true] (copy_runs c H))) (sk tV))) (fun (n3 n4 : Nat) => aI (sk (sk (sk (sk (aI (aT (ad c 72)) (aI (aT (tail_runs H.n)) (aI (aT (write_own (fun (x : Blk) (h : famT x) => h) n2 H n3 (tailZ H.n + 8) (tailZ H.n + 8 + n4) (tailF H.n) ⟨n3, false, 0, (spr (tailZ H.n + 8 + n4) (tailZ H.n + 8) (fun k => u8 (tailF H.n k)) (u8 0))⟩ rfl rfl (fun w h => holds_sprB h) (show tailZ H.n + 8 ≤ tailZ H.n + 8 + n4 from by have ft := (tailZ_le H.n); omega) (show tailZ H.n + 8 ≤ 9223372036854775807 from by have ft := (tailZ_le H.n); omega))) tV))))))) ((have ft := (tailZ_le H.n); fun (n5 : Nat) => aI (sk tV) (aI (sk tV) (aI (to_tabF 32 (fun k => u8 ((fun _ => 0) k))) (aI (show (sum_fam_R1 c H n1 n2 n3 n4 n5) ((0, (fun _ => 0)) : Nat × (Nat → UInt8)) from (show (0 ≤ 32) ∧ ((fun _ => 0) = digR (wrH H (tailF H.n) (tailZ H.n + 8)).s 0) from by exact ⟨by omega, digR_zero _⟩)) (aI (@rfl St ((sum_fam_S1 c H n1 n2 n3 n4 n5) ((0, (fun _ => 0)) : Nat × (Nat → UInt8)))) (fun (x1 : Nat × (Nat → UInt8)) (hx1 : (sum_fam_R1 c H n1 n2 n3 n4 n5) x1) => have B0 : x1.1 ≤ 32 := hx1.1; have B1 : x1.2 = digR (wrH H (tailF H.n) (tailZ H.n + 8)).s x1.1 := hx1.2; aI (aI (aT (@is_lssn Tryd.prog 3 3 (.tmp 15) (.const (.int .i64 32))  x1.1 32)) tV) (aT (aI (fun (h1 : (decide (x1.1 < 32)) = true) => have f4 := (oT h1); aI (sk (sk tV)) (aI (sk (sk (sk (aI (aT (@is_quon Tryd.prog 3 3 (.tmp 20) (.const (.int .i64 4))  x1.1 4 (show 0 < 4 ∧ x1.1 ≤ 9223372036854775807 from by omega))) (sk (sk (aI (aT (@is_ixArr Tryd.prog 90 51 (.tmp 23) (.tmp 21) 1 8 (by kernel_rfl) (by kernel_rfl) n2 0 (x1.1 / 4) (show x1.1 / 4 < 8 from by omega))) (aI (aT (srun_ldW (P := Tryd.prog) (t := 51) (by kernel_rfl) (wrH H (tailF H.n) (tailZ H.n + 8)) n2 (x1.1 / 4) (show x1.1 / 4 < 8 from by omega))) (sk (aI (aT (@is_remn Tryd.prog 3 3 (.tmp 26) (.const (.int .i64 4))  x1.1 4 (show 0 < 4 from by omega))) (aI (aT (@is_muln Tryd.prog 3 3 (.tmp 27) (.const (.int .i64 8))  (x1.1 % 4) 8 (show (x1.1 % 4) * 8 ≤ 9223372036854775807 from by omega))) (aI (aT (@is_subn Tryd.prog 3 3 (.const (.int .i64 24)) (.tmp 28)  24 ((x1.1 % 4) * 8) (show ((x1.1 % 4) * 8) ≤ 24 ∧ 24 - ((x1.1 % 4) * 8) ≤ 9223372036854775807 from by omega))) (aI (aT (@is_shr32 Tryd.prog 51 3 (.tmp 25) (.tmp 29) ((wrH H (tailF H.n) (tailZ H.n + 8)).s (x1.1 / 4)) .i64 (24 - ((x1.1 % 4) * 8)))) (aI (aT (@conv_u32_u8 Tryd.prog 51 5 (.tmp 30) (by kernel_rfl) (by kernel_rfl) (shr32 ((wrH H (tailF H.n) (tailZ H.n + 8)).s (x1.1 / 4)) (24 - ((x1.1 % 4) * 8))))) (aI (aT (@is_ixArr Tryd.prog 24 5 (.tmp 4) (.tmp 18) 1 32 (by kernel_rfl) (by kernel_rfl) n5 0 x1.1 (show x1.1 < 32 from by omega))) (aI (aT (aI (show x1.1 < 32 from by omega) (aI (@rfl Value (ptr n5 (0 + x1.1 * 1))) (store_tabF 32 u8 x1.2 x1.1 ((shr32 ((wrH H (tailF H.n) (tailZ H.n + 8)).s (x1.1 / 4)) (24 - ((x1.1 % 4) * 8))).toUInt8))))) tV)))))))))))))))) (aI (aI (aT (@is_addn Tryd.prog 3 3 (.tmp 15) (.const (.int .i64 1))  x1.1 1 (show x1.1 + 1 ≤ 9223372036854775807 from by omega))) (sk tV)) ((rnd (sum_fam_R1 c H n1 n2 n3 n4 n5) (sum_fam_S1 c H n1 n2 n3 n4 n5) (sum_fam_mu1 c H n1 n2 n3 n4 n5) x1 ((x1.1 + 1, upd x1.2 x1.1 ((shr32 ((wrH H (tailF H.n) (tailZ H.n + 8)).s (x1.1 / 4)) (24 - ((x1.1 % 4) * 8))).toUInt8)) : Nat × (Nat → UInt8)) (show (sum_fam_R1 c H n1 n2 n3 n4 n5) ((x1.1 + 1, upd x1.2 x1.1 ((shr32 ((wrH H (tailF H.n) (tailZ H.n + 8)).s (x1.1 / 4)) (24 - ((x1.1 % 4) * 8))).toUInt8)) : Nat × (Nat → UInt8)) ∧ (sum_fam_mu1 c H n1 n2 n3 n4 n5) ((x1.1 + 1, upd x1.2 x1.1 ((shr32 ((wrH H (tailF H.n) (tailZ H.n + 8)).s (x1.1 / 4)) (24 - ((x1.1 % 4) * 8))).toUInt8)) : Nat × (Nat → UInt8)) < (sum_fam_mu1 c H n1 n2 n3 n4 n5) x1 from (show (((x1.1 + 1) ≤ 32) ∧ ((upd x1.2 x1.1 ((shr32 ((wrH H (tailF H.n) (tailZ H.n + 8)).s (x1.1 / 4)) (24 - ((x1.1 % 4) * 8))).toUInt8)) = digR (wrH H (tailF H.n) (tailZ H.n + 8)).s (x1.1 + 1))) ∧ (32 - (x1.1 + 1)) < (32 - x1.1) from by exact ⟨⟨by omega, digR_step B1⟩, by omega⟩))))))) (fun (h1 : (decide (x1.1 < 32)) = false) => have f4 := (oF h1); aI (to_litF 32 (fun k => u8 (x1.2 k))) (aI (aI (aT (ad n5 0)) (aI (aT (ad n1 0)) tV)) (aI (aI (@rfl Value (ptr n1 0)) tV) (eX (fun (ns : List Nat) => ns.length = 0 ∧ ((vecV 32 (fun k => u8 (x1.2 k))) : Value) = (fun (_ : List Nat) => vecV 32 fun k => u8 (sumD H k)) ns ∧ ([some ⟨c, false, 0, (hashC H)⟩] : List (Option Blk)) = (fun (_ : List Nat) => [some ⟨c, false, 0, (hashC H)⟩]) ns) [] (aI (@rfl Nat 0) (aI ((show (vecV 32 (fun k => u8 (x1.2 k))) = vecV 32 (fun k => u8 (sumD H k)) from by have e0 : x1.1 = 32 := (by omega); exact sum_fin H B1 e0)) (@rfl (List (Option Blk)) [some ⟨c, false, 0, (hashC H)⟩]))))))))))))))))))))
end Go.Proofs.YtnkokocpchedkaaDoor
end
section
namespace Go.Eng
theorem rp_init {g f : Nat → UInt8} {n : Nat} : ∀ k, k < 0 + n + 1 → catU (catU g 0 f) (0 + n) (fun _ => 128) k = rpad f n k := fun k hk => by
  unfold catU rpad
  by_cases h : k < n
  · rw [if_pos (by omega), if_neg (by omega), if_pos h, Nat.sub_zero]
  · rw [if_neg (by omega), if_neg h, if_pos (by omega)]
theorem rp_step {f g : Nat → UInt8} {n L : Nat} (h0 : n + 1 ≤ L) (h : ∀ k, k < L → g k = rpad f n k) : ∀ k, k < L + 1 → catU g L (fun _ => 0) k = rpad f n k := fun k hk => by
  unfold catU
  by_cases h1 : k < L
  · rw [if_pos h1, h k h1]
  · rw [if_neg h1]
    unfold rpad
    rw [if_neg (by omega), if_neg (by omega)]
theorem rp_all {f g : Nat → UInt8} {n L : Nat} (hL : L = rpadL n) (h : ∀ k, k < L → g k = rpad f n k) : ∀ k, k < L + 8 →
    catU (catU (catU (catU (catU (catU (catU (catU g L (fun _ => (shr64 (UInt64.ofNat n * 8) 56).toUInt8)) (L + 1) (fun _ => (shr64 (UInt64.ofNat n * 8) 48).toUInt8)) (L + 1 + 1) (fun _ => (shr64 (UInt64.ofNat n * 8) 40).toUInt8)) (L + 1 + 1 + 1) (fun _ => (shr64 (UInt64.ofNat n * 8) 32).toUInt8)) (L + 1 + 1 + 1 + 1) (fun _ => (shr64 (UInt64.ofNat n * 8) 24).toUInt8)) (L + 1 + 1 + 1 + 1 + 1) (fun _ => (shr64 (UInt64.ofNat n * 8) 16).toUInt8)) (L + 1 + 1 + 1 + 1 + 1 + 1) (fun _ => (shr64 (UInt64.ofNat n * 8) 8).toUInt8)) (L + 1 + 1 + 1 + 1 + 1 + 1 + 1) (fun _ => (shr64 (UInt64.ofNat n * 8) 0).toUInt8) k = padF f n k := fun k hk => by
  rw [cat8 _ _ _ _ _ _ _ _ _ _ _ hk]
  by_cases h1 : k < L
  · rw [if_pos h1, h k h1, rpad_tail (by omega)]
  · rw [if_neg h1]
    obtain ⟨j, rfl⟩ : ∃ j, k = L + j := ⟨k - L, by omega⟩
    rw [Nat.add_sub_cancel_left, hL, rpad_len (by omega)]
    unfold lenB
    rw [UInt64.mul_comm 8]
    rcases j with _ | _ | _ | _ | _ | _ | _ | _ | j <;> first | rfl | omega
theorem blk_step {f g : Nat → UInt8} {n M at_ nm c : Nat} {s : Nat → UInt32} (h0 : at_ % 64 = 0) (h1 : at_ + 64 ≤ M) (h2 : s = foldS (padF f n) (at_ / 64)) (h : ∀ k, k < M → g k = padF f n k) :
    mixS s (bytP nm at_ 64 c g).wf = foldS (padF f n) ((at_ + 64) / 64) := by
  rw [h2, show (at_ + 64) / 64 = at_ / 64 + 1 by omega, foldS]
  exact mixS_congr fun k hk => by
    show g (at_ + k) = _
    rw [h _ (by omega), show 64 * (at_ / 64) = at_ by omega]
theorem digR_stepR {s : Nat → UInt32} {d : Nat → UInt8} {i : Nat} (h : d = digR s i) : upd d i ((shr32 (s (i / 4)) (24 - 8 * (i % 4))).toUInt8) = digR s (i + 1) := by
  rw [Nat.mul_comm 8]; exact digR_step h
theorem rof_fin {f : Nat → UInt8} {n at_ i : Nat} {s : Nat → UInt32} {d : Nat → UInt8} (h : d = digR s i) (hi : i = 32) (hs : s = foldS (padF f n) (at_ / 64)) (ha : at_ = rpadL n + 8) : vecV 32 (fun k => u8 (d k)) = vecV 32 fun k => u8 (digOf f n k) := by
  subst h hi hs ha
  rw [vec_digR]
  unfold digOf rpadL
  rw [show n + (tailZ (UInt64.ofNat n) + 8) = n + tailZ (UInt64.ofNat n) + 8 by omega]
end Go.Eng
end
