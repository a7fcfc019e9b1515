/-
  Many in one: Maps, Fams, Byt, Grow, PurFair, PurSum, PurFns, Heap, HeapStd, Lack, Opt, Stake, StkHp, Stake2.
-/
import Derived.Test.YtchkbchbfilipaaZStakeStays8
import Derived.MapKept
import Derived.WideKeyRuns
section
namespace Go.Eng
open Go.WideShapes
set_option linter.unusedSimpArgs false
set_option linter.unusedVariables false
section
variable {α β : Type} {P : Program} {mt kt et : TypeId} {kv : α → Value} {ev : β → Value} {z : β} {eqb : α → α → Bool}
end
end Go.Eng
end
section
namespace Go.Eng
open Go.RowKit Go.WideShapes Go.ChangeShapes Go.ChangeAt Go.Deep
set_option linter.unusedSimpArgs false
set_option linter.unusedVariables false
set_option maxRecDepth 100000
theorem Runs.toF {F : Blk → Prop} {P : Program} {f : FuncId} {args : List Value} {bs : List Blk} {k : Nat} {v : List Nat → Value} {out : List Nat → List (Option Blk)} (h : Runs P f args bs k v out) : RunsF F P f args bs k v out :=
  fun w hb ha _ => h w hb ha
theorem RunsF.mono {F F' : Blk → Prop} {P : Program} {f : FuncId} {args : List Value} {bs : List Blk} {k : Nat} {v : List Nat → Value} {out : List Nat → List (Option Blk)} (hs : ∀ b, F b → F' b) (h : RunsF F P f args bs k v out) : RunsF F' P f args bs k v out :=
  fun w hb ha hF => h w hb ha fun b hb' => hF b (hs b hb')
def noneL : List Blk → List (Option Blk)
  | [] => []
  | _ :: r => none :: noneL r
theorem noneL_get : ∀ (l : List Blk) (p : Nat) (b : Blk), listMem (noneL l) p ≠ some b
  | [], p, b => by simp [noneL, listMem]
  | _ :: r, 0, b => by simp [noneL, listMem]
  | _ :: r, p + 1, b => noneL_get r p b
theorem RunsF.read {F : Blk → Prop} {P : Program} {f : FuncId} {args : List Value} {cs : List Blk} {v : Value} (h : RunsF F P f args [] 0 (fun _ => v) (fun _ => []))
    (hF : ∀ w : World, (∀ b ∈ cs, Holds b w) → ∀ b, F b → Holds b w ∧ b.own = false) (hb : ∀ b ∈ cs, b.own = false) : Runs P f args cs 0 (fun _ => v) (fun _ => noneL cs) := by
  intro w hm ha
  have hno : ∀ k, ¬ Owns (listMem (([] : List Blk).map some)) k := fun k ⟨p, b, h1, h2, _⟩ => by cases h1
  refine Calls.mono (h w (fun b hb' => by cases hb') (fun p q b c _ hpb _ ho => by cases hpb) (fun b hFb => ⟨(hF w hm b hFb).1, (hF w hm b hFb).2, hno _⟩)) ?_
  rintro e w' ⟨ns, hns, he, hp⟩
  refine ⟨ns, hns, he, ⟨fun p b hpb => absurd hpb (noneL_get _ _ _), fun p q b c _ hpb _ _ => absurd hpb (noneL_get _ _ _), ⟨hp.adv.os, hp.adv.output, hp.adv.tape, hp.adv.size, fun k hk _ => hp.adv.heap k hk (hno k), fun k ⟨p, b, h1, _, _⟩ => absurd h1 (noneL_get _ _ _), fun p b hpb _ => absurd hpb (noneL_get _ _ _)⟩⟩⟩
section
variable {P : Program} {t e : TypeId} {x ix : Operand}
end
theorem RunsF.over {F F' : Blk → Prop} {P : Program} {f : FuncId} {args : List Value} {bs : List Blk} {k : Nat} {v : List Nat → Value} {out : List Nat → List (Option Blk)} (hs : ∀ b, F b → ∃ b', F' b' ∧ b.name = b'.name ∧ b.own = b'.own ∧ ∀ w : World, Holds b' w → Holds b w) (h : RunsF F P f args bs k v out) : RunsF F' P f args bs k v out :=
  fun w hb ha hF => h w hb ha fun b hb' => by
    obtain ⟨b', h1, h2, h3, h4⟩ := hs b hb'
    obtain ⟨k1, k2, k3⟩ := hF b' h1
    exact ⟨h4 w k1, h3.trans k2, by rw [h2]; exact k3⟩
def fromA (a : Option Addr) (cap i sz : Nat) : Option Addr := if cap = i then a else a.map (·.add (i * sz))
theorem is_slqFrom {P : Program} {t e : TypeId} {x y : Operand} (ht : P.underlying t = some (.slice e)) {sz : Nat} (hs : sizeB P e = some sz) (wa : Option Addr) (len cap i : Nat) (hi : i ≤ len ∧ len ≤ cap) : IsOp P (.slice t x (some y) none none) [.slice wa len cap, nat i] (.slice (fromA wa cap i sz) (len - i) (cap - i)) := by
  intro ρ o' ho hv
  rw [ho] at hv
  have hv' : [ρ x, ρ y] = [Value.slice wa len cap, nat i] := hv
  injection hv' with h1 hv'
  injection hv' with h2 _
  unfold execOp
  rw [ho]
  simp only [Option.map]
  show pureRun P (Sem.bind (Instr.sliceAt t (ρ x) (some (ρ y)) none none) fun v => Sem.pure (Next.value v)) = _
  rw [pureRun_bind, h1, h2]
  have hi' : 0 ≤ (i : Int) ∧ (i : Int) ≤ (len : Int) := by omega
  have e : pureRun P (Instr.sliceAt t (.slice wa len cap) (some (nat i)) none none) = some (.slice (fromA wa cap i sz) (len - i) (cap - i)) := by
    simp only [Instr.sliceAt, Instr.slice, Instr.sliceBounds, Instr.sliceBound, nat, pureRun_bind', asIntOf, pureRun, pure, pureRun_underlying ht, hi', and_self, if_true, pureRun_sizeOf hs, Int.toNat_natCast]
    rfl
  rw [e]
  rfl
def FamH (F : Blk → Prop) (w : World) : Prop := ∀ b, F b → Holds b w ∧ b.own = false
end Go.Eng
end
section
set_option linter.unusedSimpArgs false
set_option linter.unusedVariables false
set_option maxRecDepth 100000
namespace Go.Eng
section
variable {P : Program} {t e t' : TypeId} {x y z : Operand}
end
section
variable {P : Program} {t ty e : TypeId}
theorem mk_build0 {B : Nat} {z : Value} (ht : P.underlying t = some (.slice e)) (h1 : OneC P e z B) {α : Type} (K : α → Value) (g : Nat → α) :
    SRuns P (buildSem t 0 #[]) [] 1 (fun ns => .slice (some ⟨ns.getD 0 0, 0, none⟩) 0 0) (fun ns => [some ⟨ns.getD 0 0, true, 0, spr (0 + 0) 0 (fun k => K (g k)) z⟩]) := by
  obtain ⟨i, hi, hz, hsz, hB, hzc⟩ := h1
  have h0 : SRuns P (buildSem t 0 #[]) [] 1 (fun ns => .slice (some ⟨ns.getD 0 0, 0, none⟩) 0 0) (fun ns => [some ⟨ns.getD 0 0, true, 0, .lit (#[] : Array Value).toList⟩]) := srun_made (e := e) fun w => by
    refine run_value ?_
    simp [Instr.buildSlice, run_underlying ht, sizeOf, typeInfo, hi, newRow, Instr.fill]
    exact congrArg (fun a => w.alloc (Obj.cells a e)) (Array.eq_empty_of_size_eq_zero (by simp))
  exact h0.recont (C' := fun _ => spr (0 + 0) 0 (fun k => K (g k)) z) (fun _ => rfl) fun ns o v ho => by
    rw [spr, tabF_out (by omega)] at ho; cases ho
end
end Go.Eng
namespace Go.Eng
def slF (sz : Nat) (vs : List Value) : Value := match vs with
  | [.slice a len cap, .int _ i] => .slice (fromA a cap i.toNat sz) (len - i.toNat) (cap - i.toNat)
  | _ => undef
end Go.Eng
namespace Go.Eng
theorem listMem_app {a b : List (Option Blk)} {p : Nat} {x : Blk} (h : listMem (a ++ b) p = some x) : (p < a.length ∧ listMem a p = some x) ∨ (a.length ≤ p ∧ listMem b (p - a.length) = some x) := by
  unfold listMem at h ⊢
  by_cases hp : p < a.length
  · left; rw [List.getElem?_append_left hp] at h; exact ⟨hp, h⟩
  · right; rw [List.getElem?_append_right (by omega)] at h; exact ⟨by omega, h⟩
theorem listMem_left {a b : List (Option Blk)} {p : Nat} (hp : p < a.length) : listMem (a ++ b) p = listMem a p := by
  unfold listMem; rw [List.getElem?_append_left hp]
theorem listMem_right {a b : List (Option Blk)} {p : Nat} (hp : a.length ≤ p) : listMem (a ++ b) p = listMem b (p - a.length) := by
  unfold listMem; rw [List.getElem?_append_right hp]
theorem noneL_length : ∀ cs : List Blk, (noneL cs).length = cs.length
  | [] => rfl
  | _ :: r => congrArg (· + 1) (noneL_length r)
theorem RunsF.lendG {F F' : Blk → Prop} {P : Program} {f : FuncId} {args : List Value} {bs cs : List Blk} {k : Nat} {v : List Nat → Value} {o nw : List Nat → List (Option Blk)} (h : RunsF F P f args bs k v (fun ns => o ns ++ nw ns)) (ho : ∀ ns, (o ns).length = bs.length)
    (hF : ∀ w : World, FamH F' w → (∀ b ∈ cs, Holds b w) → FamH F w) (hn : ∀ x, F x → (∃ y, F' y ∧ y.name = x.name) ∨ ∃ c ∈ cs, c.name = x.name) (hc : ∀ b ∈ cs, b.own = false) :
    RunsF F' P f args (bs ++ cs) k v (fun ns => o ns ++ (noneL cs ++ nw ns)) := by
  intro w hm ha hF'
  have hsub : ∀ p b, listMem (bs.map some) p = some b → p < bs.length ∧ listMem ((bs ++ cs).map some) p = some b := fun p b hp => by
    have hl : p < bs.length := by
      have := (List.getElem?_eq_some_iff.1 (listMem_some.1 hp)).1
      simpa using this
    exact ⟨hl, by rw [List.map_append, listMem_left (by simpa using hl)]; exact hp⟩
  have ho1 : ∀ k, Owns (listMem (bs.map some)) k → Owns (listMem ((bs ++ cs).map some)) k := fun k ⟨p, b, h1, h2, h3⟩ => ⟨p, b, (hsub p b h1).2, h2, h3⟩
  have hw := hF w (fun b hb' => ⟨(hF' b hb').1, (hF' b hb').2.1⟩) (fun b hb' => hm b (by simp [hb']))
  refine Calls.mono (h w (fun b hb' => hm b (by simp [hb'])) (fun p q b c hpq hpb hqc hown => ha p q b c hpq (hsub p b hpb).2 (hsub q c hqc).2 hown) (fun b hFb => ⟨(hw b hFb).1, (hw b hFb).2, fun ⟨p, b', h1, h2, h3⟩ => ?_⟩)) ?_
  · obtain ⟨hl, hp'⟩ := hsub p b' h1
    rcases hn b hFb with ⟨y, hy, he⟩ | ⟨c, hcm, he⟩
    · exact (hF' y hy).2.2 ⟨p, b', hp', h2, by rw [h3, he]⟩
    · obtain ⟨i, hi⟩ := List.getElem?_of_mem hcm
      have hq : listMem ((bs ++ cs).map some) (bs.length + i) = some c := by
        rw [List.map_append, listMem_right (by simp)]
        simp [listMem, hi]
      exact ha p (bs.length + i) b' c (by omega) hp' hq h2 (by rw [h3, he])
  · rintro e w' ⟨ns, hns, he, hp⟩
    have hout : ∀ p b, listMem (o ns ++ (noneL cs ++ nw ns)) p = some b → (p < bs.length ∧ listMem (o ns ++ nw ns) p = some b) ∨ (bs.length + cs.length ≤ p ∧ listMem (o ns ++ nw ns) (p - cs.length) = some b) := fun p b hpb => by
      rcases listMem_app hpb with ⟨h1, h2⟩ | ⟨h1, h2⟩
      · left; rw [ho] at h1; exact ⟨h1, by rw [listMem_left (by rw [ho]; exact h1)]; exact h2⟩
      · rw [ho] at h1 h2
        rcases listMem_app h2 with ⟨h3, h4⟩ | ⟨h3, h4⟩
        · exact absurd h4 (noneL_get _ _ _)
        · right
          rw [noneL_length] at h3 h4
          refine ⟨by omega, ?_⟩
          rw [listMem_right (by rw [ho]; omega), ho, show p - cs.length - bs.length = p - bs.length - cs.length by omega]; exact h4
    have hpos : ∀ p b, listMem (o ns ++ (noneL cs ++ nw ns)) p = some b → ∃ p', listMem (o ns ++ nw ns) p' = some b ∧ ((p < bs.length ∧ p' = p) ∨ (bs.length + cs.length ≤ p ∧ p' = p - cs.length)) := fun p b hpb => by
      rcases hout p b hpb with ⟨h1, h2⟩ | ⟨h1, h2⟩
      · exact ⟨p, h2, .inl ⟨h1, rfl⟩⟩
      · exact ⟨p - cs.length, h2, .inr ⟨h1, rfl⟩⟩
    refine ⟨ns, hns, he, ⟨fun p b hpb => ?_, fun p q b c hpq hpb hqc => ?_, ⟨hp.adv.os, hp.adv.output, hp.adv.tape, hp.adv.size, fun k hk hno => hp.adv.heap k hk (fun hk' => hno (ho1 k hk')), fun k ⟨p, b, h1, h2, h3⟩ => ?_, fun p b hpb hob => ?_⟩⟩⟩
    · obtain ⟨p', h1, _⟩ := hpos p b hpb; exact hp.holds p' b h1
    · obtain ⟨p', h1, h2⟩ := hpos p b hpb
      obtain ⟨q', h3, h4⟩ := hpos q c hqc
      exact hp.apart p' q' b c (by omega) h1 h3
    · obtain ⟨p', h4, _⟩ := hpos p b h1
      rcases hp.adv.names k ⟨p', b, h4, h2, h3⟩ with h5 | h5
      · exact .inl (ho1 k h5)
      · exact .inr h5
    · obtain ⟨p', h1, h2⟩ := hpos p b hpb
      have h3 := hp.adv.ro p' b h1 hob
      obtain ⟨h4, h5⟩ := hsub p' b h3
      rcases h2 with ⟨_, rfl⟩ | ⟨h6, rfl⟩
      · exact h5
      · omega
end Go.Eng
namespace Go.Eng
theorem Runs.fam {F : Blk → Prop} {P : Program} {f : FuncId} {args : List Value} {B : Blk} {v : Value} {o : List (Option Blk)} (h : Runs P f args [B] 0 (fun _ => v) (fun _ => o)) (hB : F B) : RunsF F P f args [] 0 (fun _ => v) (fun _ => []) := by
  intro w hm ha hF
  obtain ⟨h1, h2, _⟩ := hF B hB
  have hno : ∀ k, ¬ Owns (listMem ([B].map some)) k := fun k ⟨p, b, hp, ho, _⟩ => by
    rcases p with _ | p
    · cases hp; rw [h2] at ho; cases ho
    · simp [listMem] at hp
  refine Calls.mono (h w (fun b hb => by simp at hb; subst hb; exact h1) (fun p q b c _ hb _ ho => by
    rcases p with _ | p
    · cases hb; rw [h2] at ho; cases ho
    · simp [listMem] at hb)) ?_
  rintro e w' ⟨ns, hns, he, hp⟩
  have hnil : ∀ p b, listMem ([] : List (Option Blk)) p ≠ some b := fun p b => by simp [listMem]
  exact ⟨ns, hns, he, ⟨fun p b hpb => absurd hpb (hnil p b), fun p q b c _ hpb => absurd hpb (hnil p b), ⟨hp.adv.os, hp.adv.output, hp.adv.tape, hp.adv.size, fun k hk _ => hp.adv.heap k hk (hno k), fun k ⟨p, b, hpb, _⟩ => absurd hpb (hnil p b), fun p b hpb => absurd hpb (hnil p b)⟩⟩⟩
section
variable {P : Program} {t e t' : TypeId} {x y z : Operand}
end
section
variable {P : Program} {t t' : TypeId} {x y : Operand} (a b : UInt8)
end
end Go.Eng
namespace Go.Eng
end Go.Eng
namespace Go.Eng
end Go.Eng
namespace Go.Eng
section
variable {P : Program} {t t' : TypeId} {x y : Operand}
end
end Go.Eng
namespace Go.Eng
end Go.Eng
namespace Go.Eng
theorem RunsF.drop {F : Blk → Prop} {P : Program} {f : FuncId} {args : List Value} {bs : List Blk} {k : Nat} {v : List Nat → Value} {o nw : List Nat → List (Option Blk)} (h : RunsF F P f args bs k v (fun ns => o ns ++ nw ns)) : RunsF F P f args bs k v o := fun w hb ha hF =>
  Calls.mono (h w hb ha hF) fun e w' ⟨ns, h1, h2, hp⟩ => by
    have hs : ∀ p b, listMem (o ns) p = some b → listMem (o ns ++ nw ns) p = some b := fun p b h => by
      have hl : p < (o ns).length := (List.getElem?_eq_some_iff.1 (show (o ns)[p]? = some (some b) by
        unfold listMem at h
        cases h3 : (o ns)[p]? with
        | none => rw [h3] at h; cases h
        | some x => rw [h3] at h; simp at h; rw [h])).1
      rw [listMem_left hl]; exact h
    exact ⟨ns, h1, h2, ⟨fun p b h => hp.holds p b (hs p b h), fun p q b c hpq hb hc => hp.apart p q b c hpq (hs p b hb) (hs q c hc), hp.adv.weak hs⟩⟩
end Go.Eng
end
section
set_option linter.unusedSimpArgs false
set_option linter.unusedVariables false
set_option maxRecDepth 100000
namespace Go.Eng
structure Grw (α : Type) where
  z : Bool
  nm : Nat
  n : Nat
  r : Nat
  f : Nat → α
section
variable {α : Type} {K : α → Value} {zv : Value} {A : Grw α}
end
section
variable {P : Program} {t ty e : TypeId}
theorem srun_append_none {sz : Nat} (ht : P.underlying t = some (.slice e)) (hs : sizeB P e = some sz) (a : Option Addr) (n c : Nat) (hn : n ≤ c) (al : Option Addr) (cl : Nat) :
    SRuns P (appendSem t ty (.slice a n c) (.slice al 0 cl)) [] 0 (fun _ => .slice a n c) (fun _ => []) := by
  intro w hall ha
  obtain ⟨i, hi, hi2⟩ : ∃ i, P.info? e = some i ∧ i.size = sz := by
    unfold sizeB at hs
    cases h : P.info? e with
    | none => simp [h] at hs
    | some i => simp [h] at hs; exact ⟨i, rfl, hs⟩
  refine ⟨[], w, rfl, .inl (run_value ?_), Post.refl (fun p c h => by cases h) ha⟩
  have hn' : ¬ c < n := by omega
  cases al <;> cases a <;> simp [Builtin.append_, run_underlying ht, sizeOf, typeInfo, hi, hn', Builtin.lenOf, Builtin.firstCells, storeCells, loadCells, loadCellsFrom]
end
end Go.Eng
namespace Go.Eng
theorem srun_append_noneM {P : Program} {t ty e : TypeId} {sz : Nat} (ht : P.underlying t = some (.slice e)) (hs : sizeB P e = some sz) (a : Option Addr) (n c : Nat) (hn : n ≤ c) (al : Option Addr) (m cl : Nat) (hm : m = 0) :
    SRuns P (appendSem t ty (.slice a n c) (.slice al m cl)) [] 0 (fun _ => .slice a n c) (fun _ => []) := by
  subst hm; exact srun_append_none ht hs a n c hn al cl
section
variable {P : Program} {t ty e : TypeId}
end
end Go.Eng
end
section
namespace Go.Eng
open Go.RowKit Go.WideShapes Go.ChangeShapes Go.ChangeAt Go.Deep
set_option linter.unusedSimpArgs false
set_option linter.unusedVariables false
set_option maxRecDepth 100000
def urow2 (x y : UInt64) : Nat → UInt64 := fun k => if k = 0 then x else y
theorem lit2u_get (x y : UInt64) : ∀ j, j < 2 → (Cont.lit [u64 x, u64 y]).get (0 + j) = some (u64 (urow2 x y j)) := fun j hj => by
  rcases j with _ | _ | j
  · rfl
  · rfl
  · omega
theorem mulSmall (x y : UInt64) : (mul8 (smallN x) (smallN y)).lo.val = x.toNat * y.toNat := by
  have h := mul8_val (smallN x) (smallN y)
  rw [smallN_val, smallN_val] at h
  have hx := x.toNat_lt
  have hy := y.toNat_lt
  have h2 : x.toNat * y.toNat < 2 ^ 256 := by
    have := Nat.mul_le_mul (show x.toNat ≤ 2 ^ 64 by omega) (show y.toNat ≤ 2 ^ 64 by omega)
    omega
  have h3 := (mul8 (smallN x) (smallN y)).lo.val_lt
  by_cases e : (mul8 (smallN x) (smallN y)).hi.val = 0
  · rw [e] at h; omega
  · omega
theorem N4.a_of_lt {q : N4} (h : q.val < 2 ^ 64) : q.a.toNat = q.val := by
  have hb := q.b.toNat_lt
  unfold N4.val at h ⊢
  omega
theorem partP_val {pot w : UInt64} {T : N4} (hw : w.toNat ≤ T.val) : (partP pot w T).toNat = pot.toNat * w.toNat / T.val := by
  have hp := pot.toNat_lt
  have hle : pot.toNat * w.toNat / T.val ≤ pot.toNat := by
    by_cases h0 : T.val = 0
    · rw [h0, Nat.div_zero]; omega
    · exact Nat.div_le_of_le_mul (by rw [Nat.mul_comm T.val]; exact Nat.mul_le_mul_left _ hw)
  have hv : (wholeP pot w T).val = pot.toNat * w.toNat / T.val := by
    unfold wholeP quoD
    rw [N4.val_ofNat, mulSmall, Nat.mod_eq_of_lt (by omega)]
  unfold partP
  rw [if_neg]
  · rw [N4.a_of_lt (by omega), hv]
  · rw [len4_val]
    have := bitLen_le_of_lt (k := 64) (show (wholeP pot w T).val < 2 ^ 64 by omega)
    omega
theorem sprS_row (f : Nat → UInt64) (pot : UInt64) (g : Nat → UInt64) (T : N4) : ∀ k j, (sprS f pot g T k).1 j = if j < k then f j + partP pot (g j) T else f j
  | 0, j => by simp [sprS]
  | k + 1, j => by
    have ih := sprS_row f pot g T k
    simp only [sprS, upd]
    by_cases e : j = k
    · subst e; rw [if_pos rfl, ih, if_neg (by omega), if_pos (by omega)]
    · rw [if_neg e, ih]
      by_cases h : j < k
      · rw [if_pos h, if_pos (by omega)]
      · rw [if_neg h, if_neg (by omega)]
def sumF (q : Nat → Nat) : Nat → Nat
  | 0 => 0
  | k + 1 => sumF q k + q k
theorem sprS_left {f : Nat → UInt64} {pot : UInt64} {g : Nat → UInt64} {T : N4} : ∀ k, sumF (fun j => (partP pot (g j) T).toNat) k ≤ pot.toNat → (sprS f pot g T k).2.toNat = pot.toNat - sumF (fun j => (partP pot (g j) T).toNat) k
  | 0, _ => by simp [sprS, sumF]
  | k + 1, h => by
    simp only [sumF] at h ⊢
    have ih := sprS_left (f := f) (pot := pot) (g := g) (T := T) k (by omega)
    simp only [sprS]
    rw [UInt64.toNat_sub_of_le _ _ (by rw [UInt64.le_iff_toNat_le]; omega)]
    omega
theorem sumF_div {pot T : Nat} {q : Nat → Nat} (hT : 0 < T) : ∀ k, sumF (fun j => pot * q j / T) k * T ≤ pot * sumF q k ∧ pot * sumF q k + k ≤ (sumF (fun j => pot * q j / T) k + k) * T
  | 0 => ⟨by simp [sumF], by simp [sumF]⟩
  | k + 1 => by
    obtain ⟨h1, h2⟩ := sumF_div (pot := pot) (T := T) (q := q) hT k
    simp only [sumF]
    have e := Nat.div_add_mod (pot * q k) T
    have hm := Nat.mod_lt (pot * q k) hT
    generalize pot * q k / T = d at *
    generalize pot * q k % T = r at *
    rw [Nat.mul_add]
    generalize sumF (fun j => pot * q j / T) k = S at *
    generalize pot * sumF q k = A at *
    constructor
    · rw [Nat.add_mul, Nat.mul_comm d T]; omega
    · have e2 : (S + d + (k + 1)) * T = (S + k) * T + T * d + T := by
        rw [show S + d + (k + 1) = (S + k) + (d + 1) by omega, Nat.add_mul, Nat.add_mul d 1 T, Nat.mul_comm d T]; omega
      rw [e2]; omega
theorem sumU_sumF (g : Nat → UInt64) : ∀ n, sumU g n = sumF (fun j => (g j).toNat) n
  | 0 => rfl
  | k + 1 => by simp only [sumU, sumF]; rw [sumU_sumF g k]
theorem sumF_congr {p q : Nat → Nat} : ∀ {n : Nat}, (∀ k, k < n → p k = q k) → sumF p n = sumF q n
  | 0, _ => rfl
  | n + 1, h => by simp only [sumF]; rw [sumF_congr (n := n) fun k hk => h k (by omega), h n (by omega)]
section
variable {n : Nat} {w : Nat → UInt64} {pot : UInt64}
theorem sumF_one {q : Nat → Nat} {n a : Nat} (h : a < n) : q a ≤ sumF q n := by
  induction n with
  | zero => omega
  | succ n ih =>
    simp only [sumF]
    by_cases e : a = n
    · subst e; omega
    · have := ih (by omega); omega
theorem partP_zero {T : N4} : partP pot 0 T = 0 := by
  apply UInt64.toNat_inj.1
  rw [partP_val (by simp)]
  simp
end
end Go.Eng
end
section
namespace Go.Eng
open Go.RowKit Go.WideShapes Go.ChangeShapes Go.ChangeAt Go.Deep
set_option linter.unusedSimpArgs false
set_option linter.unusedVariables false
set_option maxRecDepth 100000
theorem sumU_upd {f : Nat → UInt64} {n a : Nat} {v : UInt64} (h : a < n) : sumU (upd f a v) n + (f a).toNat = sumU f n + v.toNat := by
  induction n with
  | zero => omega
  | succ n ih =>
    simp only [sumU]
    by_cases e : a = n
    · subst e
      have h0 : ∀ k, k ≤ a → sumU (upd f a v) k = sumU f k := by
        intro k; induction k with
        | zero => intro _; rfl
        | succ k ih2 => intro hk; simp only [sumU]; rw [ih2 (by omega)]; simp [upd, show k ≠ a by omega]
      rw [h0 a (Nat.le_refl _)]
      simp only [upd, if_true]; omega
    · have := ih (by omega)
      have e2 : upd f a v n = f n := by simp [upd, show n ≠ a by omega]
      rw [e2]; omega
theorem sum_move {n : Nat} {f : Nat → UInt64} {i j : Int} {x : UInt64} (hg : goodN n f) : sumU (moveF n f i j x) n = sumU f n := by
  by_cases h : moveE n f i j x = 0
  · have h0 := h
    rw [moveF_ok h]
    unfold moveE at h
    split at h
    · rename_i hij
      obtain ⟨hi, hj⟩ := hij
      split at h
      · cases h
      · rename_i hx
        have hi' := isI_iff.1 hi
        have hj' := isI_iff.1 hj
        have hs := (goodN_sum.1 hg).2
        generalize ha : i.toNat = a at *
        generalize hb : j.toNat = b at *
        have han : a < n := by omega
        have hbn : b < n := by omega
        have hxn : x.toNat ≤ (f a).toNat := by rw [UInt64.lt_iff_toNat_lt] at hx; omega
        have e1 : (f a - x).toNat = (f a).toNat - x.toNat := UInt64.toNat_sub_of_le _ _ (by rw [UInt64.le_iff_toNat_le]; exact hxn)
        have s1 := sumU_upd (f := f) (v := f a - x) han
        have s2 := sumU_upd (f := upd f a (f a - x)) (v := upd f a (f a - x) b + x) hbn
        have one := sumU_one (f := f) han
        by_cases hab : b = a
        · subst hab
          have e2 : upd f b (f b - x) b = f b - x := by simp [upd]
          rw [e2, UInt64.sub_add_cancel] at s2
          rw [e2, UInt64.sub_add_cancel]
          omega
        · have e2 : upd f a (f a - x) b = f b := by simp [upd, hab]
          have two := sumU_two (f := f) han hbn (fun e => hab e.symm)
          have e3 : (f b + x).toNat = (f b).toNat + x.toNat := by rw [UInt64.toNat_add, Nat.mod_eq_of_lt (by omega)]
          rw [e2] at s2 ⊢
          omega
    · cases h
  · rw [moveF_no h]
theorem good_of_sum {n : Nat} {f g : Nat → UInt64} (hg : goodN n f) (h : sumU g n = sumU f n) : goodN n g := by
  rw [goodN_sum] at hg ⊢; rw [h]; exact hg
theorem parts_le {n : Nat} {g : Nat → UInt64} {pot : UInt64} (hn : n ≤ 40) :
    sumF (fun j => (partP pot (g j) (totN g n)).toNat) n ≤ pot.toNat := by
  have hv : (totN g n).val = sumF (fun j => (g j).toNat) n := by rw [totN_val _ _ (by omega), sumU_sumF]
  rw [sumF_congr (q := fun j => pot.toNat * (g j).toNat / (totN g n).val) fun k hk => by rw [partP_val]; rw [hv]; exact sumF_one (q := fun j => (g j).toNat) hk]
  by_cases h0 : (totN g n).val = 0
  · have : ∀ m, sumF (fun j => pot.toNat * (g j).toNat / (totN g n).val) m = 0 := by
      intro m; induction m with
      | zero => rfl
      | succ m ih => simp only [sumF]; rw [ih, h0, Nat.div_zero]
    rw [this]; omega
  · have h1 := (sumF_div (pot := pot.toNat) (T := (totN g n).val) (q := fun j => (g j).toNat) (by omega) n).1
    rw [← hv] at h1
    exact Nat.le_of_mul_le_mul_right h1 (by omega)
theorem sumF_add (p q : Nat → Nat) : ∀ n, sumF (fun j => p j + q j) n = sumF p n + sumF q n
  | 0 => rfl
  | n + 1 => by simp only [sumF]; rw [sumF_add p q n]; omega
theorem sum_spread {n : Nat} {f : Nat → UInt64} {i j : Int} {m : Nat} {g : Nat → UInt64} (hg : goodN n f) : sumU (spreadF n f i j m g) n = sumU f n := by
  by_cases h : spreadE n i j m = 0
  · have h0 := h
    unfold spreadF
    rw [if_pos h]
    unfold spreadE at h
    split at h
    · rename_i hij
      obtain ⟨hi, hj, rfl⟩ := hij
      have hi' := isI_iff.1 hi
      have hj' := isI_iff.1 hj
      have hs := goodN_sum.1 hg
      generalize ha : i.toNat = a at *
      generalize hb : j.toNat = b at *
      have han : a < m := by omega
      have hbn : b < m := by omega
      have s0 := sumU_upd (f := f) (v := 0) han
      have z : (0 : UInt64).toNat = 0 := rfl
      rw [z] at s0
      have hp := parts_le (g := g) (pot := f a) hs.1
      have hl := sprS_left (f := upd f a 0) (pot := f a) (g := g) (T := totN g m) m hp
      have hrow : ∀ k, k < m → ((sprS (upd f a 0) (f a) g (totN g m) m).1 k).toNat = (upd f a 0 k).toNat + (partP (f a) (g k) (totN g m)).toNat := fun k hk => by
        rw [sprS_row, if_pos hk, UInt64.toNat_add, Nat.mod_eq_of_lt]
        have h1 := sumU_one (f := upd f a 0) hk
        have h2 := sumF_one (q := fun j => (partP (f a) (g j) (totN g m)).toNat) hk
        omega
      have hsum : sumU (sprS (upd f a 0) (f a) g (totN g m) m).1 m = sumU (upd f a 0) m + sumF (fun j => (partP (f a) (g j) (totN g m)).toNat) m := by
        rw [sumU_sumF, sumF_congr hrow, sumF_add, ← sumU_sumF]
      have s3 := sumU_upd (f := (sprS (upd f a 0) (f a) g (totN g m) m).1) (v := (sprS (upd f a 0) (f a) g (totN g m) m).1 b + (sprS (upd f a 0) (f a) g (totN g m) m).2) hbn
      have h1 := sumU_one (f := (sprS (upd f a 0) (f a) g (totN g m) m).1) hbn
      rw [UInt64.toNat_add, Nat.mod_eq_of_lt (by omega)] at s3
      omega
    · cases h
  · unfold spreadF; rw [if_neg h]
def sumW (f : Nat → UInt64) : Nat → UInt64
  | 0 => 0
  | k + 1 => sumW f k + f k
theorem sumW_val (f : Nat → UInt64) : ∀ n, sumU f n < 2 ^ 64 → (sumW f n).toNat = sumU f n
  | 0, _ => rfl
  | n + 1, h => by
    simp only [sumU] at h
    have := sumW_val f n (by omega)
    simp only [sumW, sumU]
    rw [UInt64.toNat_add, this, Nat.mod_eq_of_lt h]
theorem tot_sumW {n : Nat} {f : Nat → UInt64} (hg : goodN n f) : (totN f n).a = sumW f n := by
  have hs := goodN_sum.1 hg
  have hv := totN_val f n (by omega)
  apply UInt64.toNat_inj.1
  rw [N4.a_of_lt (by omega), hv, sumW_val f n (by omega)]
end Go.Eng
end
section
namespace Go.Proofs.Ytchkbchbfilipaa
open Go Go.Eng
set_option linter.unusedVariables false
set_option linter.unusedSimpArgs false
set_option maxRecDepth 100000
theorem div_tot (a m : N4) : Pure Try.prog 81 [nat4 a, nat4 m] (Value.tuple #[nat4 (quoD a m), nat4 (restD a m), int (errD m)]) := by
  have h := div_pure a m
  have e : divV a m = Value.tuple #[nat4 (quoD a m), nat4 (restD a m), int (errD m)] := by
    unfold divV quoD restD errD
    cases h0 : eq4 m ⟨0, 0, 0, 0⟩ with
    | true =>
      have h1 : m.val = 0 := by rw [eq4_val] at h0; exact of_decide_eq_true h0
      simp [h1]; rfl
    | false => simp
  rw [e] at h; exact h
theorem one23 : OneC Try.prog 23 (u64 0) 8 := oneC_of (by kernel_rfl) rfl
def total_runs_S1 (p : Nat) (o : Nat) (n : Nat) (c : Nat) (f : Nat → UInt64) (n1 : Nat) (n2 : Nat) (x1 : Nat × N4) : St := ⟨[(2, .v (ptr n1 0)), (3, .v (ptr n2 0)), (6, .v (Value.slice (some ⟨p, o, none⟩) n c)), (7, .v (nat n)), (8, .v (nat x1.1))], [(0, some ⟨p, false, o, (tabF n (fun k => u64 (f k)))⟩), (1, some ⟨n1, true, 0, (.lit [(u64 0), (u64 0), (u64 0), (u64 0)])⟩), (2, some ⟨n2, true, 0, (.lit [(u64 x1.2.a), (u64 x1.2.b), (u64 x1.2.c), (u64 x1.2.d)])⟩)], 3⟩
def total_runs_R1 (p : Nat) (o : Nat) (n : Nat) (c : Nat) (f : Nat → UInt64) (n1 : Nat) (n2 : Nat) (x1 : Nat × N4) : Prop := (x1.1 ≤ n) ∧ (x1.2 = totN f x1.1)
def total_runs_mu1 (p : Nat) (o : Nat) (n : Nat) (c : Nat) (f : Nat → UInt64) (n1 : Nat) (n2 : Nat) (x1 : Nat × N4) : Nat := n - x1.1
theorem total_runs (p o n c : Nat) (f : Nat → UInt64) (hn : n ≤ 9223372036854775807) : Runs Try.prog 54 [(Value.slice (some ⟨p, o, none⟩) n c)] [⟨p, false, o, (tabF n (fun k => u64 (f k)))⟩] 0 (fun (_ : List Nat) => nat4 (totN f n)) (fun (_ : List Nat) => [some ⟨p, false, o, (tabF n (fun k => u64 (f k)))⟩]) :=
  runs_of_ev mix Try.func54 rfl rfl 400 (.regn [(0, .new)] (more (fun n1 => fun _ => (.regn [(0, .new)] (more (fun n2 => fun _ => (.reg [(0, .g), (1, (.as (nat n))), (2, .g)] (.inv [2, 3, 6, 7, 8] [0, 1, 2] 3 (total_runs_R1 p o n c f n1 n2) (total_runs_S1 p o n c f n1 n2) (total_runs_mu1 p o n c f n1 n2) ((0, (N4.mk 0 0 0 0)) : Nat × N4) (fun (x1 : Nat × N4) => (.reg [(0, (.as (Value.bool (decide (x1.1 < n)))))] (.br (.reg [(0, (.as (ptr p (o + x1.1 * 1)))), (1, (.ld 0 (.tab x1.1 0))), (2, .g)] (.reg [(0, (.ld 2 (.lit 0))), (1, .g), (2, (.call [] 0 0 (fun _ => (Value.agg #[(u64 (f x1.1)), (u64 0), (u64 0), (u64 0)])) (fun _ => []))), (3, (.call [] 0 0 (fun _ => (Value.tuple #[(nat4 (add4 x1.2 (N4.mk (f x1.1) 0 0 0))), (u64 (b2u (add4c x1.2 (N4.mk (f x1.1) 0 0 0))))])) (fun _ => []))), (4, .g), (5, .g), (6, .g), (7, (.st 2 (.lit 0)))] (.reg [(0, (.as (nat (x1.1 + 1)))), (1, .g)] .done))) (.reg [(0, (.ld 2 (.lit 0))), (1, (.st 1 (.lit 0)))] .done)))))))))))) [(1, 0)] [] rfl
    (Eq.mp (by kernel_rfl) (have f0 : n ≤ 9223372036854775807 := hn; fun (n1 : Nat) => And.intro (sk trivial) (fun (n2 : Nat) => And.intro (sk trivial) (And.intro (sk (And.intro (And.intro trivial (@is_len Try.prog 22 23 (.tmp 6) (by kernel_rfl) (some ⟨p, o, none⟩) n c)) (sk trivial))) (And.intro (show (total_runs_R1 p o n c f n1 n2) ((0, (N4.mk 0 0 0 0)) : Nat × N4) from (show (0 ≤ n) ∧ ((N4.mk 0 0 0 0) = totN f 0) from by exact ⟨by omega, rfl⟩)) (And.intro (@rfl St ((total_runs_S1 p o n c f n1 n2) ((0, (N4.mk 0 0 0 0)) : Nat × N4))) (fun (x1 : Nat × N4) (hx1 : (total_runs_R1 p o n c f n1 n2) x1) => have B0 : x1.1 ≤ n := hx1.1; have B1 : x1.2 = totN f x1.1 := hx1.2; And.intro (And.intro (And.intro trivial (@is_lssn Try.prog 3 3 (.tmp 8) (.tmp 7)  x1.1 n)) trivial) (And.intro trivial (And.intro (fun (h1 : (decide (x1.1 < n)) = true) => have f3 : (x1.1 < n) := (of_decide_eq_true h1); And.intro (And.intro (And.intro trivial (@is_ixSl Try.prog 22 23 (.tmp 6) (.tmp 8) 1 (by kernel_rfl) (by kernel_rfl) p o n c x1.1 (show x1.1 < n from by omega))) (And.intro (And.intro trivial (And.intro (show x1.1 < n from by omega) (@rfl Value (ptr p (o + x1.1 * 1))))) (sk trivial))) (And.intro (And.intro (And.intro trivial (ad n2 0)) (sk (And.intro (And.intro trivial (small_pure (f x1.1))) (And.intro (And.intro trivial (add_pure x1.2 (N4.mk (f x1.1) 0 0 0))) (sk (sk (sk (And.intro (And.intro trivial (ad n2 0)) trivial)))))))) (And.intro (And.intro (And.intro trivial (@is_addn Try.prog 3 3 (.tmp 8) (.const (.int .i64 1))  x1.1 1 (show x1.1 + 1 ≤ 9223372036854775807 from by omega))) (sk trivial)) ((rnd (total_runs_R1 p o n c f n1 n2) (total_runs_S1 p o n c f n1 n2) (total_runs_mu1 p o n c f n1 n2) x1 ((x1.1 + 1, (add4 x1.2 (N4.mk (f x1.1) 0 0 0))) : Nat × N4) (show (total_runs_R1 p o n c f n1 n2) ((x1.1 + 1, (add4 x1.2 (N4.mk (f x1.1) 0 0 0))) : Nat × N4) ∧ (total_runs_mu1 p o n c f n1 n2) ((x1.1 + 1, (add4 x1.2 (N4.mk (f x1.1) 0 0 0))) : Nat × N4) < (total_runs_mu1 p o n c f n1 n2) x1 from (show (((x1.1 + 1) ≤ n) ∧ ((add4 x1.2 (N4.mk (f x1.1) 0 0 0)) = totN f (x1.1 + 1))) ∧ (n - (x1.1 + 1)) < (n - x1.1) from by exact ⟨⟨by omega, by rw [B1] <;> rfl⟩, by omega⟩))))))) (fun (h1 : (decide (x1.1 < n)) = false) => have f3 : ¬ (x1.1 < n) := (of_decide_eq_false h1); And.intro (And.intro (And.intro trivial (ad n2 0)) (And.intro (And.intro trivial (ad n1 0)) trivial)) (And.intro (And.intro (@rfl Value (ptr n1 0)) trivial) (@Exists.intro (List Nat) (fun (ns : List Nat) => ns.length = 0 ∧ ((nat4 x1.2) : Value) = (fun (_ : List Nat) => nat4 (totN f n)) ns ∧ ([some ⟨p, false, o, (tabF n (fun k => u64 (f k)))⟩] : List (Option Blk)) = (fun (_ : List Nat) => [some ⟨p, false, o, (tabF n (fun k => u64 (f k)))⟩]) ns) [] (And.intro (@rfl Nat 0) (And.intro ((show (nat4 x1.2) = nat4 (totN f n) from by have e : x1.1 = n := (by omega); rw [e] at B1; rw [← B1] <;> rfl)) (@rfl (List (Option Blk)) [some ⟨p, false, o, (tabF n (fun k => u64 (f k)))⟩])))))))))))))))
theorem part0_pure (x y : UInt64) (m : N4) : Pure Try.prog 73 [(u64 x), (u64 y), (nat4 m)] (Value.tuple #[nat4 (wholeP x y m), nat4 (restD (mul8 (smallN x) (smallN y)).lo m)]) :=
  pure_of_ev mix Try.func73 rfl rfl 400 (.regn [(0, .new), (1, .new), (2, .new)] (more (fun n1 => more (fun n2 => more (fun n3 => fun _ => (.regn [(0, .g), (1, (.call [] 0 0 (fun _ => (Value.agg #[(u64 x), (u64 0), (u64 0), (u64 0)])) (fun _ => []))), (2, .g), (3, (.call [] 0 0 (fun _ => (Value.agg #[(u64 y), (u64 0), (u64 0), (u64 0)])) (fun _ => []))), (4, (.call [] 0 0 (fun _ => (wide8 (mul8 (N4.mk x 0 0 0) (N4.mk y 0 0 0)))) (fun _ => []))), (5, .new), (6, (.st 3 (.lit 0)))] (more (fun n4 => fun _ => (.reg [(0, .g), (1, .g), (2, (.ld 3 (.lit 0))), (3, (.ld 0 (.lit 0))), (4, (.call [] 0 0 (fun _ => (Value.tuple #[(nat4 (quoD ((mul8 (N4.mk x 0 0 0) (N4.mk y 0 0 0)).lo) m)), (nat4 (restD ((mul8 (N4.mk x 0 0 0) (N4.mk y 0 0 0)).lo) m)), (int (errD m))])) (fun _ => []))), (5, .g), (6, .g), (7, .g), (8, .g), (9, (.st 1 (.lit 0))), (10, (.st 2 (.lit 0)))] (.reg [(0, (.ld 1 (.lit 0))), (1, (.ld 2 (.lit 0))), (2, (.st 1 (.lit 0))), (3, (.st 2 (.lit 0)))] .done)))))))))) [(1, 0), (2, 0)]
    (Eq.mp (by kernel_rfl) (fun (n1 n2 n3 : Nat) => And.intro (sk (sk (sk trivial))) (fun (n4 : Nat) => And.intro (sk (And.intro (And.intro trivial (small_pure x)) (sk (And.intro (And.intro trivial (small_pure y)) (And.intro (And.intro trivial (mul_pure (N4.mk x 0 0 0) (N4.mk y 0 0 0))) (sk (And.intro (And.intro trivial (ad n4 0)) trivial))))))) (And.intro (sk (sk (And.intro (And.intro trivial (ad n4 0)) (And.intro (And.intro trivial (ad n1 0)) (And.intro (And.intro trivial (div_tot ((mul8 (N4.mk x 0 0 0) (N4.mk y 0 0 0)).lo) m)) (sk (sk (sk (sk (And.intro (And.intro trivial (ad n2 0)) (And.intro (And.intro trivial (ad n3 0)) trivial))))))))))) (And.intro (And.intro (And.intro trivial (ad n2 0)) (And.intro (And.intro trivial (ad n3 0)) (And.intro (And.intro trivial (ad n2 0)) (And.intro (And.intro trivial (ad n3 0)) trivial)))) (And.intro (And.intro (@rfl Value (ptr n2 0)) (And.intro (@rfl Value (ptr n3 0)) trivial)) (@rfl Value (Value.tuple #[nat4 (wholeP x y m), nat4 (restD (mul8 (smallN x) (smallN y)).lo m)]))))))))
theorem part_pure (x y : UInt64) (m : N4) : Pure Try.prog 62 [(u64 x), (u64 y), (nat4 m)] (u64 (partP x y m)) :=
  pure_of_ev mix Try.func62 rfl rfl 400 (.regn [(0, .new), (1, .g)] (more (fun n1 => fun _ => (.regn [(0, .g), (1, .g), (2, (.ld 0 (.lit 0))), (3, (.call [] 0 0 (fun _ => (Value.tuple #[(nat4 (wholeP x y m)), (nat4 (restD (mul8 (smallN x) (smallN y)).lo m))])) (fun _ => []))), (4, .g), (5, .g), (6, .g), (7, .new), (8, .new), (9, (.st 1 (.lit 0))), (10, (.st 2 (.lit 0)))] (more (fun n2 => more (fun n3 => fun _ => (.reg [(0, (.ld 1 (.lit 0))), (1, (.call [] 0 0 (fun _ => (nat (len4 (wholeP x y m)))) (fun _ => []))), (2, (.as (Value.bool (decide (64 < (len4 (wholeP x y m)))))))] (.br (.reg [(0, .g)] .done) (.reg [(0, .g), (1, (.ld 1 (.lit 0))), (2, .g)] .done)))))))))) []
    (Eq.mp (by kernel_rfl) (fun (n1 : Nat) => And.intro (sk (sk trivial)) (fun (n2 n3 : Nat) => And.intro (sk (sk (And.intro (And.intro trivial (ad n1 0)) (And.intro (And.intro trivial (part0_pure x y m)) (sk (sk (sk (sk (sk (And.intro (And.intro trivial (ad n2 0)) (And.intro (And.intro trivial (ad n3 0)) trivial))))))))))) (And.intro (And.intro (And.intro trivial (ad n2 0)) (And.intro (And.intro trivial (len_pure (wholeP x y m))) (And.intro (And.intro trivial (@is_gtrn Try.prog 3 3 (.tmp 17) (.const (.int .i64 64))  (len4 (wholeP x y m)) 64)) trivial))) (And.intro trivial (And.intro (fun (h1 : (decide (64 < (len4 (wholeP x y m)))) = true) => have f0 : (64 < (len4 (wholeP x y m))) := (of_decide_eq_true h1); And.intro (sk trivial) (And.intro trivial ((show (u64 18446744073709551615) = u64 (partP x y m) from by unfold partP; rw [if_pos (of_decide_eq_true h1)] <;> rfl)))) (fun (h1 : (decide (64 < (len4 (wholeP x y m)))) = false) => have f0 : ¬ (64 < (len4 (wholeP x y m))) := (of_decide_eq_false h1); And.intro (sk (And.intro (And.intro trivial (ad n2 0)) (sk trivial))) (And.intro trivial ((show (u64 ((wholeP x y m).a)) = u64 (partP x y m) from by unfold partP; rw [if_neg (of_decide_eq_false h1)] <;> rfl))))))))))
theorem there_runs (b r n c : Nat) (i : Int) (hn : n ≤ 40) : Runs Try.prog 59 [(ptr b 0), (int i)] [⟨b, false, 0, (.lit [(Value.slice (some ⟨r, 0, none⟩) n c)])⟩] 0 (fun (_ : List Nat) => Value.bool (isI n i)) (fun (_ : List Nat) => [some ⟨b, false, 0, (.lit [(Value.slice (some ⟨r, 0, none⟩) n c)])⟩]) :=
  runs_of_ev mix Try.func59 rfl rfl 400 (.reg [(0, .g)] (.reg [(0, .g), (1, .g), (2, .g), (3, .opt .g), (4, .opt .g), (5, .opt .g), (6, .opt .g), (7, .opt (.ld 0 (.lit 0))), (8, .opt (.as (nat n))), (9, .opt .g), (10, .pk), (11, .g)] .done)) [] [] rfl
    (Eq.mp (by kernel_rfl) (have f0 : n ≤ 40 := hn; And.intro (sk trivial) (And.intro (sk (sk (sk (And.intro (fun (hg : (sameB (decide ((i : Int) ≥ 0)) true) = true) => t2) (And.intro (fun (hg : (sameB (decide ((i : Int) ≥ 0)) true) = true) => t2) (And.intro (fun (hg : (sameB (decide ((i : Int) ≥ 0)) true) = true) => (And.intro (And.intro hg trivial) trivial)) (And.intro (fun (hg : (sameB (decide ((i : Int) ≥ 0)) true) = true) => (And.intro (And.intro hg trivial) trivial)) (And.intro (fun (hg : (sameB (decide ((i : Int) ≥ 0)) true) = true) => (And.intro (And.intro hg trivial) (ad b 0))) (And.intro (fun (hg : (sameB (decide ((i : Int) ≥ 0)) true) = true) => have f1 : ((i : Int) ≥ 0) := (of_decide_eq_true (sameB_t hg)); (And.intro (And.intro hg trivial) (@is_len Try.prog 22 23 (.tmp 12) (by kernel_rfl) (some ⟨r, 0, none⟩) n c))) (And.intro (fun (hg : (sameB (decide ((i : Int) ≥ 0)) true) = true) => (And.intro (And.intro hg (And.intro hg trivial)) trivial)) (And.intro (And.intro trivial (And.intro (fun (hp : (decide ((i : Int) ≥ 0)) = true) => (sameB_mk hp)) (fun (_ : (decide ((i : Int) ≥ 0)) = false) => trivial))) (sk trivial)))))))))))) (And.intro trivial (@Exists.intro (List Nat) (fun (ns : List Nat) => ns.length = 0 ∧ ((Value.bool (selB (decide ((i : Int) ≥ 0)) (decide ((i : Int) < ((n : Nat) : Int))) false)) : Value) = (fun (_ : List Nat) => Value.bool (isI n i)) ns ∧ ([some ⟨b, false, 0, (.lit [(Value.slice (some ⟨r, 0, none⟩) n c)])⟩] : List (Option Blk)) = (fun (_ : List Nat) => [some ⟨b, false, 0, (.lit [(Value.slice (some ⟨r, 0, none⟩) n c)])⟩]) ns) [] (And.intro (@rfl Nat 0) (And.intro ((show (Value.bool (selB (decide ((i : Int) ≥ 0)) (decide ((i : Int) < ((n : Nat) : Int))) false)) = Value.bool (isI n i) from congrArg Value.bool (by unfold isI; simp [selB_and]))) (@rfl (List (Option Blk)) [some ⟨b, false, 0, (.lit [(Value.slice (some ⟨r, 0, none⟩) n c)])⟩]))))))))
theorem has_out (b r n c : Nat) (f : Nat → UInt64) (i : Int) (hn : n ≤ 40) (hi : isI n i = false) : Runs Try.prog 40 [(ptr b 0), (int i)] [⟨b, false, 0, (.lit [(Value.slice (some ⟨r, 0, none⟩) n c)])⟩, ⟨r, false, 0, (tabF n (fun k => u64 (f k)))⟩] 0 (fun (_ : List Nat) => u64 0) (fun (_ : List Nat) => [some ⟨b, false, 0, (.lit [(Value.slice (some ⟨r, 0, none⟩) n c)])⟩, some ⟨r, false, 0, (tabF n (fun k => u64 (f k)))⟩]) :=
  runs_of_ev mix Try.func40 rfl rfl 400 (.reg [(0, .g)] (.reg [(0, .g), (1, .g), (2, (.call [(0, true)] 0 0 (fun _ => (Value.bool (isI n i))) (fun _ => [none]))), (3, .g)] (.yes (.reg [(0, .g)] .done)))) [] [] rfl
    (Eq.mp (by kernel_rfl) (have f0 : n ≤ 40 := hn; And.intro (sk trivial) (And.intro (sk (sk (And.intro (And.intro trivial (Runs.dark [true] (there_runs b r n c i (show n ≤ 40 from by omega)))) (sk trivial)))) ((fun (hp1 : (!(isI n i)) = true) => have f1 : (isI n i) = false := (bnot_t hp1); And.intro trivial (And.intro hp1 (And.intro (sk trivial) (And.intro trivial (@Exists.intro (List Nat) (fun (ns : List Nat) => ns.length = 0 ∧ ((u64 0) : Value) = (fun (_ : List Nat) => u64 0) ns ∧ ([some ⟨b, false, 0, (.lit [(Value.slice (some ⟨r, 0, none⟩) n c)])⟩, some ⟨r, false, 0, (tabF n (fun k => u64 (f k)))⟩] : List (Option Blk)) = (fun (_ : List Nat) => [some ⟨b, false, 0, (.lit [(Value.slice (some ⟨r, 0, none⟩) n c)])⟩, some ⟨r, false, 0, (tabF n (fun k => u64 (f k)))⟩]) ns) [] (And.intro (@rfl Nat 0) (And.intro (@rfl Value (u64 0)) (@rfl (List (Option Blk)) [some ⟨b, false, 0, (.lit [(Value.slice (some ⟨r, 0, none⟩) n c)])⟩, some ⟨r, false, 0, (tabF n (fun k => u64 (f k)))⟩])))))))) (show (!(isI n i)) = true from by rw [hi] <;> rfl)))))
theorem has_in (b r n c : Nat) (f : Nat → UInt64) (p : Nat) (hn : n ≤ 40) (hk : p < n) : Runs Try.prog 40 [(ptr b 0), (nat p)] [⟨b, false, 0, (.lit [(Value.slice (some ⟨r, 0, none⟩) n c)])⟩, ⟨r, false, 0, (tabF n (fun k => u64 (f k)))⟩] 0 (fun (_ : List Nat) => u64 (f p)) (fun (_ : List Nat) => [some ⟨b, false, 0, (.lit [(Value.slice (some ⟨r, 0, none⟩) n c)])⟩, some ⟨r, false, 0, (tabF n (fun k => u64 (f k)))⟩]) :=
  runs_of_ev mix Try.func40 rfl rfl 400 (.reg [(0, .g)] (.reg [(0, .g), (1, .g), (2, (.call [(0, true)] 0 0 (fun _ => (Value.bool (isI n ((p : Nat) : Int)))) (fun _ => [none]))), (3, .g)] (.no (.reg [(0, .g), (1, .g), (2, .g), (3, (.ld 0 (.lit 0))), (4, .g), (5, (.as (ptr r (0 + p * 1)))), (6, (.ld 1 (.tab p 0))), (7, .g)] .done)))) [] [] rfl
    (Eq.mp (by kernel_rfl) (have f0 : n ≤ 40 := hn; have f1 : p < n := hk; And.intro (sk trivial) (And.intro (sk (sk (And.intro (And.intro trivial (Runs.dark [true] (there_runs b r n c ((p : Nat) : Int) (show n ≤ 40 from by omega)))) (sk trivial)))) ((fun (hp1 : (!(isI n ((p : Nat) : Int))) = false) => have f2 : (isI n ((p : Nat) : Int)) = true := (bnot_f hp1); And.intro trivial (And.intro hp1 (And.intro (sk (sk (sk (And.intro (And.intro trivial (ad b 0)) (sk (And.intro (And.intro trivial (@is_ixSl Try.prog 22 23 (.tmp 12) (.tmp 13) 1 (by kernel_rfl) (by kernel_rfl) r 0 n c p (show p < n from by omega))) (And.intro (And.intro trivial (And.intro (show p < n from by omega) (@rfl Value (ptr r (0 + p * 1))))) (sk trivial)))))))) (And.intro trivial (@Exists.intro (List Nat) (fun (ns : List Nat) => ns.length = 0 ∧ ((u64 (f p)) : Value) = (fun (_ : List Nat) => u64 (f p)) ns ∧ ([some ⟨b, false, 0, (.lit [(Value.slice (some ⟨r, 0, none⟩) n c)])⟩, some ⟨r, false, 0, (tabF n (fun k => u64 (f k)))⟩] : List (Option Blk)) = (fun (_ : List Nat) => [some ⟨b, false, 0, (.lit [(Value.slice (some ⟨r, 0, none⟩) n c)])⟩, some ⟨r, false, 0, (tabF n (fun k => u64 (f k)))⟩]) ns) [] (And.intro (@rfl Nat 0) (And.intro (@rfl Value (u64 (f p))) (@rfl (List (Option Blk)) [some ⟨b, false, 0, (.lit [(Value.slice (some ⟨r, 0, none⟩) n c)])⟩, some ⟨r, false, 0, (tabF n (fun k => u64 (f k)))⟩])))))))) (show (!(isI n ((p : Nat) : Int))) = false from by rw [isI_nat hk] <;> rfl)))))
theorem has_runs (b r n c : Nat) (f : Nat → UInt64) (i : Int) (hn : n ≤ 40) : Runs Try.prog 40 [ptr b 0, int i] [⟨b, false, 0, .lit [.slice (some ⟨r, 0, none⟩) n c]⟩, ⟨r, false, 0, tabF n fun k => u64 (f k)⟩] 0 (fun _ => u64 (hasV n f i)) (fun _ => [some ⟨b, false, 0, .lit [.slice (some ⟨r, 0, none⟩) n c]⟩, some ⟨r, false, 0, tabF n fun k => u64 (f k)⟩]) := by
  cases h : isI n i with
  | false => rw [show hasV n f i = 0 by unfold hasV; rw [h]; rfl]; exact has_out b r n c f i hn h
  | true =>
    obtain ⟨h1, h2⟩ := isI_iff.1 h
    obtain ⟨k, rfl⟩ := Int.eq_ofNat_of_zero_le h1
    rw [show hasV n f (k : Int) = f k by unfold hasV; rw [h]; rfl]; exact has_in b r n c f k hn (by omega)
theorem move_out (b r n c : Nat) (f : Nat → UInt64) (i j : Int) (x : UInt64) (hn : n ≤ 40) (h : (selB (!(isI n i)) true (!(isI n j))) = true) : Runs Try.prog 44 [(ptr b 0), (int i), (int j), (u64 x)] [⟨b, false, 0, (.lit [(Value.slice (some ⟨r, 0, none⟩) n c)])⟩, ⟨r, true, 0, (tabF n (fun k => u64 (f k)))⟩] 0 (fun (_ : List Nat) => int 1) (fun (_ : List Nat) => [some ⟨b, false, 0, (.lit [(Value.slice (some ⟨r, 0, none⟩) n c)])⟩, some ⟨r, true, 0, (tabF n (fun k => u64 (f k)))⟩]) :=
  runs_of_ev mix Try.func44 rfl rfl 400 (.reg [(0, .g)] (.reg [(0, .g), (1, .g), (2, (.call [(0, true)] 0 0 (fun _ => (Value.bool (isI n i))) (fun _ => [none]))), (3, .g), (4, .g), (5, .opt .g), (6, .opt .g), (7, .opt (.call [(0, true)] 0 0 (fun _ => (Value.bool (isI n j))) (fun _ => [none]))), (8, .opt .g), (9, .pk)] (.yes (.reg [(0, .g)] .done)))) [] [] rfl
    (Eq.mp (by kernel_rfl) (have f0 : n ≤ 40 := hn; And.intro (sk trivial) (And.intro (sk (sk (And.intro (And.intro trivial (Runs.dark [true] (there_runs b r n c i (show n ≤ 40 from by omega)))) (sk (sk (And.intro (fun (hg : (sameB (!(isI n i)) false) = true) => t2) (And.intro (fun (hg : (sameB (!(isI n i)) false) = true) => t2) (And.intro (fun (hg : (sameB (!(isI n i)) false) = true) => have f1 : (isI n i) = true := (bnot_f (sameB_f hg)); (And.intro (And.intro hg (And.intro hg trivial)) (Runs.dark [true] (there_runs b r n c j (show n ≤ 40 from by omega))))) (And.intro (fun (hg : (sameB (!(isI n i)) false) = true) => (And.intro (And.intro hg trivial) trivial)) (And.intro (And.intro trivial (And.intro (fun (_ : (!(isI n i)) = true) => trivial) (fun (hp : (!(isI n i)) = false) => (sameB_mkf hp)))) trivial)))))))))) ((fun (hp1 : (selB (!(isI n i)) true (!(isI n j))) = true) => have f1 : ((isI n i) = false) ∨ ((isI n j) = false) := (Or.imp (fun h => (bnot_t h)) (fun h => (bnot_t h)) (sbor_t hp1)); And.intro trivial (And.intro hp1 (And.intro (sk trivial) (And.intro trivial (@Exists.intro (List Nat) (fun (ns : List Nat) => ns.length = 0 ∧ ((int 1) : Value) = (fun (_ : List Nat) => int 1) ns ∧ ([some ⟨b, false, 0, (.lit [(Value.slice (some ⟨r, 0, none⟩) n c)])⟩, some ⟨r, true, 0, (tabF n (fun k => u64 (f k)))⟩] : List (Option Blk)) = (fun (_ : List Nat) => [some ⟨b, false, 0, (.lit [(Value.slice (some ⟨r, 0, none⟩) n c)])⟩, some ⟨r, true, 0, (tabF n (fun k => u64 (f k)))⟩]) ns) [] (And.intro (@rfl Nat 0) (And.intro (@rfl Value (int 1)) (@rfl (List (Option Blk)) [some ⟨b, false, 0, (.lit [(Value.slice (some ⟨r, 0, none⟩) n c)])⟩, some ⟨r, true, 0, (tabF n (fun k => u64 (f k)))⟩])))))))) (show (selB (!(isI n i)) true (!(isI n j))) = true from by exact h)))))
theorem move_poor (b r n c : Nat) (f : Nat → UInt64) (p q : Nat) (x : UInt64) (hn : n ≤ 40) (hk : p < n) (hl : q < n) (hx : f p < x) : Runs Try.prog 44 [(ptr b 0), (nat p), (nat q), (u64 x)] [⟨b, false, 0, (.lit [(Value.slice (some ⟨r, 0, none⟩) n c)])⟩, ⟨r, true, 0, (tabF n (fun k => u64 (f k)))⟩] 0 (fun (_ : List Nat) => int 50) (fun (_ : List Nat) => [some ⟨b, false, 0, (.lit [(Value.slice (some ⟨r, 0, none⟩) n c)])⟩, some ⟨r, true, 0, (tabF n (fun k => u64 (f k)))⟩]) :=
  runs_of_ev mix Try.func44 rfl rfl 400 (.reg [(0, .g)] (.reg [(0, .g), (1, .g), (2, (.call [(0, true)] 0 0 (fun _ => (Value.bool (isI n ((p : Nat) : Int)))) (fun _ => [none]))), (3, .g), (4, .g), (5, .opt .g), (6, .opt .g), (7, .opt (.call [(0, true)] 0 0 (fun _ => (Value.bool (isI n ((q : Nat) : Int)))) (fun _ => [none]))), (8, .opt .g), (9, .pk)] (.no (.reg [(0, .g), (1, .g), (2, .g), (3, (.ld 0 (.lit 0))), (4, .g), (5, (.as (ptr r (0 + p * 1)))), (6, (.ld 1 (.tab p 0))), (7, .g), (8, (.as (Value.bool (decide ((f p) < x)))))] (.yes (.reg [(0, .g)] .done)))))) [] [] rfl
    (Eq.mp (by kernel_rfl) (have f0 : n ≤ 40 := hn; have f1 : p < n := hk; have f2 : q < n := hl; And.intro (sk trivial) (And.intro (sk (sk (And.intro (And.intro trivial (Runs.dark [true] (there_runs b r n c ((p : Nat) : Int) (show n ≤ 40 from by omega)))) (sk (sk (And.intro (fun (hg : (sameB (!(isI n ((p : Nat) : Int))) false) = true) => t2) (And.intro (fun (hg : (sameB (!(isI n ((p : Nat) : Int))) false) = true) => t2) (And.intro (fun (hg : (sameB (!(isI n ((p : Nat) : Int))) false) = true) => have f3 : (isI n ((p : Nat) : Int)) = true := (bnot_f (sameB_f hg)); (And.intro (And.intro hg (And.intro hg trivial)) (Runs.dark [true] (there_runs b r n c ((q : Nat) : Int) (show n ≤ 40 from by omega))))) (And.intro (fun (hg : (sameB (!(isI n ((p : Nat) : Int))) false) = true) => (And.intro (And.intro hg trivial) trivial)) (And.intro (And.intro trivial (And.intro (fun (_ : (!(isI n ((p : Nat) : Int))) = true) => trivial) (fun (hp : (!(isI n ((p : Nat) : Int))) = false) => (sameB_mkf hp)))) trivial)))))))))) ((fun (hp1 : (selB (!(isI n ((p : Nat) : Int))) true (!(isI n ((q : Nat) : Int)))) = false) => have f3 : (isI n ((p : Nat) : Int)) = true := (bnot_f (sbor_l hp1)); have f4 : (isI n ((q : Nat) : Int)) = true := (bnot_f (sbor_r hp1)); And.intro trivial (And.intro hp1 (And.intro (sk (sk (sk (And.intro (And.intro trivial (ad b 0)) (sk (And.intro (And.intro trivial (@is_ixSl Try.prog 22 23 (.tmp 22) (.tmp 23) 1 (by kernel_rfl) (by kernel_rfl) r 0 n c p (show p < n from by omega))) (And.intro (And.intro trivial (And.intro (show p < n from by omega) (@rfl Value (ptr r (0 + p * 1))))) (sk (And.intro (And.intro trivial (@is_lss64 Try.prog 23 23 (.tmp 25) (.tmp 26) (f p) x)) trivial))))))))) ((fun (hp2 : (decide ((f p) < x)) = true) => have f5 : ((f p) < x) := (of_decide_eq_true hp2); And.intro trivial (And.intro hp2 (And.intro (sk trivial) (And.intro trivial (@Exists.intro (List Nat) (fun (ns : List Nat) => ns.length = 0 ∧ ((int 50) : Value) = (fun (_ : List Nat) => int 50) ns ∧ ([some ⟨b, false, 0, (.lit [(Value.slice (some ⟨r, 0, none⟩) n c)])⟩, some ⟨r, true, 0, (tabF n (fun k => u64 (f k)))⟩] : List (Option Blk)) = (fun (_ : List Nat) => [some ⟨b, false, 0, (.lit [(Value.slice (some ⟨r, 0, none⟩) n c)])⟩, some ⟨r, true, 0, (tabF n (fun k => u64 (f k)))⟩]) ns) [] (And.intro (@rfl Nat 0) (And.intro (@rfl Value (int 50)) (@rfl (List (Option Blk)) [some ⟨b, false, 0, (.lit [(Value.slice (some ⟨r, 0, none⟩) n c)])⟩, some ⟨r, true, 0, (tabF n (fun k => u64 (f k)))⟩])))))))) (show (decide ((f p) < x)) = true from by exact decide_eq_true hx))))) (show (selB (!(isI n ((p : Nat) : Int))) true (!(isI n ((q : Nat) : Int)))) = false from by rw [isI_nat hk, isI_nat hl] <;> rfl)))))
theorem move_rich (b r n c : Nat) (f : Nat → UInt64) (p q : Nat) (x : UInt64) (hn : n ≤ 40) (hk : p < n) (hl : q < n) (hx : ¬ f p < x) : Runs Try.prog 44 [(ptr b 0), (nat p), (nat q), (u64 x)] [⟨b, false, 0, (.lit [(Value.slice (some ⟨r, 0, none⟩) n c)])⟩, ⟨r, true, 0, (tabF n (fun k => u64 (f k)))⟩] 0 (fun (_ : List Nat) => int 0) (fun (_ : List Nat) => [some ⟨b, false, 0, (.lit [(Value.slice (some ⟨r, 0, none⟩) n c)])⟩, some ⟨r, true, 0, (tabF n (fun k => u64 (upd (upd f p (f p - x)) q (upd f p (f p - x) q + x) k)))⟩]) :=
  runs_of_ev mix Try.func44 rfl rfl 400 (.reg [(0, .g)] (.reg [(0, .g), (1, .g), (2, (.call [(0, true)] 0 0 (fun _ => (Value.bool (isI n ((p : Nat) : Int)))) (fun _ => [none]))), (3, .g), (4, .g), (5, .opt .g), (6, .opt .g), (7, .opt (.call [(0, true)] 0 0 (fun _ => (Value.bool (isI n ((q : Nat) : Int)))) (fun _ => [none]))), (8, .opt .g), (9, .pk)] (.no (.reg [(0, .g), (1, .g), (2, .g), (3, (.ld 0 (.lit 0))), (4, .g), (5, (.as (ptr r (0 + p * 1)))), (6, (.ld 1 (.tab p 0))), (7, .g), (8, (.as (Value.bool (decide ((f p) < x)))))] (.no (.reg [(0, .g), (1, .g), (2, .g), (3, (.ld 0 (.lit 0))), (4, .g), (5, (.as (ptr r (0 + p * 1)))), (6, (.ld 1 (.tab p 0))), (7, .g), (8, (.as (u64 ((f p) - x)))), (9, (.as (ptr r (0 + p * 1)))), (10, (.stc 1 (.tab p 0) (tabF n (fun k => u64 (upd f p ((f p) - x) k)))))] (.reg [(0, .g), (1, .g), (2, .g), (3, (.ld 0 (.lit 0))), (4, .g), (5, (.as (ptr r (0 + q * 1)))), (6, (.ld 1 (.tab q 0))), (7, .g), (8, (.as (u64 ((upd f p ((f p) - x) q) + x)))), (9, (.as (ptr r (0 + q * 1)))), (10, (.stc 1 (.tab q 0) (tabF n (fun k => u64 (upd (upd f p ((f p) - x)) q ((upd f p ((f p) - x) q) + x) k)))))] (.reg [(0, .g)] .done)))))))) [] [] rfl
    (Eq.mp (by kernel_rfl) (have f0 : n ≤ 40 := hn; have f1 : p < n := hk; have f2 : q < n := hl; And.intro (sk trivial) (And.intro (sk (sk (And.intro (And.intro trivial (Runs.dark [true] (there_runs b r n c ((p : Nat) : Int) (show n ≤ 40 from by omega)))) (sk (sk (And.intro (fun (hg : (sameB (!(isI n ((p : Nat) : Int))) false) = true) => t2) (And.intro (fun (hg : (sameB (!(isI n ((p : Nat) : Int))) false) = true) => t2) (And.intro (fun (hg : (sameB (!(isI n ((p : Nat) : Int))) false) = true) => have f3 : (isI n ((p : Nat) : Int)) = true := (bnot_f (sameB_f hg)); (And.intro (And.intro hg (And.intro hg trivial)) (Runs.dark [true] (there_runs b r n c ((q : Nat) : Int) (show n ≤ 40 from by omega))))) (And.intro (fun (hg : (sameB (!(isI n ((p : Nat) : Int))) false) = true) => (And.intro (And.intro hg trivial) trivial)) (And.intro (And.intro trivial (And.intro (fun (_ : (!(isI n ((p : Nat) : Int))) = true) => trivial) (fun (hp : (!(isI n ((p : Nat) : Int))) = false) => (sameB_mkf hp)))) trivial)))))))))) ((fun (hp1 : (selB (!(isI n ((p : Nat) : Int))) true (!(isI n ((q : Nat) : Int)))) = false) => have f3 : (isI n ((p : Nat) : Int)) = true := (bnot_f (sbor_l hp1)); have f4 : (isI n ((q : Nat) : Int)) = true := (bnot_f (sbor_r hp1)); And.intro trivial (And.intro hp1 (And.intro (sk (sk (sk (And.intro (And.intro trivial (ad b 0)) (sk (And.intro (And.intro trivial (@is_ixSl Try.prog 22 23 (.tmp 22) (.tmp 23) 1 (by kernel_rfl) (by kernel_rfl) r 0 n c p (show p < n from by omega))) (And.intro (And.intro trivial (And.intro (show p < n from by omega) (@rfl Value (ptr r (0 + p * 1))))) (sk (And.intro (And.intro trivial (@is_lss64 Try.prog 23 23 (.tmp 25) (.tmp 26) (f p) x)) trivial))))))))) ((fun (hp2 : (decide ((f p) < x)) = false) => have f5 : ¬ ((f p) < x) := (of_decide_eq_false hp2); And.intro trivial (And.intro hp2 (And.intro (sk (sk (sk (And.intro (And.intro trivial (ad b 0)) (sk (And.intro (And.intro trivial (@is_ixSl Try.prog 22 23 (.tmp 31) (.tmp 32) 1 (by kernel_rfl) (by kernel_rfl) r 0 n c p (show p < n from by omega))) (And.intro (And.intro trivial (And.intro (show p < n from by omega) (@rfl Value (ptr r (0 + p * 1))))) (sk (And.intro (And.intro trivial (@is_sub64 Try.prog 23 23 (.tmp 34) (.tmp 35) (f p) x)) (And.intro (And.intro trivial (@is_ixSl Try.prog 22 23 (.tmp 31) (.tmp 32) 1 (by kernel_rfl) (by kernel_rfl) r 0 n c p (show p < n from by omega))) (And.intro (And.intro trivial (And.intro (show p < n from by omega) (And.intro (@rfl Value (ptr r (0 + p * 1))) (store_tabF n u64 f p ((f p) - x))))) trivial))))))))))) (And.intro (sk (sk (sk (And.intro (And.intro trivial (ad b 0)) (sk (And.intro (And.intro trivial (@is_ixSl Try.prog 22 23 (.tmp 41) (.tmp 42) 1 (by kernel_rfl) (by kernel_rfl) r 0 n c q (show q < n from by omega))) (And.intro (And.intro trivial (And.intro (show q < n from by omega) (@rfl Value (ptr r (0 + q * 1))))) (sk (And.intro (And.intro trivial (@is_add64 Try.prog 23 23 (.tmp 44) (.tmp 45) (upd f p ((f p) - x) q) x)) (And.intro (And.intro trivial (@is_ixSl Try.prog 22 23 (.tmp 41) (.tmp 42) 1 (by kernel_rfl) (by kernel_rfl) r 0 n c q (show q < n from by omega))) (And.intro (And.intro trivial (And.intro (show q < n from by omega) (And.intro (@rfl Value (ptr r (0 + q * 1))) (store_tabF n u64 (upd f p ((f p) - x)) q ((upd f p ((f p) - x) q) + x))))) trivial))))))))))) (And.intro (sk trivial) (And.intro trivial (@Exists.intro (List Nat) (fun (ns : List Nat) => ns.length = 0 ∧ ((int 0) : Value) = (fun (_ : List Nat) => int 0) ns ∧ ([some ⟨b, false, 0, (.lit [(Value.slice (some ⟨r, 0, none⟩) n c)])⟩, some ⟨r, true, 0, (tabF n (fun k => u64 (upd (upd f p ((f p) - x)) q ((upd f p ((f p) - x) q) + x) k)))⟩] : List (Option Blk)) = (fun (_ : List Nat) => [some ⟨b, false, 0, (.lit [(Value.slice (some ⟨r, 0, none⟩) n c)])⟩, some ⟨r, true, 0, (tabF n (fun k => u64 (upd (upd f p (f p - x)) q (upd f p (f p - x) q + x) k)))⟩]) ns) [] (And.intro (@rfl Nat 0) (And.intro (@rfl Value (int 0)) (@rfl (List (Option Blk)) [some ⟨b, false, 0, (.lit [(Value.slice (some ⟨r, 0, none⟩) n c)])⟩, some ⟨r, true, 0, (tabF n (fun k => u64 (upd (upd f p (f p - x)) q (upd f p (f p - x) q + x) k)))⟩])))))))))) (show (decide ((f p) < x)) = false from by exact decide_eq_false hx))))) (show (selB (!(isI n ((p : Nat) : Int))) true (!(isI n ((q : Nat) : Int)))) = false from by rw [isI_nat hk, isI_nat hl] <;> rfl)))))
theorem move_runs (b r n c : Nat) (f : Nat → UInt64) (i j : Int) (x : UInt64) (hn : n ≤ 40) : Runs Try.prog 44 [ptr b 0, int i, int j, u64 x] [⟨b, false, 0, .lit [.slice (some ⟨r, 0, none⟩) n c]⟩, ⟨r, true, 0, tabF n fun k => u64 (f k)⟩] 0 (fun _ => int (moveE n f i j x)) (fun _ => [some ⟨b, false, 0, .lit [.slice (some ⟨r, 0, none⟩) n c]⟩, some ⟨r, true, 0, tabF n fun k => u64 (moveF n f i j x k)⟩]) := by
  by_cases h : isI n i = true ∧ isI n j = true
  · obtain ⟨hi, hj⟩ := h
    obtain ⟨i1, i2⟩ := isI_iff.1 hi
    obtain ⟨j1, j2⟩ := isI_iff.1 hj
    obtain ⟨k, rfl⟩ := Int.eq_ofNat_of_zero_le i1
    obtain ⟨l, rfl⟩ := Int.eq_ofNat_of_zero_le j1
    by_cases hx : f k < x
    · have e : moveE n f (k : Int) (l : Int) x = 50 := by unfold moveE; rw [if_pos ⟨hi, hj⟩]; exact if_pos hx
      rw [moveF_no (by rw [e]; decide), e]
      exact move_poor b r n c f k l x hn (by omega) (by omega) hx
    · have e : moveE n f (k : Int) (l : Int) x = 0 := by unfold moveE; rw [if_pos ⟨hi, hj⟩]; exact if_neg hx
      rw [moveF_ok e, e]
      exact move_rich b r n c f k l x hn (by omega) (by omega) hx
  · have e : moveE n f i j x = 1 := by unfold moveE; rw [if_neg h]
    rw [moveF_no (by rw [e]; decide), e]
    exact move_out b r n c f i j x hn (by cases h1 : isI n i <;> cases h2 : isI n j <;> simp_all [selB])
theorem take_runs (b r n c : Nat) (f : Nat → UInt64) (i j : Int) (x : UInt64) (hn : n ≤ 40) : Runs Try.prog 50 [(ptr b 0), (int i), (int j), (u64 x)] [⟨b, false, 0, (.lit [(Value.slice (some ⟨r, 0, none⟩) n c)])⟩, ⟨r, true, 0, (tabF n (fun k => u64 (f k)))⟩] 0 (fun (_ : List Nat) => u64 (takeV n f i j x)) (fun (_ : List Nat) => [some ⟨b, false, 0, (.lit [(Value.slice (some ⟨r, 0, none⟩) n c)])⟩, some ⟨r, true, 0, (tabF n (fun k => u64 (moveF n f i j (takeN n f i x) k)))⟩]) :=
  runs_of_ev mix Try.func50 rfl rfl 400 (.reg [(0, .g)] (.reg [(0, .g), (1, .g), (2, .g), (3, (.call [(0, true), (1, true)] 0 0 (fun _ => (u64 (hasV n f i))) (fun _ => [none, none]))), (4, (.as (u64 (minU x (hasV n f i))))), (5, .g)] (.reg [(0, .g), (1, .g), (2, .g), (3, .g), (4, (.call [(0, true), (1, false)] 0 0 (fun _ => (int (moveE n f i j (minU x (hasV n f i))))) (fun _ => [none, some ⟨r, true, 0, (tabF n (fun k => u64 (moveF n f i j (minU x (hasV n f i)) k)))⟩]))), (5, .g)] (.br (.reg [(0, .g)] .done) (.reg [(0, .g), (1, .g)] .done))))) [] [] rfl
    (Eq.mp (by kernel_rfl) (have f0 : n ≤ 40 := hn; And.intro (sk trivial) (And.intro (sk (sk (sk (And.intro (And.intro trivial (Runs.dark [true, true] (has_runs b r n c f i (show n ≤ 40 from by omega)))) (And.intro (And.intro trivial (@is_min64 Try.prog (.tmp 10) (.tmp 13) #[23, 23] x (hasV n f i))) (sk trivial)))))) (And.intro (sk (sk (sk (sk (And.intro (And.intro trivial (Runs.dark [true, false] (move_runs b r n c f i j (minU x (hasV n f i)) (show n ≤ 40 from by omega)))) (sk trivial)))))) (And.intro trivial (And.intro (fun (h1 : (((moveE n f i j (minU x (hasV n f i))) : Int) != 0) = true) => have f1 : (((moveE n f i j (minU x (hasV n f i))) : Int) != 0) = true := h1; And.intro (sk trivial) (And.intro trivial (@Exists.intro (List Nat) (fun (ns : List Nat) => ns.length = 0 ∧ ((u64 0) : Value) = (fun (_ : List Nat) => u64 (takeV n f i j x)) ns ∧ ([some ⟨b, false, 0, (.lit [(Value.slice (some ⟨r, 0, none⟩) n c)])⟩, some ⟨r, true, 0, (tabF n (fun k => u64 (moveF n f i j (minU x (hasV n f i)) k)))⟩] : List (Option Blk)) = (fun (_ : List Nat) => [some ⟨b, false, 0, (.lit [(Value.slice (some ⟨r, 0, none⟩) n c)])⟩, some ⟨r, true, 0, (tabF n (fun k => u64 (moveF n f i j (takeN n f i x) k)))⟩]) ns) [] (And.intro (@rfl Nat 0) (And.intro ((show (u64 0) = u64 (takeV n f i j x) from by unfold takeV; have e : moveE n f i j (takeN n f i x) ≠ 0 := bne_iff_ne.1 h1; rw [if_neg e] <;> rfl)) (@rfl (List (Option Blk)) [some ⟨b, false, 0, (.lit [(Value.slice (some ⟨r, 0, none⟩) n c)])⟩, some ⟨r, true, 0, (tabF n (fun k => u64 (moveF n f i j (takeN n f i x) k)))⟩])))))) (fun (h1 : (((moveE n f i j (minU x (hasV n f i))) : Int) != 0) = false) => have f1 : (((moveE n f i j (minU x (hasV n f i))) : Int) != 0) = false := h1; And.intro (sk (sk trivial)) (And.intro trivial (@Exists.intro (List Nat) (fun (ns : List Nat) => ns.length = 0 ∧ ((u64 (minU x (hasV n f i))) : Value) = (fun (_ : List Nat) => u64 (takeV n f i j x)) ns ∧ ([some ⟨b, false, 0, (.lit [(Value.slice (some ⟨r, 0, none⟩) n c)])⟩, some ⟨r, true, 0, (tabF n (fun k => u64 (moveF n f i j (minU x (hasV n f i)) k)))⟩] : List (Option Blk)) = (fun (_ : List Nat) => [some ⟨b, false, 0, (.lit [(Value.slice (some ⟨r, 0, none⟩) n c)])⟩, some ⟨r, true, 0, (tabF n (fun k => u64 (moveF n f i j (takeN n f i x) k)))⟩]) ns) [] (And.intro (@rfl Nat 0) (And.intro ((show (u64 (minU x (hasV n f i))) = u64 (takeV n f i j x) from by unfold takeV; have e : moveE n f i j (takeN n f i x) = 0 := of_bne_false h1; rw [if_pos e] <;> rfl)) (@rfl (List (Option Blk)) [some ⟨b, false, 0, (.lit [(Value.slice (some ⟨r, 0, none⟩) n c)])⟩, some ⟨r, true, 0, (tabF n (fun k => u64 (moveF n f i j (takeN n f i x) k)))⟩]))))))))))))
theorem ptotal_runs (b r n c : Nat) (f : Nat → UInt64) (hn : n ≤ 40) : Runs Try.prog 39 [(ptr b 0)] [⟨b, false, 0, (.lit [(Value.slice (some ⟨r, 0, none⟩) n c)])⟩, ⟨r, false, 0, (tabF n (fun k => u64 (f k)))⟩] 0 (fun (_ : List Nat) => u64 (totN f n).a) (fun (_ : List Nat) => [some ⟨b, false, 0, (.lit [(Value.slice (some ⟨r, 0, none⟩) n c)])⟩, some ⟨r, false, 0, (tabF n (fun k => u64 (f k)))⟩]) :=
  runs_of_ev mix Try.func39 rfl rfl 400 (.reg [(0, .g)] (.reg [(0, .g), (1, .g), (2, .g), (3, (.ld 0 (.lit 0))), (4, (.call [(1, true)] 0 0 (fun _ => (nat4 (totN f n))) (fun _ => [none]))), (5, .g), (6, .g)] .done)) [] [] rfl
    (Eq.mp (by kernel_rfl) (have f0 : n ≤ 40 := hn; And.intro (sk trivial) (And.intro (sk (sk (sk (And.intro (And.intro trivial (ad b 0)) (And.intro (And.intro trivial (Runs.dark [true] (total_runs r 0 n c f (show n ≤ 9223372036854775807 from by omega)))) (sk (sk trivial))))))) (And.intro trivial (@Exists.intro (List Nat) (fun (ns : List Nat) => ns.length = 0 ∧ ((u64 ((totN f n).a)) : Value) = (fun (_ : List Nat) => u64 (totN f n).a) ns ∧ ([some ⟨b, false, 0, (.lit [(Value.slice (some ⟨r, 0, none⟩) n c)])⟩, some ⟨r, false, 0, (tabF n (fun k => u64 (f k)))⟩] : List (Option Blk)) = (fun (_ : List Nat) => [some ⟨b, false, 0, (.lit [(Value.slice (some ⟨r, 0, none⟩) n c)])⟩, some ⟨r, false, 0, (tabF n (fun k => u64 (f k)))⟩]) ns) [] (And.intro (@rfl Nat 0) (And.intro (@rfl Value (u64 (totN f n).a)) (@rfl (List (Option Blk)) [some ⟨b, false, 0, (.lit [(Value.slice (some ⟨r, 0, none⟩) n c)])⟩, some ⟨r, false, 0, (tabF n (fun k => u64 (f k)))⟩]))))))))
theorem clone_raw (p o n c : Nat) (f : Nat → UInt64) (hn : 0 < n ∧ n ≤ 40) : Runs Try.prog 55 [(Value.slice (some ⟨p, o, none⟩) n c)] [⟨p, false, o, (tabF n (fun k => u64 (f k)))⟩] 2 (fun (ns : List Nat) => (Value.slice (some ⟨(ns.getD 0 0), 0, none⟩) (0 + n) (0 + n + (ns.getD 1 0)))) (fun (ns : List Nat) => [some ⟨p, false, o, (tabF n (fun k => u64 (f k)))⟩, some ⟨(ns.getD 0 0), true, 0, (spr (0 + n + (ns.getD 1 0)) (0 + n) (fun k => u64 (catU (fun _ => 0) 0 f k)) (u64 0))⟩]) :=
  runs_of_ev mix Try.func55 rfl rfl 400 (.reg [(0, .g)] (.reg [(0, .g), (1, .g)] (.no (.regn [(0, (.oth [] 1 1 (fun ns => Value.slice (some ⟨ns.getD 0 0, 0, none⟩) 0 0) (fun ns => [some ⟨ns.getD 0 0, true, 0, (spr (0 + 0) 0 (fun k => u64 ((fun _ => 0) k)) (u64 0))⟩]))), (1, .g), (2, (.oth [(1, false), (0, true)] 2 0 (fun ns => Value.slice (some ⟨(ns.getD 0 0), 0, none⟩) (0 + n) (0 + n + (ns.getD 1 0))) (fun ns => [some ⟨(ns.getD 0 0), true, 0, (spr (0 + n + (ns.getD 1 0)) (0 + n) (fun k => u64 (catU (fun _ => 0) 0 f k)) (u64 0))⟩, none]))), (3, .g)] (more (fun n1 => more (fun n2 => more (fun n3 => fun _ => .done)))))))) [] [1] rfl
    (Eq.mp (by kernel_rfl) (have f0 : 0 < n ∧ n ≤ 40 := hn; And.intro (sk trivial) (And.intro (sk (sk trivial)) (And.intro trivial (And.intro (@rfl Bool false) (fun (n1 n2 n3 : Nat) => And.intro (And.intro (And.intro trivial (mk_build0 (P := Try.prog) (t := 22) (e := 23) (by kernel_rfl) one23 u64 (fun _ => 0))) (sk (And.intro (And.intro trivial (SRuns.dark [false, true] (mk_append (P := Try.prog) (t := 22) (ty := 22) (e := 23) (by kernel_rfl) one23 n1 0 0 p o 0 n c u64 (fun _ => 0) f (tabF n (fun k => u64 (f k))) (fun j hj => by rw [Nat.zero_add]; exact tabF_in hj) (fun _ => rfl) (show (0 + n) * 8 ≤ 140737488355328 ∧ 0 + n ≤ 9223372036854775807 from by omega)))) (sk trivial)))) (And.intro trivial (@Exists.intro (List Nat) (fun (ns : List Nat) => ns.length = 2 ∧ ((Value.slice (some ⟨n2, 0, none⟩) (0 + n) (0 + n + n3)) : Value) = (fun (ns : List Nat) => (Value.slice (some ⟨(ns.getD 0 0), 0, none⟩) (0 + n) (0 + n + (ns.getD 1 0)))) ns ∧ ([some ⟨p, false, o, (tabF n (fun k => u64 (f k)))⟩, some ⟨n2, true, 0, (spr (0 + n + n3) (0 + n) (fun k => u64 (catU (fun _ => 0) 0 f k)) (u64 0))⟩] : List (Option Blk)) = (fun (ns : List Nat) => [some ⟨p, false, o, (tabF n (fun k => u64 (f k)))⟩, some ⟨(ns.getD 0 0), true, 0, (spr (0 + n + (ns.getD 1 0)) (0 + n) (fun k => u64 (catU (fun _ => 0) 0 f k)) (u64 0))⟩]) ns) [n2, n3] (And.intro (@rfl Nat 2) (And.intro (@rfl Value (Value.slice (some ⟨n2, 0, none⟩) (0 + n) (0 + n + n3))) (@rfl (List (Option Blk)) [some ⟨p, false, o, (tabF n (fun k => u64 (f k)))⟩, some ⟨n2, true, 0, (spr (0 + n + n3) (0 + n) (fun k => u64 (catU (fun _ => 0) 0 f k)) (u64 0))⟩])))))))))))
theorem clone_runs (p o n c : Nat) (f : Nat → UInt64) (hn : 0 < n ∧ n ≤ 40) : Runs Try.prog 55 [.slice (some ⟨p, o, none⟩) n c] [⟨p, false, o, tabF n fun k => u64 (f k)⟩] 2 (fun ns => .slice (some ⟨ns.getD 0 0, 0, none⟩) n (n + ns.getD 1 0)) (fun ns => [some ⟨p, false, o, tabF n fun k => u64 (f k)⟩, some ⟨ns.getD 0 0, true, 0, tabF n fun k => u64 (f k)⟩]) := by
  have h := clone_raw p o n c f hn
  simp only [Nat.zero_add] at h
  exact h.weak fun ns q x hq => by
    rcases q with _ | _ | q
    · cases hq; exact ⟨_, rfl, rfl, rfl, rfl, fun _ => rfl, .inl rfl⟩
    · cases hq; exact ⟨_, rfl, rfl, rfl, rfl, (fun h => by cases h), .inr ⟨rfl, to_noroomK (g := f) (g' := catU (fun _ => 0) 0 f) (by omega) fun k _ => rfl⟩⟩
    · simp [listMem] at hq
theorem new_runs (p o n c : Nat) (f : Nat → UInt64) (hp : 0 < n) (hg : goodN n f) : Runs Try.prog 29 [(Value.slice (some ⟨p, o, none⟩) n c)] [⟨p, false, o, (tabF n (fun k => u64 (f k)))⟩] 3 (fun (ns : List Nat) => (Value.tuple #[(ptr (ns.getD 0 0) 0), (int 0)])) (fun (ns : List Nat) => [some ⟨p, false, o, (tabF n (fun k => u64 (f k)))⟩, some ⟨(ns.getD 0 0), true, 0, (.lit [(Value.slice (some ⟨(ns.getD 1 0), 0, none⟩) n (n + (ns.getD 2 0)))])⟩, some ⟨(ns.getD 1 0), true, 0, (tabF n (fun k => u64 (f k)))⟩]) :=
  runs_of_ev mix Try.func29 rfl rfl 400 (.reg [(0, .g), (1, .g)] (.reg [(0, .g), (1, (.as (nat n))), (2, (.as (Value.bool (decide (40 < n)))))] (.no (.reg [(0, .g), (1, (.call [(0, true)] 0 0 (fun _ => (nat4 (totN f n))) (fun _ => [none]))), (2, (.call [] 0 0 (fun _ => (nat (len4 (totN f n)))) (fun _ => []))), (3, (.as (Value.bool (decide (63 < (len4 (totN f n)))))))] (.no (.regn [(0, .g), (1, (.call [(0, true)] 2 1 (fun ns => Value.slice (some ⟨(ns.getD 0 0), 0, none⟩) n (n + (ns.getD 1 0))) (fun ns => [none, some ⟨(ns.getD 0 0), true, 0, (tabF n (fun k => u64 (f k)))⟩]))), (2, .g), (3, .new), (4, .g), (5, .g)] (more (fun n1 => more (fun n2 => more (fun n3 => fun _ => .done)))))))))) [] [2, 1] rfl
    (Eq.mp (by kernel_rfl) (have f0 : 0 < n := hp; have f1 : n ≤ 40 := hg.1; And.intro (sk (sk trivial)) (And.intro (sk (And.intro (And.intro trivial (@is_len Try.prog 22 23 (.tmp 4) (by kernel_rfl) (some ⟨p, o, none⟩) n c)) (And.intro (And.intro trivial (@is_gtrn Try.prog 3 3 (.tmp 5) (.const (.int .i64 40))  n 40)) trivial))) ((fun (hp1 : (decide (40 < n)) = false) => have f2 : ¬ (40 < n) := (of_decide_eq_false hp1); And.intro trivial (And.intro hp1 (And.intro (sk (And.intro (And.intro trivial (Runs.dark [true] (total_runs p o n c f (show n ≤ 9223372036854775807 from by omega)))) (And.intro (And.intro trivial (len_pure (totN f n))) (And.intro (And.intro trivial (@is_gtrn Try.prog 3 3 (.tmp 9) (.const (.int .i64 63))  (len4 (totN f n)) 63)) trivial)))) ((fun (hp2 : (decide (63 < (len4 (totN f n)))) = false) => have f3 : ¬ (63 < (len4 (totN f n))) := (of_decide_eq_false hp2); And.intro trivial (And.intro hp2 (fun (n1 n2 n3 : Nat) => And.intro (sk (And.intro (And.intro trivial (Runs.dark [true] (clone_runs p o n c f (show 0 < n ∧ n ≤ 40 from by omega)))) (sk (sk (sk (sk trivial)))))) (And.intro trivial (@Exists.intro (List Nat) (fun (ns : List Nat) => ns.length = 3 ∧ ((Value.tuple #[(ptr n3 0), (int 0)]) : Value) = (fun (ns : List Nat) => (Value.tuple #[(ptr (ns.getD 0 0) 0), (int 0)])) ns ∧ ([some ⟨p, false, o, (tabF n (fun k => u64 (f k)))⟩, some ⟨n3, true, 0, (.lit [(Value.slice (some ⟨n1, 0, none⟩) n (n + n2))])⟩, some ⟨n1, true, 0, (tabF n (fun k => u64 (f k)))⟩] : List (Option Blk)) = (fun (ns : List Nat) => [some ⟨p, false, o, (tabF n (fun k => u64 (f k)))⟩, some ⟨(ns.getD 0 0), true, 0, (.lit [(Value.slice (some ⟨(ns.getD 1 0), 0, none⟩) n (n + (ns.getD 2 0)))])⟩, some ⟨(ns.getD 1 0), true, 0, (tabF n (fun k => u64 (f k)))⟩]) ns) [n3, n1, n2] (And.intro (@rfl Nat 3) (And.intro (@rfl Value (Value.tuple #[(ptr n3 0), (int 0)])) (@rfl (List (Option Blk)) [some ⟨p, false, o, (tabF n (fun k => u64 (f k)))⟩, some ⟨n3, true, 0, (.lit [(Value.slice (some ⟨n1, 0, none⟩) n (n + n2))])⟩, some ⟨n1, true, 0, (tabF n (fun k => u64 (f k)))⟩])))))))) (show (decide (63 < (len4 (totN f n)))) = false from by exact decide_eq_false (by have := hg.2; omega)))))) (show (decide (40 < n)) = false from by exact decide_eq_false (by omega))))))
theorem new_bad (p o n c : Nat) (f : Nat → UInt64) (hn : n ≤ 9223372036854775807) (hg : ¬ goodN n f) : Runs Try.prog 29 [(Value.slice (some ⟨p, o, none⟩) n c)] [⟨p, false, o, (tabF n (fun k => u64 (f k)))⟩] 0 (fun (_ : List Nat) => Value.tuple #[.pointer none, int (newE n f)]) (fun (_ : List Nat) => [some ⟨p, false, o, (tabF n (fun k => u64 (f k)))⟩]) :=
  runs_of_ev mix Try.func29 rfl rfl 400 (.reg [(0, .g), (1, .g)] (.reg [(0, .g), (1, (.as (nat n))), (2, (.as (Value.bool (decide (40 < n)))))] (.br (.reg [(0, .g), (1, .g)] .done) (.reg [(0, .g), (1, (.call [(0, true)] 0 0 (fun _ => (nat4 (totN f n))) (fun _ => [none]))), (2, (.call [] 0 0 (fun _ => (nat (len4 (totN f n)))) (fun _ => []))), (3, (.as (Value.bool (decide (63 < (len4 (totN f n)))))))] (.yes (.reg [(0, .g), (1, .g)] .done)))))) [] [] rfl
    (Eq.mp (by kernel_rfl) (have f0 : n ≤ 9223372036854775807 := hn; And.intro (sk (sk trivial)) (And.intro (sk (And.intro (And.intro trivial (@is_len Try.prog 22 23 (.tmp 4) (by kernel_rfl) (some ⟨p, o, none⟩) n c)) (And.intro (And.intro trivial (@is_gtrn Try.prog 3 3 (.tmp 5) (.const (.int .i64 40))  n 40)) trivial))) (And.intro trivial (And.intro (fun (h1 : (decide (40 < n)) = true) => have f1 : (40 < n) := (of_decide_eq_true h1); And.intro (sk (sk trivial)) (And.intro trivial (@Exists.intro (List Nat) (fun (ns : List Nat) => ns.length = 0 ∧ ((Value.tuple #[(Value.pointer none), (int 2)]) : Value) = (fun (_ : List Nat) => Value.tuple #[.pointer none, int (newE n f)]) ns ∧ ([some ⟨p, false, o, (tabF n (fun k => u64 (f k)))⟩] : List (Option Blk)) = (fun (_ : List Nat) => [some ⟨p, false, o, (tabF n (fun k => u64 (f k)))⟩]) ns) [] (And.intro (@rfl Nat 0) (And.intro ((show (Value.tuple #[(Value.pointer none), (int 2)]) = Value.tuple #[.pointer none, int (newE n f)] from by unfold newE; rw [if_pos (of_decide_eq_true h1)] <;> rfl)) (@rfl (List (Option Blk)) [some ⟨p, false, o, (tabF n (fun k => u64 (f k)))⟩])))))) (fun (h1 : (decide (40 < n)) = false) => have f1 : ¬ (40 < n) := (of_decide_eq_false h1); And.intro (sk (And.intro (And.intro trivial (Runs.dark [true] (total_runs p o n c f (show n ≤ 9223372036854775807 from by omega)))) (And.intro (And.intro trivial (len_pure (totN f n))) (And.intro (And.intro trivial (@is_gtrn Try.prog 3 3 (.tmp 9) (.const (.int .i64 63))  (len4 (totN f n)) 63)) trivial)))) ((fun (hp2 : (decide (63 < (len4 (totN f n)))) = true) => have f2 : (63 < (len4 (totN f n))) := (of_decide_eq_true hp2); And.intro trivial (And.intro hp2 (And.intro (sk (sk trivial)) (And.intro trivial (@Exists.intro (List Nat) (fun (ns : List Nat) => ns.length = 0 ∧ ((Value.tuple #[(Value.pointer none), (int 10)]) : Value) = (fun (_ : List Nat) => Value.tuple #[.pointer none, int (newE n f)]) ns ∧ ([some ⟨p, false, o, (tabF n (fun k => u64 (f k)))⟩] : List (Option Blk)) = (fun (_ : List Nat) => [some ⟨p, false, o, (tabF n (fun k => u64 (f k)))⟩]) ns) [] (And.intro (@rfl Nat 0) (And.intro ((show (Value.tuple #[(Value.pointer none), (int 10)]) = Value.tuple #[.pointer none, int (newE n f)] from by unfold newE; rw [if_neg (of_decide_eq_false h1)] <;> rfl)) (@rfl (List (Option Blk)) [some ⟨p, false, o, (tabF n (fun k => u64 (f k)))⟩])))))))) (show (decide (63 < (len4 (totN f n)))) = true from by exact decide_eq_true (Decidable.byContradiction fun h => hg ⟨by omega, by omega⟩)))))))))
theorem spread_out (b r n c : Nat) (f : Nat → UInt64) (i j : Int) (w o m e : Nat) (g : Nat → UInt64) (hn : n ≤ 40 ∧ m ≤ 9223372036854775807) (h : ¬ (isI n i = true ∧ isI n j = true ∧ m = n)) : Runs Try.prog 49 [(ptr b 0), (int i), (int j), (Value.slice (some ⟨w, o, none⟩) m e)] [⟨b, false, 0, (.lit [(Value.slice (some ⟨r, 0, none⟩) n c)])⟩, ⟨r, true, 0, (tabF n (fun k => u64 (f k)))⟩, ⟨w, false, o, (tabF m (fun k => u64 (g k)))⟩] 0 (fun (_ : List Nat) => int 1) (fun (_ : List Nat) => [some ⟨b, false, 0, (.lit [(Value.slice (some ⟨r, 0, none⟩) n c)])⟩, some ⟨r, true, 0, (tabF n (fun k => u64 (f k)))⟩, some ⟨w, false, o, (tabF m (fun k => u64 (g k)))⟩]) :=
  runs_of_ev mix Try.func49 rfl rfl 400 (.reg [(0, .g)] (.reg [(0, .g), (1, .g), (2, (.call [(0, true)] 0 0 (fun _ => (Value.bool (isI n i))) (fun _ => [none]))), (3, .g), (4, .g), (5, .opt .g), (6, .opt .g), (7, .opt (.call [(0, true)] 0 0 (fun _ => (Value.bool (isI n j))) (fun _ => [none]))), (8, .opt .g), (9, .pk), (10, .g), (11, .opt .g), (12, .opt (.as (nat m))), (13, .opt .g), (14, .opt .g), (15, .opt .g), (16, .opt (.ld 0 (.lit 0))), (17, .opt (.as (nat n))), (18, .opt (.as (Value.bool (!(decide (m = n)))))), (19, .pk)] (.yes (.reg [(0, .g)] .done)))) [] [] rfl
    (Eq.mp (by kernel_rfl) (have f0 : n ≤ 40 ∧ m ≤ 9223372036854775807 := hn; And.intro (sk trivial) (And.intro (sk (sk (And.intro (And.intro trivial (Runs.dark [true] (there_runs b r n c i (show n ≤ 40 from by omega)))) (sk (sk (And.intro (fun (hg : (sameB (!(isI n i)) false) = true) => t2) (And.intro (fun (hg : (sameB (!(isI n i)) false) = true) => t2) (And.intro (fun (hg : (sameB (!(isI n i)) false) = true) => have f1 : (isI n i) = true := (bnot_f (sameB_f hg)); (And.intro (And.intro hg (And.intro hg trivial)) (Runs.dark [true] (there_runs b r n c j (show n ≤ 40 from by omega))))) (And.intro (fun (hg : (sameB (!(isI n i)) false) = true) => (And.intro (And.intro hg trivial) trivial)) (And.intro (And.intro trivial (And.intro (fun (_ : (!(isI n i)) = true) => trivial) (fun (hp : (!(isI n i)) = false) => (sameB_mkf hp)))) (sk (And.intro (fun (hg : (sameB (selB (!(isI n i)) true (!(isI n j))) false) = true) => t2) (And.intro (fun (hg : (sameB (selB (!(isI n i)) true (!(isI n j))) false) = true) => have f1 : (isI n i) = true := (bnot_f (sbor_l (sameB_f hg))); have f2 : (isI n j) = true := (bnot_f (sbor_r (sameB_f hg))); (And.intro (And.intro hg trivial) (@is_len Try.prog 22 23 (.tmp 26) (by kernel_rfl) (some ⟨w, o, none⟩) m e))) (And.intro (fun (hg : (sameB (selB (!(isI n i)) true (!(isI n j))) false) = true) => t2) (And.intro (fun (hg : (sameB (selB (!(isI n i)) true (!(isI n j))) false) = true) => (And.intro (And.intro hg trivial) trivial)) (And.intro (fun (hg : (sameB (selB (!(isI n i)) true (!(isI n j))) false) = true) => (And.intro (And.intro hg trivial) trivial)) (And.intro (fun (hg : (sameB (selB (!(isI n i)) true (!(isI n j))) false) = true) => (And.intro (And.intro hg trivial) (ad b 0))) (And.intro (fun (hg : (sameB (selB (!(isI n i)) true (!(isI n j))) false) = true) => have f1 : (isI n i) = true := (bnot_f (sbor_l (sameB_f hg))); have f2 : (isI n j) = true := (bnot_f (sbor_r (sameB_f hg))); (And.intro (And.intro hg trivial) (@is_len Try.prog 22 23 (.tmp 31) (by kernel_rfl) (some ⟨r, 0, none⟩) n c))) (And.intro (fun (hg : (sameB (selB (!(isI n i)) true (!(isI n j))) false) = true) => (And.intro (And.intro hg (And.intro hg trivial)) (@is_neqn Try.prog 3 3 (.tmp 27) (.tmp 32)  m n))) (And.intro (And.intro trivial (And.intro (fun (_ : (selB (!(isI n i)) true (!(isI n j))) = true) => trivial) (fun (hp : (selB (!(isI n i)) true (!(isI n j))) = false) => (sameB_mkf hp)))) trivial)))))))))))))))))))) ((fun (hp1 : (selB (selB (!(isI n i)) true (!(isI n j))) true (!(decide (m = n)))) = true) => have f1 : (((isI n i) = false) ∨ ((isI n j) = false)) ∨ (¬ (m = n)) := (Or.imp (fun h => (Or.imp (fun h => (bnot_t h)) (fun h => (bnot_t h)) (sbor_t h))) (fun h => (of_decide_eq_false (bnot_t h))) (sbor_t hp1)); And.intro trivial (And.intro hp1 (And.intro (sk trivial) (And.intro trivial (@Exists.intro (List Nat) (fun (ns : List Nat) => ns.length = 0 ∧ ((int 1) : Value) = (fun (_ : List Nat) => int 1) ns ∧ ([some ⟨b, false, 0, (.lit [(Value.slice (some ⟨r, 0, none⟩) n c)])⟩, some ⟨r, true, 0, (tabF n (fun k => u64 (f k)))⟩, some ⟨w, false, o, (tabF m (fun k => u64 (g k)))⟩] : List (Option Blk)) = (fun (_ : List Nat) => [some ⟨b, false, 0, (.lit [(Value.slice (some ⟨r, 0, none⟩) n c)])⟩, some ⟨r, true, 0, (tabF n (fun k => u64 (f k)))⟩, some ⟨w, false, o, (tabF m (fun k => u64 (g k)))⟩]) ns) [] (And.intro (@rfl Nat 0) (And.intro (@rfl Value (int 1)) (@rfl (List (Option Blk)) [some ⟨b, false, 0, (.lit [(Value.slice (some ⟨r, 0, none⟩) n c)])⟩, some ⟨r, true, 0, (tabF n (fun k => u64 (f k)))⟩, some ⟨w, false, o, (tabF m (fun k => u64 (g k)))⟩])))))))) (show (selB (selB (!(isI n i)) true (!(isI n j))) true (!(decide (m = n)))) = true from by by_cases h3 : m = n <;> cases h1 : isI n i <;> cases h2 : isI n j <;> simp_all [selB])))))
def spread_in_S1 (b : Nat) (r : Nat) (n : Nat) (c : Nat) (f : Nat → UInt64) (p : Nat) (q : Nat) (w : Nat) (o : Nat) (e : Nat) (g : Nat → UInt64) (n1 : Nat) (x1 : Nat × (Nat → UInt64) × UInt64) : St := ⟨[(0, .v (ptr b 0)), (2, .v (nat q)), (9, .v (u64 (f p))), (10, .v (ptr n1 0)), (11, .v (u64 x1.2.2)), (51, .v (Value.slice (some ⟨w, o, none⟩) n e)), (52, .v (nat n)), (53, .v (nat x1.1))], [(0, some ⟨b, false, 0, (.lit [(Value.slice (some ⟨r, 0, none⟩) n c)])⟩), (1, some ⟨r, true, 0, (tabF n (fun k => u64 (x1.2.1 k)))⟩), (2, some ⟨w, false, o, (tabF n (fun k => u64 (g k)))⟩), (3, some ⟨n1, true, 0, (.lit [(u64 ((totN g n).a)), (u64 ((totN g n).b)), (u64 ((totN g n).c)), (u64 ((totN g n).d))])⟩)], 4⟩
def spread_in_R1 (b : Nat) (r : Nat) (n : Nat) (c : Nat) (f : Nat → UInt64) (p : Nat) (q : Nat) (w : Nat) (o : Nat) (e : Nat) (g : Nat → UInt64) (n1 : Nat) (x1 : Nat × (Nat → UInt64) × UInt64) : Prop := (x1.1 ≤ n) ∧ (x1.2.1 = (sprS (upd f p 0) (f p) g (totN g n) x1.1).1) ∧ (x1.2.2 = (sprS (upd f p 0) (f p) g (totN g n) x1.1).2)
def spread_in_mu1 (b : Nat) (r : Nat) (n : Nat) (c : Nat) (f : Nat → UInt64) (p : Nat) (q : Nat) (w : Nat) (o : Nat) (e : Nat) (g : Nat → UInt64) (n1 : Nat) (x1 : Nat × (Nat → UInt64) × UInt64) : Nat := n - x1.1
theorem spread_in (b r n c : Nat) (f : Nat → UInt64) (p q : Nat) (w o e : Nat) (g : Nat → UInt64) (hn : n ≤ 40) (hk : p < n) (hl : q < n) : Runs Try.prog 49 [(ptr b 0), (nat p), (nat q), (Value.slice (some ⟨w, o, none⟩) n e)] [⟨b, false, 0, (.lit [(Value.slice (some ⟨r, 0, none⟩) n c)])⟩, ⟨r, true, 0, (tabF n (fun k => u64 (f k)))⟩, ⟨w, false, o, (tabF n (fun k => u64 (g k)))⟩] 0 (fun (_ : List Nat) => int 0) (fun (_ : List Nat) => [some ⟨b, false, 0, (.lit [(Value.slice (some ⟨r, 0, none⟩) n c)])⟩, some ⟨r, true, 0, (tabF n (fun k => u64 (upd (sprS (upd f p 0) (f p) g (totN g n) n).1 q ((sprS (upd f p 0) (f p) g (totN g n) n).1 q + (sprS (upd f p 0) (f p) g (totN g n) n).2) k)))⟩, some ⟨w, false, o, (tabF n (fun k => u64 (g k)))⟩]) :=
  runs_of_ev mix Try.func49 rfl rfl 400 (.reg [(0, .g)] (.reg [(0, .g), (1, .g), (2, (.call [(0, true)] 0 0 (fun _ => (Value.bool (isI n ((p : Nat) : Int)))) (fun _ => [none]))), (3, .g), (4, .g), (5, .opt .g), (6, .opt .g), (7, .opt (.call [(0, true)] 0 0 (fun _ => (Value.bool (isI n ((q : Nat) : Int)))) (fun _ => [none]))), (8, .opt .g), (9, .pk), (10, .g), (11, .opt .g), (12, .opt (.as (nat n))), (13, .opt .g), (14, .opt .g), (15, .opt .g), (16, .opt (.ld 0 (.lit 0))), (17, .opt (.as (nat n))), (18, .opt (.as (Value.bool (!(decide (n = n)))))), (19, .pk)] (.no (.regn [(0, .g), (1, .g), (2, .g), (3, (.ld 0 (.lit 0))), (4, .g), (5, (.as (ptr r (0 + p * 1)))), (6, (.ld 1 (.tab p 0))), (7, .g), (8, (.call [(2, true)] 0 0 (fun _ => (nat4 (totN g n))) (fun _ => [none]))), (9, .new), (10, .g), (11, (.st 3 (.lit 0)))] (more (fun n1 => fun _ => (.reg [(0, .g), (1, .g), (2, .g), (3, (.ld 0 (.lit 0))), (4, .g), (5, (.as (ptr r (0 + p * 1)))), (6, (.stc 1 (.tab p 0) (tabF n (fun k => u64 (upd f p 0 k)))))] (.reg [(0, .g), (1, .g)] (.reg [(0, .g), (1, (.as (nat n))), (2, .g)] (.inv [0, 2, 9, 10, 11, 51, 52, 53] [0, 1, 2, 3] 4 (spread_in_R1 b r n c f p q w o e g n1) (spread_in_S1 b r n c f p q w o e g n1) (spread_in_mu1 b r n c f p q w o e g n1) ((0, upd f p 0, (f p)) : Nat × (Nat → UInt64) × UInt64) (fun (x1 : Nat × (Nat → UInt64) × UInt64) => (.reg [(0, (.as (Value.bool (decide (x1.1 < n)))))] (.br (.reg [(0, .g), (1, (.as (ptr w (o + x1.1 * 1)))), (2, (.ld 2 (.tab x1.1 0))), (3, .g), (4, .g)] (.reg [(0, .g), (1, .g), (2, (.ld 3 (.lit 0))), (3, (.call [] 0 0 (fun _ => (u64 (partP (f p) (g x1.1) (totN g n)))) (fun _ => []))), (4, .g)] (.reg [(0, .g), (1, .g), (2, .g), (3, (.ld 0 (.lit 0))), (4, .g), (5, (.as (ptr r (0 + x1.1 * 1)))), (6, (.ld 1 (.tab x1.1 0))), (7, .g), (8, (.as (u64 ((x1.2.1 x1.1) + (partP (f p) (g x1.1) (totN g n)))))), (9, (.as (ptr r (0 + x1.1 * 1)))), (10, (.stc 1 (.tab x1.1 0) (tabF n (fun k => u64 (upd x1.2.1 x1.1 ((x1.2.1 x1.1) + (partP (f p) (g x1.1) (totN g n))) k)))))] (.reg [(0, .g), (1, .g), (2, (.as (u64 (x1.2.2 - (partP (f p) (g x1.1) (totN g n)))))), (3, .g)] (.reg [(0, (.as (nat (x1.1 + 1)))), (1, .g)] .done))))) (.reg [(0, .g), (1, .g), (2, .g), (3, (.ld 0 (.lit 0))), (4, .g), (5, (.as (ptr r (0 + q * 1)))), (6, (.ld 1 (.tab q 0))), (7, .g), (8, (.as (u64 ((x1.2.1 q) + x1.2.2)))), (9, (.as (ptr r (0 + q * 1)))), (10, (.stc 1 (.tab q 0) (tabF n (fun k => u64 (upd x1.2.1 q ((x1.2.1 q) + x1.2.2) k)))))] (.reg [(0, .g)] .done))))))))))))))) [] [] rfl
    (Eq.mp (by kernel_rfl) (have f0 : n ≤ 40 := hn; have f1 : p < n := hk; have f2 : q < n := hl; And.intro (sk trivial) (And.intro (sk (sk (And.intro (And.intro trivial (Runs.dark [true] (there_runs b r n c ((p : Nat) : Int) (show n ≤ 40 from by omega)))) (sk (sk (And.intro (fun (hg : (sameB (!(isI n ((p : Nat) : Int))) false) = true) => t2) (And.intro (fun (hg : (sameB (!(isI n ((p : Nat) : Int))) false) = true) => t2) (And.intro (fun (hg : (sameB (!(isI n ((p : Nat) : Int))) false) = true) => have f3 : (isI n ((p : Nat) : Int)) = true := (bnot_f (sameB_f hg)); (And.intro (And.intro hg (And.intro hg trivial)) (Runs.dark [true] (there_runs b r n c ((q : Nat) : Int) (show n ≤ 40 from by omega))))) (And.intro (fun (hg : (sameB (!(isI n ((p : Nat) : Int))) false) = true) => (And.intro (And.intro hg trivial) trivial)) (And.intro (And.intro trivial (And.intro (fun (_ : (!(isI n ((p : Nat) : Int))) = true) => trivial) (fun (hp : (!(isI n ((p : Nat) : Int))) = false) => (sameB_mkf hp)))) (sk (And.intro (fun (hg : (sameB (selB (!(isI n ((p : Nat) : Int))) true (!(isI n ((q : Nat) : Int)))) false) = true) => t2) (And.intro (fun (hg : (sameB (selB (!(isI n ((p : Nat) : Int))) true (!(isI n ((q : Nat) : Int)))) false) = true) => have f3 : (isI n ((p : Nat) : Int)) = true := (bnot_f (sbor_l (sameB_f hg))); have f4 : (isI n ((q : Nat) : Int)) = true := (bnot_f (sbor_r (sameB_f hg))); (And.intro (And.intro hg trivial) (@is_len Try.prog 22 23 (.tmp 26) (by kernel_rfl) (some ⟨w, o, none⟩) n e))) (And.intro (fun (hg : (sameB (selB (!(isI n ((p : Nat) : Int))) true (!(isI n ((q : Nat) : Int)))) false) = true) => t2) (And.intro (fun (hg : (sameB (selB (!(isI n ((p : Nat) : Int))) true (!(isI n ((q : Nat) : Int)))) false) = true) => (And.intro (And.intro hg trivial) trivial)) (And.intro (fun (hg : (sameB (selB (!(isI n ((p : Nat) : Int))) true (!(isI n ((q : Nat) : Int)))) false) = true) => (And.intro (And.intro hg trivial) trivial)) (And.intro (fun (hg : (sameB (selB (!(isI n ((p : Nat) : Int))) true (!(isI n ((q : Nat) : Int)))) false) = true) => (And.intro (And.intro hg trivial) (ad b 0))) (And.intro (fun (hg : (sameB (selB (!(isI n ((p : Nat) : Int))) true (!(isI n ((q : Nat) : Int)))) false) = true) => have f3 : (isI n ((p : Nat) : Int)) = true := (bnot_f (sbor_l (sameB_f hg))); have f4 : (isI n ((q : Nat) : Int)) = true := (bnot_f (sbor_r (sameB_f hg))); (And.intro (And.intro hg trivial) (@is_len Try.prog 22 23 (.tmp 31) (by kernel_rfl) (some ⟨r, 0, none⟩) n c))) (And.intro (fun (hg : (sameB (selB (!(isI n ((p : Nat) : Int))) true (!(isI n ((q : Nat) : Int)))) false) = true) => (And.intro (And.intro hg (And.intro hg trivial)) (@is_neqn Try.prog 3 3 (.tmp 27) (.tmp 32)  n n))) (And.intro (And.intro trivial (And.intro (fun (_ : (selB (!(isI n ((p : Nat) : Int))) true (!(isI n ((q : Nat) : Int)))) = true) => trivial) (fun (hp : (selB (!(isI n ((p : Nat) : Int))) true (!(isI n ((q : Nat) : Int)))) = false) => (sameB_mkf hp)))) trivial)))))))))))))))))))) ((fun (hp1 : (selB (selB (!(isI n ((p : Nat) : Int))) true (!(isI n ((q : Nat) : Int)))) true (!(decide (n = n)))) = false) => have f3 : (isI n ((p : Nat) : Int)) = true := (bnot_f (sbor_l (sbor_l hp1))); have f4 : (isI n ((q : Nat) : Int)) = true := (bnot_f (sbor_r (sbor_l hp1))); have f5 : (n = n) := (of_decide_eq_true (bnot_f (sbor_r hp1))); And.intro trivial (And.intro hp1 (fun (n1 : Nat) => And.intro (sk (sk (sk (And.intro (And.intro trivial (ad b 0)) (sk (And.intro (And.intro trivial (@is_ixSl Try.prog 22 23 (.tmp 38) (.tmp 39) 1 (by kernel_rfl) (by kernel_rfl) r 0 n c p (show p < n from by omega))) (And.intro (And.intro trivial (And.intro (show p < n from by omega) (@rfl Value (ptr r (0 + p * 1))))) (sk (And.intro (And.intro trivial (Runs.dark [true] (total_runs w o n e g (show n ≤ 9223372036854775807 from by omega)))) (sk (sk (And.intro (And.intro trivial (ad n1 0)) trivial)))))))))))) (And.intro (sk (sk (sk (And.intro (And.intro trivial (ad b 0)) (sk (And.intro (And.intro trivial (@is_ixSl Try.prog 22 23 (.tmp 47) (.tmp 48) 1 (by kernel_rfl) (by kernel_rfl) r 0 n c p (show p < n from by omega))) (And.intro (And.intro trivial (And.intro (show p < n from by omega) (And.intro (@rfl Value (ptr r (0 + p * 1))) (store_tabF n u64 f p 0)))) trivial))))))) (And.intro (sk (sk trivial)) (And.intro (sk (And.intro (And.intro trivial (@is_len Try.prog 22 23 (.tmp 51) (by kernel_rfl) (some ⟨w, o, none⟩) n e)) (sk trivial))) (And.intro (show (spread_in_R1 b r n c f p q w o e g n1) ((0, upd f p 0, (f p)) : Nat × (Nat → UInt64) × UInt64) from (show (0 ≤ n) ∧ ((upd f p 0) = (sprS (upd f p 0) (f p) g (totN g n) 0).1) ∧ ((f p) = (sprS (upd f p 0) (f p) g (totN g n) 0).2) from by exact ⟨by omega, rfl, rfl⟩)) (And.intro (@rfl St ((spread_in_S1 b r n c f p q w o e g n1) ((0, upd f p 0, (f p)) : Nat × (Nat → UInt64) × UInt64))) (fun (x1 : Nat × (Nat → UInt64) × UInt64) (hx1 : (spread_in_R1 b r n c f p q w o e g n1) x1) => have B0 : x1.1 ≤ n := hx1.1; have B1 : x1.2.1 = (sprS (upd f p 0) (f p) g (totN g n) x1.1).1 := hx1.2.1; have B2 : x1.2.2 = (sprS (upd f p 0) (f p) g (totN g n) x1.1).2 := hx1.2.2; And.intro (And.intro (And.intro trivial (@is_lssn Try.prog 3 3 (.tmp 53) (.tmp 52)  x1.1 n)) trivial) (And.intro trivial (And.intro (fun (h2 : (decide (x1.1 < n)) = true) => have f9 : (x1.1 < n) := (of_decide_eq_true h2); And.intro (sk (And.intro (And.intro trivial (@is_ixSl Try.prog 22 23 (.tmp 51) (.tmp 53) 1 (by kernel_rfl) (by kernel_rfl) w o n e x1.1 (show x1.1 < n from by omega))) (And.intro (And.intro trivial (And.intro (show x1.1 < n from by omega) (@rfl Value (ptr w (o + x1.1 * 1))))) (sk (sk trivial))))) (And.intro (sk (sk (And.intro (And.intro trivial (ad n1 0)) (And.intro (And.intro trivial (part_pure (f p) (g x1.1) (totN g n))) (sk trivial))))) (And.intro (sk (sk (sk (And.intro (And.intro trivial (ad b 0)) (sk (And.intro (And.intro trivial (@is_ixSl Try.prog 22 23 (.tmp 65) (.tmp 66) 1 (by kernel_rfl) (by kernel_rfl) r 0 n c x1.1 (show x1.1 < n from by omega))) (And.intro (And.intro trivial (And.intro (show x1.1 < n from by omega) (@rfl Value (ptr r (0 + x1.1 * 1))))) (sk (And.intro (And.intro trivial (@is_add64 Try.prog 23 23 (.tmp 68) (.tmp 69) (x1.2.1 x1.1) (partP (f p) (g x1.1) (totN g n)))) (And.intro (And.intro trivial (@is_ixSl Try.prog 22 23 (.tmp 65) (.tmp 66) 1 (by kernel_rfl) (by kernel_rfl) r 0 n c x1.1 (show x1.1 < n from by omega))) (And.intro (And.intro trivial (And.intro (show x1.1 < n from by omega) (And.intro (@rfl Value (ptr r (0 + x1.1 * 1))) (store_tabF n u64 x1.2.1 x1.1 ((x1.2.1 x1.1) + (partP (f p) (g x1.1) (totN g n))))))) trivial))))))))))) (And.intro (sk (sk (And.intro (And.intro trivial (@is_sub64 Try.prog 23 23 (.tmp 72) (.tmp 73) x1.2.2 (partP (f p) (g x1.1) (totN g n)))) (sk trivial)))) (And.intro (And.intro (And.intro trivial (@is_addn Try.prog 3 3 (.tmp 53) (.const (.int .i64 1))  x1.1 1 (show x1.1 + 1 ≤ 9223372036854775807 from by omega))) (sk trivial)) ((rnd (spread_in_R1 b r n c f p q w o e g n1) (spread_in_S1 b r n c f p q w o e g n1) (spread_in_mu1 b r n c f p q w o e g n1) x1 ((x1.1 + 1, upd x1.2.1 x1.1 ((x1.2.1 x1.1) + (partP (f p) (g x1.1) (totN g n))), (x1.2.2 - (partP (f p) (g x1.1) (totN g n)))) : Nat × (Nat → UInt64) × UInt64) (show (spread_in_R1 b r n c f p q w o e g n1) ((x1.1 + 1, upd x1.2.1 x1.1 ((x1.2.1 x1.1) + (partP (f p) (g x1.1) (totN g n))), (x1.2.2 - (partP (f p) (g x1.1) (totN g n)))) : Nat × (Nat → UInt64) × UInt64) ∧ (spread_in_mu1 b r n c f p q w o e g n1) ((x1.1 + 1, upd x1.2.1 x1.1 ((x1.2.1 x1.1) + (partP (f p) (g x1.1) (totN g n))), (x1.2.2 - (partP (f p) (g x1.1) (totN g n)))) : Nat × (Nat → UInt64) × UInt64) < (spread_in_mu1 b r n c f p q w o e g n1) x1 from (show (((x1.1 + 1) ≤ n) ∧ ((upd x1.2.1 x1.1 ((x1.2.1 x1.1) + (partP (f p) (g x1.1) (totN g n)))) = (sprS (upd f p 0) (f p) g (totN g n) (x1.1 + 1)).1) ∧ ((x1.2.2 - (partP (f p) (g x1.1) (totN g n))) = (sprS (upd f p 0) (f p) g (totN g n) (x1.1 + 1)).2)) ∧ (n - (x1.1 + 1)) < (n - x1.1) from by exact ⟨⟨by omega, by rw [B1] <;> rfl, by rw [B2] <;> rfl⟩, by omega⟩))))))))) (fun (h2 : (decide (x1.1 < n)) = false) => have f9 : ¬ (x1.1 < n) := (of_decide_eq_false h2); And.intro (sk (sk (sk (And.intro (And.intro trivial (ad b 0)) (sk (And.intro (And.intro trivial (@is_ixSl Try.prog 22 23 (.tmp 79) (.tmp 80) 1 (by kernel_rfl) (by kernel_rfl) r 0 n c q (show q < n from by omega))) (And.intro (And.intro trivial (And.intro (show q < n from by omega) (@rfl Value (ptr r (0 + q * 1))))) (sk (And.intro (And.intro trivial (@is_add64 Try.prog 23 23 (.tmp 82) (.tmp 83) (x1.2.1 q) x1.2.2)) (And.intro (And.intro trivial (@is_ixSl Try.prog 22 23 (.tmp 79) (.tmp 80) 1 (by kernel_rfl) (by kernel_rfl) r 0 n c q (show q < n from by omega))) (And.intro (And.intro trivial (And.intro (show q < n from by omega) (And.intro (@rfl Value (ptr r (0 + q * 1))) (store_tabF n u64 x1.2.1 q ((x1.2.1 q) + x1.2.2))))) trivial))))))))))) (And.intro (sk trivial) (And.intro trivial (@Exists.intro (List Nat) (fun (ns : List Nat) => ns.length = 0 ∧ ((int 0) : Value) = (fun (_ : List Nat) => int 0) ns ∧ ([some ⟨b, false, 0, (.lit [(Value.slice (some ⟨r, 0, none⟩) n c)])⟩, some ⟨r, true, 0, (tabF n (fun k => u64 (upd x1.2.1 q ((x1.2.1 q) + x1.2.2) k)))⟩, some ⟨w, false, o, (tabF n (fun k => u64 (g k)))⟩] : List (Option Blk)) = (fun (_ : List Nat) => [some ⟨b, false, 0, (.lit [(Value.slice (some ⟨r, 0, none⟩) n c)])⟩, some ⟨r, true, 0, (tabF n (fun k => u64 (upd (sprS (upd f p 0) (f p) g (totN g n) n).1 q ((sprS (upd f p 0) (f p) g (totN g n) n).1 q + (sprS (upd f p 0) (f p) g (totN g n) n).2) k)))⟩, some ⟨w, false, o, (tabF n (fun k => u64 (g k)))⟩]) ns) [] (And.intro (@rfl Nat 0) (And.intro (@rfl Value (int 0)) ((show ([some ⟨b, false, 0, (.lit [(Value.slice (some ⟨r, 0, none⟩) n c)])⟩, some ⟨r, true, 0, (tabF n (fun k => u64 (upd x1.2.1 q ((x1.2.1 q) + x1.2.2) k)))⟩, some ⟨w, false, o, (tabF n (fun k => u64 (g k)))⟩] : List (Option Blk)) = [some ⟨b, false, 0, (.lit [(Value.slice (some ⟨r, 0, none⟩) n c)])⟩, some ⟨r, true, 0, (tabF n (fun k => u64 (upd (sprS (upd f p 0) (f p) g (totN g n) n).1 q ((sprS (upd f p 0) (f p) g (totN g n) n).1 q + (sprS (upd f p 0) (f p) g (totN g n) n).2) k)))⟩, some ⟨w, false, o, (tabF n (fun k => u64 (g k)))⟩] from by have e : x1.1 = n := (by omega); rw [e] at B1 B2; rw [B1, B2]))))))))))))))))))) (show (selB (selB (!(isI n ((p : Nat) : Int))) true (!(isI n ((q : Nat) : Int)))) true (!(decide (n = n)))) = false from by rw [isI_nat hk, isI_nat hl]; simp [selB])))))
theorem spread_runs (b r n c : Nat) (f : Nat → UInt64) (i j : Int) (w o m e : Nat) (g : Nat → UInt64) (hn : n ≤ 40 ∧ m ≤ 9223372036854775807) : Runs Try.prog 49 [ptr b 0, int i, int j, .slice (some ⟨w, o, none⟩) m e] [⟨b, false, 0, .lit [.slice (some ⟨r, 0, none⟩) n c]⟩, ⟨r, true, 0, tabF n fun k => u64 (f k)⟩, ⟨w, false, o, tabF m fun k => u64 (g k)⟩] 0 (fun _ => int (spreadE n i j m)) (fun _ => [some ⟨b, false, 0, .lit [.slice (some ⟨r, 0, none⟩) n c]⟩, some ⟨r, true, 0, tabF n fun k => u64 (spreadF n f i j m g k)⟩, some ⟨w, false, o, tabF m fun k => u64 (g k)⟩]) := by
  by_cases h : isI n i = true ∧ isI n j = true ∧ m = n
  · obtain ⟨hi, hj, rfl⟩ := h
    obtain ⟨i1, i2⟩ := isI_iff.1 hi
    obtain ⟨j1, j2⟩ := isI_iff.1 hj
    obtain ⟨p, rfl⟩ := Int.eq_ofNat_of_zero_le i1
    obtain ⟨q, rfl⟩ := Int.eq_ofNat_of_zero_le j1
    have e0 : spreadE m (p : Int) (q : Int) m = 0 := by unfold spreadE; rw [if_pos ⟨hi, hj, rfl⟩]
    have e1 : spreadF m f (p : Int) (q : Int) m g = upd (sprS (upd f p 0) (f p) g (totN g m) m).1 q ((sprS (upd f p 0) (f p) g (totN g m) m).1 q + (sprS (upd f p 0) (f p) g (totN g m) m).2) := by unfold spreadF; rw [if_pos e0]; rfl
    rw [e0, e1]
    exact spread_in b r m c f p q w o e g (by omega) (by omega) (by omega)
  · have e0 : spreadE n i j m = 1 := by unfold spreadE; rw [if_neg h]
    have e1 : spreadF n f i j m g = f := by unfold spreadF; rw [if_neg (by rw [e0]; decide)]
    rw [e0, e1]
    exact spread_out b r n c f i j w o m e g hn h
end Go.Proofs.Ytchkbchbfilipaa
end
section
set_option linter.unusedVariables false
namespace Go.Eng
structure SWO {α : Type} (lt : α → α → Bool) : Prop where
  irr : ∀ a, lt a a = false
  tr : ∀ a b c, lt a b = true → lt b c = true → lt a c = true
  neg : ∀ a b c, lt a b = false → lt b c = false → lt a c = false
section
variable {α : Type} {lt : α → α → Bool}
theorem SWO.asy (h : SWO lt) {a b : α} (hab : lt a b = true) : lt b a = false := by
  cases hb : lt b a with
  | false => rfl
  | true => have := h.tr a b a hab hb; rw [h.irr a] at this; cases this
def swp (f : Nat → α) (i k : Nat) : Nat → α := upd (upd f i (f k)) k (f i)
theorem swp_i (f : Nat → α) (i k : Nat) : swp f i k i = f k := by
  unfold swp upd
  by_cases h : i = k
  · subst h; simp
  · simp [h]
theorem swp_k (f : Nat → α) (i k : Nat) : swp f i k k = f i := by unfold swp upd; simp
theorem swp_o (f : Nat → α) {i k x : Nat} (h1 : x ≠ i) (h2 : x ≠ k) : swp f i k x = f x := by unfold swp upd; simp [h1, h2]
structure En (f : Nat → α) (n : Nat) (S : α → Prop) : Prop where
  mem : ∀ k, k < n → S (f k)
  sur : ∀ x, S x → ∃ k, k < n ∧ f k = x
  inj : ∀ j k, j < n → k < n → f j = f k → j = k
theorem En.swp {f : Nat → α} {n : Nat} {S : α → Prop} (h : En f n S) {i k : Nat} (hi : i < n) (hk : k < n) : En (swp f i k) n S := by
  have hs : ∀ x, Go.Eng.swp f i k x = f (if x = i then k else if x = k then i else x) := fun x => by
    by_cases h1 : x = i
    · subst h1; rw [swp_i, if_pos rfl]
    · by_cases h2 : x = k
      · subst h2; rw [swp_k, if_neg h1, if_pos rfl]
      · rw [swp_o f h1 h2, if_neg h1, if_neg h2]
  have hlt : ∀ x, x < n → (if x = i then k else if x = k then i else x) < n := fun x hx => by
    by_cases h1 : x = i
    · rw [if_pos h1]; exact hk
    · rw [if_neg h1]
      by_cases h2 : x = k
      · rw [if_pos h2]; exact hi
      · rw [if_neg h2]; exact hx
  refine ⟨fun x hx => by rw [hs]; exact h.mem _ (hlt x hx), fun y hy => ?_, fun x z hx hz e => ?_⟩
  · obtain ⟨x, hx, rfl⟩ := h.sur y hy
    refine ⟨if x = i then k else if x = k then i else x, hlt x hx, ?_⟩
    rw [hs]
    congr 1
    by_cases h1 : x = i
    · subst h1
      rw [if_pos rfl]
      by_cases h2 : k = x
      · rw [if_pos h2]; exact h2
      · rw [if_neg h2, if_pos rfl]
    · rw [if_neg h1]
      by_cases h2 : x = k
      · subst h2; rw [if_pos rfl, if_pos rfl]
      · rw [if_neg h2, if_neg h1, if_neg h2]
  · rw [hs, hs] at e
    have e := h.inj _ _ (hlt x hx) (hlt z hz) e
    by_cases h1 : x = i <;> by_cases h2 : x = k <;> by_cases h3 : z = i <;> by_cases h4 : z = k <;> simp_all
theorem En.push {f : Nat → α} {n : Nat} {S : α → Prop} (h : En f n S) {x : α} (hx : ¬ S x) : En (catU f n fun _ => x) (n + 1) fun y => S y ∨ y = x := by
  have h1 : ∀ k, k < n → catU f n (fun _ => x) k = f k := fun k hk => if_pos hk
  have h2 : catU f n (fun _ => x) n = x := if_neg (Nat.lt_irrefl n)
  refine ⟨fun k hk => ?_, fun y hy => ?_, fun j k hj hk e => ?_⟩
  · by_cases h3 : k < n
    · rw [h1 k h3]; exact .inl (h.mem k h3)
    · rw [show k = n by omega, h2]; exact .inr rfl
  · rcases hy with hy | rfl
    · obtain ⟨k, hk, rfl⟩ := h.sur y hy
      exact ⟨k, by omega, h1 k hk⟩
    · exact ⟨n, by omega, h2⟩
  · by_cases h3 : j < n <;> by_cases h4 : k < n
    · rw [h1 j h3, h1 k h4] at e; exact h.inj j k h3 h4 e
    · rw [h1 j h3, show k = n by omega, h2] at e; exact absurd (e ▸ h.mem j h3) hx
    · rw [h1 k h4, show j = n by omega, h2] at e; exact absurd (e ▸ h.mem k h4) hx
    · omega
theorem En.pop {f : Nat → α} {n : Nat} {S : α → Prop} (h : En f (n + 1) S) : En f n fun y => S y ∧ y ≠ f n :=
  ⟨fun k hk => ⟨h.mem k (by omega), fun e => by have := h.inj k n (by omega) (by omega) e; omega⟩, fun y hy => by
    obtain ⟨k, hk, rfl⟩ := h.sur y hy.1
    refine ⟨k, ?_, rfl⟩
    rcases Nat.lt_or_ge k n with h1 | h1
    · exact h1
    · exact absurd (by rw [show k = n by omega]) hy.2, fun j k hj hk e => h.inj j k (by omega) (by omega) e⟩
theorem En.congr {f g : Nat → α} {n : Nat} {S : α → Prop} (h : En f n S) (hg : ∀ k, k < n → g k = f k) : En g n S :=
  ⟨fun k hk => by rw [hg k hk]; exact h.mem k hk, fun x hx => by obtain ⟨k, hk, e⟩ := h.sur x hx; exact ⟨k, hk, by rw [hg k hk, e]⟩, fun j k hj hk e => h.inj j k hj hk (by rw [← hg j hj, ← hg k hk, e])⟩
theorem En.iff {f : Nat → α} {n : Nat} {S T : α → Prop} (h : En f n S) (hT : ∀ x, T x ↔ S x) : En f n T :=
  ⟨fun k hk => (hT _).2 (h.mem k hk), fun x hx => h.sur x ((hT x).1 hx), h.inj⟩
theorem En.none {f : Nat → α} : En f 0 fun _ => False := ⟨fun k h => absurd h (Nat.not_lt_zero k), fun _ h => h.elim, fun j k h => absurd h (Nat.not_lt_zero j)⟩
def HpB (lt : α → α → Bool) (b : Nat) (f : Nat → α) (n : Nat) : Prop := ∀ k, 0 < k → k < n → b ≤ (k - 1) / 2 → lt (f k) (f ((k - 1) / 2)) = false
theorem HpB.root (h : SWO lt) {f : Nat → α} {n : Nat} (hp : HpB lt 0 f n) : ∀ k, k < n → lt (f k) (f 0) = false := by
  intro k
  induction k using Nat.strongRecOn with
  | _ k ih =>
    intro hk
    by_cases h0 : k = 0
    · subst h0; exact h.irr _
    · exact h.neg _ _ _ (hp k (by omega) hk (Nat.zero_le _)) (ih ((k - 1) / 2) (by omega) (by omega))
def upH (lt : α → α → Bool) : Nat → (Nat → α) → Nat → Nat → α
  | 0, f, _ => f
  | m + 1, f, j => if j = 0 then f else if lt (f j) (f ((j - 1) / 2)) = true then upH lt m (swp f ((j - 1) / 2) j) ((j - 1) / 2) else f
def upF (lt : α → α → Bool) (f : Nat → α) (j : Nat) : Nat → α := upH lt j f j
theorem upH_zero (f : Nat → α) : ∀ m, upH lt m f 0 = f
  | 0 => rfl
  | m + 1 => by rw [upH, if_pos rfl]
theorem upH_more (f : Nat → α) : ∀ m j, j ≤ m → upH lt m f j = upH lt j f j := by
  intro m
  induction m using Nat.strongRecOn generalizing f with
  | _ m ih =>
    intro j hj
    rcases Nat.eq_zero_or_pos j with h0 | h0
    · subst h0; rw [upH_zero, upH_zero]
    · obtain ⟨m, rfl⟩ : ∃ q, m = q + 1 := ⟨m - 1, by omega⟩
      obtain ⟨j, rfl⟩ : ∃ q, j = q + 1 := ⟨j - 1, by omega⟩
      rw [upH, upH]
      split
      · rfl
      · split
        · rw [ih m (by omega) _ _ (by omega), ih j (by omega) _ ((j + 1 - 1) / 2) (by omega)]
        · rfl
theorem upF_end {f : Nat → α} {j : Nat} (h : j = 0 ∨ lt (f j) (f ((j - 1) / 2)) = false) : upF lt f j = f := by
  unfold upF
  cases j with
  | zero => rfl
  | succ j =>
    rw [upH, if_neg (by omega)]
    rcases h with h | h
    · omega
    · rw [if_neg (by rw [h]; decide)]
theorem upF_go {f : Nat → α} {j : Nat} (h0 : 0 < j) (h : lt (f j) (f ((j - 1) / 2)) = true) : upF lt f j = upF lt (swp f ((j - 1) / 2) j) ((j - 1) / 2) := by
  unfold upF
  obtain ⟨j, rfl⟩ : ∃ q, j = q + 1 := ⟨j - 1, by omega⟩
  rw [upH, if_neg (by omega), if_pos h, upH_more _ j _ (by omega)]
def HpU (lt : α → α → Bool) (f : Nat → α) (n j : Nat) : Prop :=
  (∀ k, 0 < k → k < n → k ≠ j → lt (f k) (f ((k - 1) / 2)) = false) ∧ ∀ k, 0 < k → k < n → (k - 1) / 2 = j → 0 < j → lt (f k) (f ((j - 1) / 2)) = false
theorem HpU.end {f : Nat → α} {n j : Nat} (hp : HpU lt f n j) (he : j = 0 ∨ lt (f j) (f ((j - 1) / 2)) = false) : HpB lt 0 f n := fun k h0 hk _ => by
  by_cases e : k = j
  · subst e
    rcases he with he | he
    · omega
    · exact he
  · exact hp.1 k h0 hk e
theorem HpU.step (h : SWO lt) {f : Nat → α} {n j : Nat} (hp : HpU lt f n j) (hj : 0 < j) (hn : j < n) (hl : lt (f j) (f ((j - 1) / 2)) = true) : HpU lt (swp f ((j - 1) / 2) j) n ((j - 1) / 2) := by
  have ho : ∀ x, x ≠ (j - 1) / 2 → x ≠ j → swp f ((j - 1) / 2) j x = f x := fun x h1 h2 => swp_o f h1 h2
  have hi : swp f ((j - 1) / 2) j ((j - 1) / 2) = f j := swp_i _ _ _
  have hk : swp f ((j - 1) / 2) j j = f ((j - 1) / 2) := swp_k _ _ _
  refine ⟨fun k h0 hkn hkp => ?_, fun k h0 hkn hkp h1 => ?_⟩
  · by_cases e : k = j
    · subst e; rw [hk, hi]; exact h.asy hl
    · rw [ho k hkp e]
      by_cases e2 : (k - 1) / 2 = j
      · rw [e2, hk]; exact hp.2 k h0 hkn e2 hj
      · by_cases e3 : (k - 1) / 2 = (j - 1) / 2
        · rw [e3, hi]; exact h.neg _ _ _ (e3 ▸ hp.1 k h0 hkn e) (h.asy hl)
        · rw [ho _ e3 e2]; exact hp.1 k h0 hkn e
  · rw [ho ((((j - 1) / 2) - 1) / 2) (by omega) (by omega)]
    by_cases e : k = j
    · subst e; rw [hk]; exact hp.1 _ h1 (by omega) (by omega)
    · rw [ho k (by omega) e]
      exact h.neg _ _ _ (hkp ▸ hp.1 k h0 hkn e) (hp.1 _ h1 (by omega) (by omega))
theorem upF_ok (h : SWO lt) {n : Nat} : ∀ (j : Nat) (f : Nat → α), j < n → HpU lt f n j → HpB lt 0 (upF lt f j) n ∧ (∀ S, En f n S → En (upF lt f j) n S) ∧ ∀ k, n ≤ k → upF lt f j k = f k := by
  intro j
  induction j using Nat.strongRecOn with
  | _ j ih =>
    intro f hj hp
    by_cases he : j = 0 ∨ lt (f j) (f ((j - 1) / 2)) = false
    · rw [upF_end he]; exact ⟨hp.end he, fun S hS => hS, fun _ _ => rfl⟩
    · have h0 : 0 < j := by omega
      have hl : lt (f j) (f ((j - 1) / 2)) = true := by
        cases hb : lt (f j) (f ((j - 1) / 2)) with
        | true => rfl
        | false => exact absurd (.inr hb) he
      rw [upF_go h0 hl]
      obtain ⟨h1, h2, h3⟩ := ih ((j - 1) / 2) (by omega) (swp f ((j - 1) / 2) j) (by omega) (hp.step h h0 hj hl)
      exact ⟨h1, fun S hS => h2 S (hS.swp (by omega) hj), fun k hk => (h3 k hk).trans (swp_o f (by omega) (by omega))⟩
def pick (lt : α → α → Bool) (n : Nat) (f : Nat → α) (i : Nat) : Nat := if 2 * i + 2 < n ∧ lt (f (2 * i + 2)) (f (2 * i + 1)) = true then 2 * i + 2 else 2 * i + 1
def dnH (lt : α → α → Bool) (n : Nat) : Nat → (Nat → α) → Nat → (Nat → α) × Nat
  | 0, f, i => (f, i)
  | m + 1, f, i => if n ≤ 2 * i + 1 then (f, i) else if lt (f (pick lt n f i)) (f i) = true then dnH lt n m (swp f i (pick lt n f i)) (pick lt n f i) else (f, i)
def dnF (lt : α → α → Bool) (n : Nat) (f : Nat → α) (i : Nat) : (Nat → α) × Nat := dnH lt n n f i
theorem pick_gt (n : Nat) (f : Nat → α) (i : Nat) : i < pick lt n f i ∧ (2 * i + 1 < n → pick lt n f i < n) ∧ (pick lt n f i - 1) / 2 = i := by
  unfold pick; split <;> omega
theorem dnH_more {n : Nat} : ∀ (m q : Nat) (f : Nat → α) (i : Nat), n ≤ m + i → n ≤ q + i → dnH lt n m f i = dnH lt n q f i
  | 0, 0, f, i, _, _ => rfl
  | 0, q + 1, f, i, h, _ => by rw [dnH, dnH, if_pos (by omega)]
  | m + 1, 0, f, i, _, h => by rw [dnH, dnH, if_pos (by omega)]
  | m + 1, q + 1, f, i, h1, h2 => by
    have := pick_gt (lt := lt) n f i
    rw [dnH, dnH]
    split
    · rfl
    · split
      · exact dnH_more m q _ _ (by omega) (by omega)
      · rfl
theorem dnF_end {n : Nat} {f : Nat → α} {i : Nat} (h : n ≤ 2 * i + 1 ∨ lt (f (pick lt n f i)) (f i) = false) : dnF lt n f i = (f, i) := by
  unfold dnF
  cases n with
  | zero => rfl
  | succ n =>
    rw [dnH]
    rcases h with h | h
    · rw [if_pos h]
    · split
      · rfl
      · rw [if_neg (by rw [h]; decide)]
theorem dnF_go {n : Nat} {f : Nat → α} {i : Nat} (h1 : 2 * i + 1 < n) (h : lt (f (pick lt n f i)) (f i) = true) : dnF lt n f i = dnF lt n (swp f i (pick lt n f i)) (pick lt n f i) := by
  have := pick_gt (lt := lt) n f i
  unfold dnF
  obtain ⟨m, rfl⟩ : ∃ q, n = q + 1 := ⟨n - 1, by omega⟩
  rw [dnH, if_neg (by omega), if_pos h]
  exact dnH_more _ _ _ _ (by omega) (by omega)
def HpD (lt : α → α → Bool) (b : Nat) (f : Nat → α) (n i : Nat) : Prop :=
  (∀ k, 0 < k → k < n → b ≤ (k - 1) / 2 → (k - 1) / 2 ≠ i → lt (f k) (f ((k - 1) / 2)) = false) ∧ (0 < i → b ≤ (i - 1) / 2 → ∀ k, 0 < k → k < n → (k - 1) / 2 = i → lt (f k) (f ((i - 1) / 2)) = false)
theorem pick_least (h : SWO lt) {n : Nat} {f : Nat → α} {i k : Nat} (h0 : 0 < k) (hk : k < n) (e : (k - 1) / 2 = i) : lt (f k) (f (pick lt n f i)) = false := by
  have hk2 : k = 2 * i + 1 ∨ k = 2 * i + 2 := by omega
  unfold pick
  split
  · rename_i hc
    rcases hk2 with rfl | rfl
    · exact h.asy hc.2
    · exact h.irr _
  · rename_i hc
    rcases hk2 with rfl | rfl
    · exact h.irr _
    · cases hb : lt (f (2 * i + 2)) (f (2 * i + 1)) with
      | false => rfl
      | true => exact absurd ⟨hk, hb⟩ hc
theorem HpD.end (h : SWO lt) {b : Nat} {f : Nat → α} {n i : Nat} (hp : HpD lt b f n i) (he : n ≤ 2 * i + 1 ∨ lt (f (pick lt n f i)) (f i) = false) : HpB lt b f n := fun k h0 hk hb => by
  by_cases e : (k - 1) / 2 = i
  · rcases he with he | he
    · omega
    · rw [e]; exact h.neg _ _ _ (pick_least h h0 hk e) he
  · exact hp.1 k h0 hk hb e
theorem HpD.step (h : SWO lt) {b : Nat} {f : Nat → α} {n i : Nat} (hp : HpD lt b f n i) (hi : 2 * i + 1 < n) (hl : lt (f (pick lt n f i)) (f i) = true) : HpD lt b (swp f i (pick lt n f i)) n (pick lt n f i) := by
  obtain ⟨g1, g2', g3⟩ := pick_gt (lt := lt) n f i
  have g2 := g2' hi
  clear g2'
  have hleast : ∀ k, 0 < k → k < n → (k - 1) / 2 = i → lt (f k) (f (pick lt n f i)) = false := fun k a b c => pick_least h a b c
  generalize pick lt n f i = j at *
  have ho : ∀ x, x ≠ i → x ≠ j → swp f i j x = f x := fun x h1 h2 => swp_o f h1 h2
  have hi' : swp f i j i = f j := swp_i _ _ _
  have hk : swp f i j j = f i := swp_k _ _ _
  refine ⟨fun k h0 hkn hb hkp => ?_, fun h0j hb k h0 hkn hkp => ?_⟩
  · by_cases e : (k - 1) / 2 = i
    · rw [e, hi']
      by_cases e2 : k = j
      · rw [e2, hk]; exact h.asy hl
      · rw [ho k (by omega) e2]; exact hleast k h0 hkn e
    · rw [ho _ e hkp]
      by_cases e2 : k = i
      · subst e2; rw [hi']; exact hp.2 h0 hb j (by omega) g2 g3
      · rw [ho k e2 (by intro e3; subst e3; omega)]; exact hp.1 k h0 hkn hb e
  · rw [g3, hi', ho k (by omega) (by omega)]
    have := hp.1 k h0 hkn (by omega) (by omega)
    rw [hkp] at this; exact this
theorem dnF_ok (h : SWO lt) {b n : Nat} : ∀ (m i : Nat) (f : Nat → α), n ≤ m + i → HpD lt b f n i → HpB lt b (dnF lt n f i).1 n ∧ (∀ q S, n ≤ q → En f q S → En (dnF lt n f i).1 q S) ∧ (∀ k, n ≤ k → (dnF lt n f i).1 k = f k) ∧ i ≤ (dnF lt n f i).2 ∧ ∀ k, k < i → (dnF lt n f i).1 k = f k
  | m, i, f, hm, hp => by
    by_cases he : n ≤ 2 * i + 1 ∨ lt (f (pick lt n f i)) (f i) = false
    · rw [dnF_end he]; exact ⟨hp.end h he, fun q S _ hS => hS, fun _ _ => rfl, Nat.le_refl _, fun _ _ => rfl⟩
    · have hi : 2 * i + 1 < n := by omega
      have hl : lt (f (pick lt n f i)) (f i) = true := by
        cases hb : lt (f (pick lt n f i)) (f i) with
        | true => rfl
        | false => exact absurd (.inr hb) he
      obtain ⟨g1, g2', g3⟩ := pick_gt (lt := lt) n f i
      have g2 := g2' hi
      clear g2'
      rw [dnF_go hi hl]
      match m, hm with
      | 0, hm => omega
      | m + 1, hm =>
        obtain ⟨h1, h2, h3, h4, h5⟩ := dnF_ok h m (pick lt n f i) (swp f i (pick lt n f i)) (by omega) (hp.step h hi hl)
        exact ⟨h1, fun q S hq hS => h2 q S hq (hS.swp (by omega) (by omega)), fun k hk => (h3 k hk).trans (swp_o f (by omega) (by omega)), by omega, fun k hk => (h5 k (by omega)).trans (swp_o f (by omega) (by omega))⟩
def popF (lt : α → α → Bool) (f : Nat → α) (n : Nat) : Nat → α := (dnF lt n (swp f 0 n) 0).1
theorem popF_ok (h : SWO lt) {f : Nat → α} {n : Nat} (hp : HpB lt 0 f (n + 1)) : HpB lt 0 (popF lt f n) n ∧ popF lt f n n = f 0 ∧ (∀ S, En f (n + 1) S → En (popF lt f n) n fun y => S y ∧ y ≠ f 0) ∧ ∀ k, k < n + 1 → lt (f k) (f 0) = false := by
  obtain ⟨h1, h2, h3, _⟩ := dnF_ok h (b := 0) (n := n) n 0 (swp f 0 n) (by omega) ⟨fun k h0 hk _ hkp => by
    rw [swp_o f (by omega) (by omega), swp_o f (by omega) (by omega)]; exact hp k h0 (by omega) (Nat.zero_le _), fun h => absurd h (Nat.lt_irrefl 0)⟩
  have e : popF lt f n n = f 0 := (h3 n (Nat.le_refl _)).trans (swp_k f 0 n)
  refine ⟨h1, e, fun S hS => ?_, hp.root h⟩
  have := (h2 (n + 1) S (by omega) (hS.swp (by omega) (by omega))).pop
  have e2 : (dnF lt n (swp f 0 n) 0).1 n = f 0 := e
  rw [e2] at this; exact this
end
end Go.Eng
namespace Go.Eng
def invSem (recv : Value) (name : String) (args : Array Value) : Sem Next := do
  let d ← (pure { target := .fn (.method name) #[], args := #[recv] ++ args } : Sem Deferred)
  invoke d.target d.args
def derefM (P : Program) (t : TypeId) (name : String) (f : FuncId) (e : TypeId) : Bool := match P.info? t with
  | some i => match i.methods.find? (·.name == name) with
    | some m => match m.func with
      | some (g, false) => m.path.isEmpty && Nat.beq g f && Nat.ble 1 (P.types.size + Made.depth) && (match P.underlying t with
        | some (.pointer e') => Nat.beq e' e
        | _ => false) && (match aggB P e with
        | some false => true
        | _ => false) && (match P.funcs[f]? with
        | some fn => !(fn.name == "runtime.NumGoroutine") && !fn.body.isNone
        | none => false)
      | _ => false
    | none => false
  | none => false
theorem run_invoke_deref {P : Program} {t : TypeId} {name : String} {f : FuncId} {e : TypeId} (h : derefM P t name f e = true) {w : World} {r o : Nat} {sv : Value} (hc : w.cell? ⟨r, o, none⟩ = some sv) (args : Array Value) :
    (invSem (.iface t (.pointer (some ⟨r, o, none⟩))) name args).run P w = .ok (.enter f (#[sv] ++ args)) w := by
  unfold derefM at h
  split at h
  · rename_i i hi
    split at h
    · rename_i m hm
      split at h
      · rename_i g hf
        simp only [Bool.and_eq_true] at h
        obtain ⟨⟨⟨⟨⟨hp, hg⟩, hk⟩, hu⟩, ha⟩, hfn⟩ := h
        have hg := Nat.eq_of_beq_eq_true hg
        subst hg
        obtain ⟨k, hk⟩ : ∃ k, P.types.size + Made.depth = k + 1 := ⟨P.types.size + Made.depth - 1, by have := Nat.le_of_ble_eq_true hk; omega⟩
        split at hu
        · rename_i e' hu'
          have he := Nat.eq_of_beq_eq_true hu
          subst he
          split at ha
          · rename_i hag
            split at hfn
            · rename_i fn hfn'
              simp only [Bool.and_eq_true, Bool.not_eq_true'] at hfn
              have hpath : m.path = #[] := by simpa using hp
              have hload := run_loadAt_one (P := P) (t := e') (w := w) (b := r) (o := o) (v := sv) hag hc
              have hload' : (loadVar e' ⟨r, o, none⟩).run P w = .ok sv w := by simpa [Instr.loadAt, Instr.sureAddr] using hload
              have hnil : ∀ (a : Array TypeId) (y : TypeId) (s m : String), Builtin.ssaWrapNilChk_ a y #[.pointer (some ⟨r, o, none⟩), strVal s, strVal m] = pure (.pointer (some ⟨r, o, none⟩)) := fun _ _ _ _ => rfl
              have hmeth : (method (k + 1) t (.pointer (some ⟨r, o, none⟩)) name).run P w = .ok (g, sv) w := by
                simp [method, typeInfo, hi, hm, hpath, follow, hf, receiverAt, run_underlying hu', Place.get, hnil, asAddr, hload']
              have hcall : (callFunc g (#[sv] ++ args)).run P w = .ok (.enter g (#[sv] ++ args)) w := by
                have h1 : (fn.name == "runtime.NumGoroutine") = false := hfn.1
                have h2 : fn.body.isNone = false := hfn.2
                unfold callFunc
                simp only [Sem.run_bind, run_program, Result.andThen_ok, hfn', h1, h2, Bool.false_eq_true, if_false, Sem.run_pure]
              have hext : ((#[Value.iface t (.pointer (some ⟨r, o, none⟩))] ++ args).extract 1 (1 + args.size)) = args := by
                apply Array.ext'
                simp
              have hm2 : (callMethod (.iface t (.pointer (some ⟨r, o, none⟩))) name args).run P w = .ok (.enter g (#[sv] ++ args)) w := by
                simp only [callMethod, Sem.run_bind, run_program, Result.andThen_ok, hk, hmeth, hcall]
              show (invoke (.fn (.method name) #[]) (#[Value.iface t (.pointer (some ⟨r, o, none⟩))] ++ args)).run P w = _
              have h0 : (#[Value.iface t (.pointer (some ⟨r, o, none⟩))] ++ args)[0]? = some (Value.iface t (.pointer (some ⟨r, o, none⟩))) := by
                rw [Array.getElem?_append_left (by simp)]; rfl
              have hsz : (#[Value.iface t (.pointer (some ⟨r, o, none⟩))] ++ args).size = 1 + args.size := by simp
              simp only [invoke, h0, hsz, hext, hm2]
            · cases hfn
          · cases ha
        · cases hu
      · cases h
    · cases h
  · cases h
theorem mruns_deref {F : Blk → Prop} {P : Program} {t : TypeId} {name : String} {f : FuncId} {e : TypeId} (h : derefM P t name f e = true) {rb : Blk} {o : Nat} {sv : Value} {args : Array Value} {bs : List Blk} {k : Nat} {v : List Nat → Value} {out : List Nat → List (Option Blk)}
    (hrb : rb ∈ bs) (hb : rb.base = 0) (hs : rb.cont.get o = some sv) (hR : RunsF F P f (sv :: args.toList) bs k v out) : MRuns F P (invSem (.iface t (.pointer (some ⟨rb.name, o, none⟩))) name args) bs k v out := fun w hw ha hF => by
  have hc := (hw rb hrb).cell o sv hs
  rw [hb, Nat.zero_add] at hc
  refine ⟨f, #[sv] ++ args, run_invoke_deref h hc args, ?_⟩
  have h2 := hR w hw ha hF
  have e : (sv :: args.toList).toArray = #[sv] ++ args := by apply Array.ext'; simp
  rw [e] at h2; exact h2
end Go.Eng
namespace Go.Eng
set_option linter.unusedSimpArgs false
set_option linter.unusedVariables false
set_option maxRecDepth 100000
def pshG {α : Type} (g : Nat → α) (len : Nat) (x z : α) (b nm : Nat) : Nat → α := fun j => if j < len then g j else if j = len then x else if nm = b then g j else z
theorem pshG_K {α β : Type} (K : α → β) (g : Nat → α) (len : Nat) (x z : α) (b nm : Nat) : (fun j => K (pshG g len x z b nm j)) = pshG (fun j => K (g j)) len (K x) (K z) b nm := by
  funext j; unfold pshG; split
  · rfl
  · split
    · rfl
    · split <;> rfl
theorem pshG_lt {α : Type} {g : Nat → α} {len : Nat} {x z : α} {b nm k : Nat} (h : k < len) : pshG g len x z b nm k = g k := if_pos h
theorem pshG_eq {α : Type} {g : Nat → α} {len : Nat} {x z : α} {b nm : Nat} : pshG g len x z b nm len = x := by unfold pshG; rw [if_neg (Nat.lt_irrefl _), if_pos rfl]
section
variable {P : Program} {t ty e : TypeId} {i : TypeInfo} {z : Value} {sz : Nat} {zc : List Value}
theorem srunJ_append (ht : P.underlying t = some (.slice e)) (hi : P.info? e = some i) (hz : i.zero = some z) (hsz : i.size = sz) (hs0 : 0 < sz) (hzc : z.cells.toList = zc) (hzl : zc.length = sz)
    {b len c k bo os cc : Nat} {g : Nat → List Value} {x : List Value} {S : Cont} (hle : len ≤ c) (hg : ∀ k, (g k).length = sz) (hx : x.length = sz) (hS : ∀ j, j < sz → S.get (os + j) = x[j]?) (h1 : x.all Value.oneCell' = true)
    (hb : (len + 1) * i.bytes ≤ 140737488355328) (hb2 : len + 1 ≤ 9223372036854775807) :
    SRuns P (appendSem t ty (.slice (some ⟨b, 0, none⟩) len c) (.slice (some ⟨k, bo + os, none⟩) 1 cc)) [⟨b, true, 0, .tab c sz g⟩, ⟨k, false, bo, S⟩] 2
      (fun ns => .slice (some ⟨ns.getD 0 0, 0, none⟩) (len + 1) (len + 1 + ns.getD 1 0))
      (fun ns => [some ⟨ns.getD 0 0, true, 0, .tab (len + 1 + ns.getD 1 0) sz (pshG g len x zc b (ns.getD 0 0))⟩, some ⟨k, false, bo, S⟩]) := by
  intro w hall ha
  have hA : Holds ⟨b, true, 0, .tab c sz g⟩ w := hall _ (by simp)
  have hK : Holds ⟨k, false, bo, S⟩ w := hall _ (by simp)
  have hnews : ∀ j u, x[j]? = some u → w.cell? ((⟨k, bo + os, none⟩ : Addr).add j) = some u := fun j u hj => by
    have hjn : j < sz := by rw [← hx]; exact (List.getElem?_eq_some_iff.1 hj).1
    rw [add_none, Nat.add_assoc]
    exact hK.cell _ _ (by rw [hS j hjn, hj])
  have hone : ∀ u ∈ x, u.oneCell' = true := List.all_eq_true.1 h1
  have hm : ∀ p c', listMem [some ⟨b, true, 0, .tab c sz g⟩, some ⟨k, false, bo, S⟩] p = some c' → Holds c' w := fun p c' hc => hall c' (List.mem_of_getElem? (listMem_some (l := [⟨b, true, 0, .tab c sz g⟩, ⟨k, false, bo, S⟩]).1 hc))
  have hpl : ∀ nm k, (pshG g len x zc b nm k).length = sz := fun nm k => by unfold pshG; split; exact hg _; split; exact hx; split; exact hg _; exact hzl
  have hdm : ∀ o, len * sz ≤ o → o < len * sz + sz → o / sz = len ∧ o % sz = o - len * sz := fun o h1 h2 => by
    have e : o = sz * len + (o - len * sz) := by rw [Nat.mul_comm]; omega
    constructor
    · rw [e, Nat.mul_add_div hs0, Nat.div_eq_of_lt (by omega), Nat.add_zero]
    · rw [e, Nat.mul_add_mod, Nat.mod_eq_of_lt (by omega)]; rw [Nat.mul_comm sz len]; omega
  have hdlt : ∀ o, o < len * sz → o / sz < len := fun o h => div_lt_row h
  have hdgt : ∀ o, len * sz + sz ≤ o → len < o / sz := fun o h => by
    rw [Nat.lt_iff_add_one_le, Nat.le_div_iff_mul_le hs0, Nat.add_mul, Nat.one_mul]; exact h
  have hcf : ∀ o nm, cf sz (pshG g len x zc b nm) o = if o < len * sz then cf sz g o else if o < len * sz + sz then x.getD (o - len * sz) undef else if nm = b then cf sz g o else zc.getD (o % sz) undef := fun o nm => by
    unfold cf pshG
    by_cases h2 : o < len * sz
    · rw [if_pos (hdlt o h2), if_pos h2]
    · by_cases h3 : o < len * sz + sz
      · obtain ⟨e1, e2⟩ := hdm o (by omega) h3
        rw [if_neg (by omega), if_pos e1, if_neg h2, if_pos h3, e2]
      · have := hdgt o (by omega)
        rw [if_neg (by omega), if_neg (by omega), if_neg h2, if_neg h3]
        split <;> rfl
  have hadd : (len + 1) * sz = len * sz + sz := Nat.succ_mul _ _
  by_cases hr : len + 1 ≤ c
  ·
    have hle2 : len * sz + sz ≤ c * sz := by rw [← hadd]; exact Nat.mul_le_mul_right _ hr
    have hget : ∀ j, j < sz → ∃ u, (Cont.tab c sz g).get (len * sz + j) = some u := fun j hj => ⟨_, tabE_in hs0 (fun k _ => hg k) (by omega)⟩
    have hrun := run_append_room_cells (P := P) w t ty e i ht hi b 0 len c ⟨k, bo + os, none⟩ 1 cc x (by simp [hsz, hx]) hnews hone (by omega)
      (fun j hj => by
        obtain ⟨u, hu⟩ := hget j (by omega)
        have := hA.cell _ _ hu
        rw [show 0 + len * i.size + j = 0 + (len * sz + j) by rw [hsz]; omega, this]; rfl)
      (fun j hj => by
        obtain ⟨u, hu⟩ := hget j (by omega)
        have := hA.free rfl _ _ hu
        rw [show 0 + len * i.size + j = 0 + (len * sz + j) by rw [hsz]; omega]; exact this)
    have hrun2 : (Builtin.append_ #[t, t] ty #[.slice (some ⟨b, 0, none⟩) len c, .slice (some ⟨k, bo + os, none⟩) 1 cc]).run P w = .ok (.slice (some ⟨b, 0, none⟩) (len + 1) (len + 1 + (c - len - 1))) (w.setCells b (0 + len * i.size) x) := by
      rw [show len + 1 + (c - len - 1) = c by omega]; exact hrun
    refine ⟨[b, c - len - 1], _, rfl, .inl (run_value hrun2), ?_⟩
    have hp := post_cells (m := listMem [some ⟨b, true, 0, .tab c sz g⟩, some ⟨k, false, bo, S⟩]) (w := w) (p := 0) (b := ⟨b, true, 0, .tab c sz g⟩) (o0 := len * sz) (cs := x)
      (c := .tab c sz (pshG g len x zc b b)) hm ha rfl rfl rfl (fun j hj => hget j (by omega)) (fun j => by
        rw [hx]
        by_cases hj : j < c * sz
        · rw [tabE_in hs0 (fun k _ => hpl b k) hj, hcf]
          by_cases h2 : j < len * sz
          · rw [if_pos h2, if_neg (by omega), tabE_in hs0 (fun k _ => hg k) hj]
          · by_cases h3 : j < len * sz + sz
            · rw [if_neg h2, if_pos h3, if_pos (by omega), List.getD_eq_getElem?_getD, List.getElem?_eq_getElem (by omega)]; rfl
            · rw [if_neg h2, if_neg h3, if_pos rfl, if_neg (by omega), tabE_in hs0 (fun k _ => hg k) hj]
        · rw [tabE_out hj, if_neg (by omega), tabE_out hj])
    rw [listMem_set0] at hp
    have e1 : len + 1 + (c - len - 1) = c := by omega
    simpa [hsz, e1] using hp
  ·
    have hce : c = len := by omega
    subst hce
    have hgr : c < c + 1 := by omega
    have hrun := run_append_grow (P := P) w t ty e i z ht hi hz ⟨b, 0, none⟩ c c ((List.range (c * sz)).map (cf sz g)) (by simp [hsz])
      (fun j v hj => by
        obtain ⟨hjn, rfl⟩ := map_range_get hj
        rw [add_none, Nat.zero_add]
        have := hA.cell j (cf sz g j) (tabE_in hs0 (fun k _ => hg k) hjn)
        rw [Nat.zero_add] at this; exact this)
      ⟨k, bo + os, none⟩ 1 cc x (by simp [hsz, hx]) hnews hgr (by omega) (growslice_fits hgr hb)
    have hge := grownCap_ge w (c + 1) c e
    obtain ⟨q, hq⟩ : ∃ q, grownCap w (c + 1) c e = c + 1 + q := ⟨_, (Nat.add_sub_cancel' hge).symm⟩
    rw [hq] at hrun
    refine ⟨[w.heap.size, q], _, rfl, .inl (run_value hrun), ?_⟩
    have hp0 := Post.drew hm ha
    have hp := hp0.trans (post_new hp0.holds hp0.apart 0 (((List.range (c * sz)).map (cf sz g)).toArray ++ x.toArray ++ Builtin.zeroCells z.cells (c + 1 + q - (c + 1))) e)
    rw [show w.drew.heap.size = w.heap.size from rfl, listMem_set0] at hp
    have hnb : ¬ w.heap.size = b := fun h => by have := hA.lt; simp only at this; omega
    have hc : ∀ o v, (Cont.tab (c + 1 + q) sz (pshG g c x zc b w.heap.size)).get o = some v →
        (Cont.lit (((List.range (c * sz)).map (cf sz g)).toArray ++ x.toArray ++ Builtin.zeroCells z.cells (c + 1 + q - (c + 1))).toList).get o = some v := fun o v ho => by
      rw [show c + 1 + q - (c + 1) = q by omega]
      simp only [Cont.get, Array.toList_append, List.append_assoc]
      have hall3 : (c + 1 + q) * sz = c * sz + sz + q * sz := by rw [Nat.add_mul, Nat.add_mul, Nat.one_mul]
      by_cases h0 : o < (c + 1 + q) * sz
      · rw [tabE_in hs0 (fun k _ => hpl _ k) h0, hcf] at ho
        by_cases h2 : o < c * sz
        · rw [if_pos h2] at ho
          rw [List.getElem?_append_left (by simp; exact h2), List.getElem?_map, List.getElem?_range h2]; exact ho
        · rw [if_neg h2] at ho
          rw [List.getElem?_append_right (by simp; omega)]
          simp only [List.length_map, List.length_range]
          by_cases h3 : o < c * sz + sz
          · rw [if_pos h3, List.getD_eq_getElem?_getD, List.getElem?_eq_getElem (by omega)] at ho
            rw [List.getElem?_append_left (by omega)]
            rw [List.getElem?_eq_getElem (by omega)]; exact ho
          · rw [if_neg h3, if_neg hnb] at ho
            rw [List.getElem?_append_right (by omega)]
            simp only [hx]
            rw [zeroCells_many hzc q _ (by rw [hzl]; omega), ← ho, hzl]
            rw [show o - c * sz - sz = o - sz * (c + 1) by rw [Nat.mul_comm sz, hadd]; omega, Nat.sub_mul_mod]
            rw [Nat.mul_comm, hadd]; omega
      · rw [tabE_out h0] at ho; cases ho
    have hN := (hp.holds 0 _ rfl).recont rfl hc
    refine ⟨fun p d hpc => ?_, fun p p' d d' hpp hc1 hd ho => ?_, ⟨hp.adv.os, hp.adv.output, hp.adv.tape, hp.adv.size, hp.adv.heap, fun j hj => ?_, fun p d hpc ho => ?_⟩⟩
    · rcases p with _ | _ | p
      · injection hpc with hpc; subst hpc; exact hN
      · injection hpc with hpc; subst hpc; exact hp.holds 1 _ rfl
      · simp [listMem] at hpc
    · rcases p with _ | _ | p
      · injection hc1 with hc1; subst hc1
        rcases p' with _ | _ | p'
        · exact absurd rfl hpp
        · injection hd with hd; subst hd
          have h01 := hp.apart 0 1 _ _ (by omega) rfl rfl rfl
          exact h01
        · simp [listMem] at hd
      · injection hc1 with hc1; subst hc1; cases ho
      · simp [listMem] at hc1
    · obtain ⟨p, d, hpc, ho, rfl⟩ := hj
      rcases p with _ | _ | p
      · injection hpc with hpc; subst hpc
        exact .inr (Nat.le_refl _)
      · injection hpc with hpc; subst hpc; cases ho
      · simp [listMem] at hpc
    · rcases p with _ | _ | p
      · injection hpc with hpc; subst hpc; cases ho
      · exact hpc
      · simp [listMem] at hpc
theorem mkJ_append {B : Nat} (ht : P.underlying t = some (.slice e)) (h1 : AggC P e zc sz B) (b len c k bo os cc : Nat) {α : Type} (K : α → List Value) (hK : ∀ a, (K a).length = sz ∧ (K a).all Value.oneCell' = true) (g : Nat → α) (x z0 : α) (hz0 : K z0 = zc) (S : Cont)
    (hS : ∀ j, j < sz → S.get (os + j) = (K x)[j]?) (hle : len ≤ c) (hb : (len + 1) * B ≤ 140737488355328 ∧ len + 1 ≤ 9223372036854775807) :
    SRuns P (appendSem t ty (.slice (some ⟨b, 0, none⟩) len c) (.slice (some ⟨k, bo + os, none⟩) 1 cc)) [⟨b, true, 0, .tab c sz fun k => K (g k)⟩, ⟨k, false, bo, S⟩] 2
      (fun ns => .slice (some ⟨ns.getD 0 0, 0, none⟩) (len + 1) (len + 1 + ns.getD 1 0))
      (fun ns => [some ⟨ns.getD 0 0, true, 0, .tab (len + 1 + ns.getD 1 0) sz fun k => K (pshG g len x z0 b (ns.getD 0 0) k)⟩, some ⟨k, false, bo, S⟩]) := by
  obtain ⟨i, z, hi, hz, hsz, hB, hzc, hzl, hs0⟩ := h1
  subst hB
  have := srunJ_append (P := P) (t := t) (ty := ty) ht hi hz hsz hs0 hzc hzl (b := b) (len := len) (c := c) (k := k) (bo := bo) (os := os) (cc := cc) (g := fun k => K (g k)) (x := K x) (S := S) hle (fun _ => (hK _).1) (hK x).1 hS (hK x).2 hb.1 hb.2
  simp only [pshG_K, hz0]
  exact this
theorem mkJ_append_nil {B : Nat} (ht : P.underlying t = some (.slice e)) (h1 : AggC P e zc sz B) (k bo os cc : Nat) {α : Type} (K : α → List Value) (hK : ∀ a, (K a).length = sz ∧ (K a).all Value.oneCell' = true) (x z0 : α) (hz0 : K z0 = zc) (S : Cont)
    (hS : ∀ j, j < sz → S.get (os + j) = (K x)[j]?) (hb : 1 * B ≤ 140737488355328) :
    SRuns P (appendSem t ty (.slice none 0 0) (.slice (some ⟨k, bo + os, none⟩) 1 cc)) [⟨k, false, bo, S⟩] 2
      (fun ns => .slice (some ⟨ns.getD 0 0, 0, none⟩) 1 (1 + ns.getD 1 0))
      (fun ns => [some ⟨k, false, bo, S⟩, some ⟨ns.getD 0 0, true, 0, .tab (1 + ns.getD 1 0) sz fun k => K (pshG (fun _ => z0) 0 x z0 0 0 k)⟩]) := by
  have h2 := mkE_append_nil (P := P) (t := t) (ty := ty) (e := e) ht h1 k bo os 1 cc K hK (fun _ => x) S (fun j hj => by
    obtain ⟨i, z, hi, hz, hsz, hB, hzc, hzl, hs0⟩ := h1
    have hj' : j < sz := by omega
    rw [hS j hj']
    unfold cf
    rw [Nat.mod_eq_of_lt hj', List.getD_eq_getElem?_getD, List.getElem?_eq_getElem (by rw [(hK x).1]; exact hj')]
    rfl) ⟨by omega, hb, by omega⟩
  have e : ∀ c, sprE sz c 1 (fun k => K x) zc = .tab c sz fun k => K (pshG (fun _ => z0) 0 x z0 0 0 k) := fun c => by
    unfold sprE
    congr 1
    funext k
    unfold pshG
    by_cases hk : k = 0
    · subst hk; rfl
    · rw [if_neg (by omega), if_neg (by omega), if_neg hk]; exact hz0.symm
  simp only [e] at h2
  exact h2
end
section
variable {P : Program} {t t' : TypeId} {x y : Operand}
theorem is_half (j : Nat) (h : j ≤ 9223372036854775807) : IsOp P (.binOp .quo t x y t') [int ((j : Int) - ((1 : Nat) : Int)), int 2] (nat ((j - 1) / 2)) := isOp_bin guard_int (by
  show pureRun P (Op.intDiv .quo .i64 ((j : Int) - ((1 : Nat) : Int)) (2 : Int)) = _
  unfold Op.intDiv
  rw [if_neg (by omega)]
  show some (Value.int .i64 (IntKind.i64.wrap (((j : Int) - ((1 : Nat) : Int)).tdiv 2))) = _
  have e : ((j : Int) - ((1 : Nat) : Int)).tdiv 2 = (((j - 1) / 2 : Nat) : Int) := by
    rcases Nat.eq_zero_or_pos j with h0 | h0
    · subst h0; rfl
    · rw [Int.tdiv_eq_ediv_of_nonneg (by omega)]; omega
  rw [e]
  generalize he : (j - 1) / 2 = q
  rw [wrap_i64 _ (by omega)]; rfl)
end
theorem store_tabK {sz n : Nat} {α : Type} (K : α → List Value) (hK : ∀ a, (K a).length = sz) (f : Nat → α) (i : Nat) (v : α) : (Cont.tab n sz fun k => K (f k)).store (.tab i 0) (K v) = some (.tab n sz fun k => K (upd f i v k)) := by
  simp only [Cont.store, hK, Nat.zero_add]
  have e1 : Nat.ble sz sz = true := by simp
  simp only [e1, Nat.beq_refl, Bool.and_self]
  congr 2
  funext k
  unfold upd
  by_cases h : k = i
  · subst h; rw [if_pos rfl, if_pos rfl]; unfold splice; simp [hK, List.drop_eq_nil_of_le]
  · rw [if_neg h, if_neg h]
theorem get_lit {l : List Value} (o : Nat) : (Cont.lit l).get (0 + o) = l[o]? := by rw [Nat.zero_add]; rfl
section
variable {α : Type} {lt : α → α → Bool}
theorem push_ok (h : SWO lt) {f g : Nat → α} {n : Nat} {x : α} (hp : HpB lt 0 f n) (hg : ∀ k, k < n → g k = f k) (hx : g n = x) : HpB lt 0 (upF lt g n) (n + 1) ∧ (∀ S, En f n S → ¬ S x → En (upF lt g n) (n + 1) fun y => S y ∨ y = x) ∧ ∀ k, n + 1 ≤ k → upF lt g n k = g k := by
  obtain ⟨h1, h2, h3⟩ := upF_ok h (n := n + 1) n g (by omega) ⟨fun k h0 hk hkn => by rw [hg k (by omega), hg ((k - 1) / 2) (by omega)]; exact hp k h0 (by omega) (Nat.zero_le _), fun k h0 hk e => by omega⟩
  refine ⟨h1, fun S hS hn => h2 _ ((hS.push hn).congr fun k hk => ?_), h3⟩
  unfold catU
  by_cases hk2 : k < n
  · rw [if_pos hk2]; exact hg k hk2
  · rw [if_neg hk2, show k = n by omega]; exact hx
theorem up_end {F : Nat → α} {j : Nat} (h : selB (decide ((j - 1) / 2 = j)) true (!(lt (F j) (F ((j - 1) / 2)))) = true) : j = 0 ∨ lt (F j) (F ((j - 1) / 2)) = false := by
  cases hb : lt (F j) (F ((j - 1) / 2)) with
  | false => exact .inr rfl
  | true =>
    rw [hb] at h
    by_cases e : (j - 1) / 2 = j
    · exact .inl (by omega)
    · simp [selB, e] at h
theorem up_step {F f : Nat → α} {j j0 n : Nat} (B0 : j < n) (B1 : upF lt F j = upF lt f j0) (h : selB (decide ((j - 1) / 2 = j)) true (!(lt (F j) (F ((j - 1) / 2)))) = false) :
    ((j - 1) / 2 < n ∧ upF lt (swp F ((j - 1) / 2) j) ((j - 1) / 2) = upF lt f j0) ∧ (j - 1) / 2 < j := by
  have e : ¬ (j - 1) / 2 = j := fun e => by simp [selB, e] at h
  have hl : lt (F j) (F ((j - 1) / 2)) = true := by
    cases hb : lt (F j) (F ((j - 1) / 2)) with
    | true => rfl
    | false => rw [hb] at h; simp [selB, e] at h
  refine ⟨⟨by omega, ?_⟩, by omega⟩
  rw [← upF_go (by omega) hl]; exact B1
theorem dn_none {F f : Nat → α} {i i0 m : Nat} (B1 : dnF lt m F i = dnF lt m f i0) (h : m ≤ 2 * i + 1) : dnF lt m f i0 = (F, i) := by
  rw [← B1]; exact dnF_end (.inl h)
theorem dn_r {F f : Nat → α} {i i0 m : Nat} (B1 : dnF lt m F i = dnF lt m f i0) (h2 : selB (decide (2 * i + 1 + 1 < m)) (lt (F (2 * i + 1 + 1)) (F (2 * i + 1))) false = true) (h3 : (!(lt (F (2 * i + 1 + 1)) (F i))) = true) : dnF lt m f i0 = (F, i) := by
  rw [← B1]
  refine dnF_end (.inr ?_)
  have : pick lt m F i = 2 * i + 2 := by
    unfold pick; rw [if_pos]
    by_cases e : 2 * i + 1 + 1 < m
    · simp [selB, e] at h2; exact ⟨e, h2⟩
    · simp [selB, e] at h2
  rw [this]; simpa using h3
theorem dn_l {F f : Nat → α} {i i0 m : Nat} (B1 : dnF lt m F i = dnF lt m f i0) (h2 : selB (decide (2 * i + 1 + 1 < m)) (lt (F (2 * i + 1 + 1)) (F (2 * i + 1))) false = false) (h3 : (!(lt (F (2 * i + 1)) (F i))) = true) : dnF lt m f i0 = (F, i) := by
  rw [← B1]
  refine dnF_end (.inr ?_)
  have : pick lt m F i = 2 * i + 1 := by
    unfold pick; rw [if_neg]
    rintro ⟨e, e2⟩
    have e : 2 * i + 1 + 1 < m := e
    have e2 : lt (F (2 * i + 1 + 1)) (F (2 * i + 1)) = true := e2
    simp [selB, e, e2] at h2
  rw [this]; simpa using h3
theorem dn_step_r {F f : Nat → α} {i i0 m n : Nat} (hm : m ≤ n) (hn : n ≤ 1000000) (B0 : i ≤ 1000000) (B1 : dnF lt m F i = dnF lt m f i0) (h0 : 2 * i + 1 < m) (h2 : selB (decide (2 * i + 1 + 1 < m)) (lt (F (2 * i + 1 + 1)) (F (2 * i + 1))) false = true) (h3 : (!(lt (F (2 * i + 1 + 1)) (F i))) = false) :
    (2 * i + 1 + 1 ≤ 1000000 ∧ dnF lt m (swp F i (2 * i + 1 + 1)) (2 * i + 1 + 1) = dnF lt m f i0) ∧ 1000000 - (2 * i + 1 + 1) < 1000000 - i := by
  by_cases e : 2 * i + 1 + 1 < m
  · have e2 : lt (F (2 * i + 1 + 1)) (F (2 * i + 1)) = true := by simpa [selB, e] using h2
    have hp : pick lt m F i = 2 * i + 1 + 1 := by unfold pick; exact if_pos ⟨e, e2⟩
    refine ⟨⟨by omega, ?_⟩, by omega⟩
    have := dnF_go (lt := lt) (f := F) h0 (by rw [hp]; simpa using h3)
    rw [hp] at this; rw [← this]; exact B1
  · simp [selB, e] at h2
theorem dn_step_l {F f : Nat → α} {i i0 m n : Nat} (hm : m ≤ n) (hn : n ≤ 1000000) (B0 : i ≤ 1000000) (B1 : dnF lt m F i = dnF lt m f i0) (h0 : 2 * i + 1 < m) (h2 : selB (decide (2 * i + 1 + 1 < m)) (lt (F (2 * i + 1 + 1)) (F (2 * i + 1))) false = false) (h3 : (!(lt (F (2 * i + 1)) (F i))) = false) :
    (2 * i + 1 ≤ 1000000 ∧ dnF lt m (swp F i (2 * i + 1)) (2 * i + 1) = dnF lt m f i0) ∧ 1000000 - (2 * i + 1) < 1000000 - i := by
  have hp : pick lt m F i = 2 * i + 1 := by
    unfold pick; rw [if_neg]
    rintro ⟨e, e2⟩
    have e : 2 * i + 1 + 1 < m := e
    have e2 : lt (F (2 * i + 1 + 1)) (F (2 * i + 1)) = true := e2
    simp [selB, e, e2] at h2
  refine ⟨⟨by omega, ?_⟩, by omega⟩
  have := dnF_go (lt := lt) (f := F) h0 (by rw [hp]; simpa using h3)
  rw [hp] at this; rw [← this]; exact B1
end
end Go.Eng
end
section
namespace Go.Eng
theorem upd_at {α : Type} (f : Nat → α) (i : Nat) (v : α) : upd f i v i = v := if_pos rfl
theorem store_tabP {sz n off : Nat} {α : Type} (K : α → List Value) (f : Nat → α) (i : Nat) (y : α) (cs : List Value) (h1 : (Nat.ble (off + cs.length) sz && Nat.beq (K (f i)).length sz) = true) (h : splice (K (f i)) off cs = K y) :
    (Cont.tab n sz fun k => K (f k)).store (.tab i off) cs = some (.tab n sz fun k => K (upd f i y k)) := by
  simp only [Cont.store, h1]
  congr 2
  funext k
  unfold upd
  by_cases hk : k = i
  · subst hk; rw [if_pos rfl, if_pos rfl]; exact h
  · rw [if_neg hk, if_neg hk]
set_option linter.unusedVariables false
set_option linter.unusedSimpArgs false
set_option maxRecDepth 100000
section
variable {α : Type} {lt : α → α → Bool}
theorem dnF_still {n : Nat} : ∀ (m : Nat) (f : Nat → α) (i : Nat), n ≤ m + i → i ≤ (dnF lt n f i).2 ∧ ((dnF lt n f i).2 = i → (dnF lt n f i).1 = f)
  | m, f, i, hm => by
    by_cases he : n ≤ 2 * i + 1 ∨ lt (f (pick lt n f i)) (f i) = false
    · rw [dnF_end he]; exact ⟨Nat.le_refl _, fun _ => rfl⟩
    · have hi : 2 * i + 1 < n := by omega
      have hl : lt (f (pick lt n f i)) (f i) = true := by
        cases hb : lt (f (pick lt n f i)) (f i) with
        | true => rfl
        | false => exact absurd (.inr hb) he
      obtain ⟨g1, g2, g3⟩ := pick_gt (lt := lt) n f i
      have g2 := g2 hi
      rw [dnF_go hi hl]
      match m, hm with
      | 0, hm => omega
      | m + 1, hm =>
        have h1 := (dnF_still (n := n) m (swp f i (pick lt n f i)) (pick lt n f i) (by omega)).1
        exact ⟨by omega, fun e => by omega⟩
def remF (lt : α → α → Bool) (f : Nat → α) (n i : Nat) : Nat → α :=
  if n = i then f else if i < (dnF lt n (swp f i n) i).2 then (dnF lt n (swp f i n) i).1 else upF lt (dnF lt n (swp f i n) i).1 i
theorem remF_same {f : Nat → α} {n i : Nat} (h : n = i) : remF lt f n i = f := if_pos h
theorem remF_dn {f : Nat → α} {n i : Nat} (h : ¬ n = i) (h2 : i < (dnF lt n (swp f i n) i).2) : remF lt f n i = (dnF lt n (swp f i n) i).1 := by unfold remF; rw [if_neg h, if_pos h2]
theorem remF_up {f : Nat → α} {n i : Nat} (h : ¬ n = i) (h2 : ¬ i < (dnF lt n (swp f i n) i).2) : remF lt f n i = upF lt (dnF lt n (swp f i n) i).1 i := by unfold remF; rw [if_neg h, if_neg h2]
theorem remF_ok (h : SWO lt) {f : Nat → α} {n i : Nat} (hp : HpB lt 0 f (n + 1)) (hi : i < n + 1) :
    HpB lt 0 (remF lt f n i) n ∧ remF lt f n i n = f i ∧ ∀ S, En f (n + 1) S → En (remF lt f n i) n fun y => S y ∧ y ≠ f i := by
  unfold remF
  by_cases e : n = i
  · subst e
    rw [if_pos rfl]
    exact ⟨fun k h0 hk hb => hp k h0 (by omega) hb, rfl, fun S hS => hS.pop⟩
  · rw [if_neg e]
    have hin : i < n := by omega
    have ho : ∀ x, x ≠ i → x ≠ n → swp f i n x = f x := fun x h1 h2 => swp_o f h1 h2
    have hgi : swp f i n i = f n := swp_i _ _ _
    have hgn : swp f i n n = f i := swp_k _ _ _
    have hS' : ∀ S, En f (n + 1) S → En (swp f i n) (n + 1) S := fun S hS => hS.swp hi (by omega)
    by_cases hm : i < (dnF lt n (swp f i n) i).2
    · rw [if_pos hm]
      have hmv : 2 * i + 1 < n ∧ lt (swp f i n (pick lt n (swp f i n) i)) (swp f i n i) = true := by
        by_cases he : n ≤ 2 * i + 1 ∨ lt (swp f i n (pick lt n (swp f i n) i)) (swp f i n i) = false
        · rw [dnF_end he] at hm; exact absurd hm (Nat.lt_irrefl _)
        · refine ⟨by omega, ?_⟩
          cases hb : lt (swp f i n (pick lt n (swp f i n) i)) (swp f i n i) with
          | true => rfl
          | false => exact absurd (.inr hb) he
      obtain ⟨g1, g2, g3⟩ := pick_gt (lt := lt) n (swp f i n) i
      have g2 := g2 hmv.1
      have hpar : 0 < i → lt (f n) (f ((i - 1) / 2)) = false := fun h0 => by
        cases hb : lt (f n) (f ((i - 1) / 2)) with
        | false => rfl
        | true =>
          have h1 := hmv.2
          rw [hgi, ho _ (by omega) (by omega)] at h1
          have h2 := h.tr _ _ _ h1 hb
          have h4 := hp (pick lt n (swp f i n) i) (by omega) (by omega) (Nat.zero_le _)
          rw [g3] at h4
          have h3 := h.neg _ _ _ h4 (hp i h0 (by omega) (Nat.zero_le _))
          rw [h2] at h3; cases h3
      have hD : HpD lt 0 (swp f i n) n i := by
        refine ⟨fun k h0 hk _ hkp => ?_, fun h0 _ k hk0 hk hkp => ?_⟩
        · by_cases e2 : k = i
          · subst e2; rw [hgi, ho _ (by omega) (by omega)]; exact hpar h0
          · rw [ho k e2 (by omega), ho _ hkp (by omega)]; exact hp k h0 (by omega) (Nat.zero_le _)
        · rw [ho k (by omega) (by omega), ho _ (by omega) (by omega)]
          exact h.neg _ _ _ (hkp ▸ hp k hk0 (by omega) (Nat.zero_le _)) (hp i h0 (by omega) (Nat.zero_le _))
      obtain ⟨h1, h2, h3, _⟩ := dnF_ok h n i (swp f i n) (by omega) hD
      have e3 : (dnF lt n (swp f i n) i).1 n = f i := (h3 n (Nat.le_refl _)).trans hgn
      refine ⟨h1, e3, fun S hS => ?_⟩
      have := (h2 (n + 1) S (by omega) (hS' S hS)).pop
      rw [e3] at this; exact this
    · rw [if_neg hm, (dnF_still (lt := lt) (n := n) n (swp f i n) i (by omega)).2 (by have := (dnF_still (lt := lt) (n := n) n (swp f i n) i (by omega)).1; omega)]
      have hst : n ≤ 2 * i + 1 ∨ lt (swp f i n (pick lt n (swp f i n) i)) (swp f i n i) = false := by
        by_cases he : n ≤ 2 * i + 1 ∨ lt (swp f i n (pick lt n (swp f i n) i)) (swp f i n i) = false
        · exact he
        · exfalso
          have hl : lt (swp f i n (pick lt n (swp f i n) i)) (swp f i n i) = true := by
            cases hb : lt (swp f i n (pick lt n (swp f i n) i)) (swp f i n i) with
            | true => rfl
            | false => exact absurd (.inr hb) he
          have hg := dnF_go (f := swp f i n) (show 2 * i + 1 < n by omega) hl
          have h5 := (dnF_still (lt := lt) (n := n) n (swp (swp f i n) i (pick lt n (swp f i n) i)) (pick lt n (swp f i n) i) (by omega)).1
          have h6 := (pick_gt (lt := lt) n (swp f i n) i).1
          rw [hg] at hm; omega
      have hU : HpU lt (swp f i n) n i := by
        refine ⟨fun k h0 hk hki => ?_, fun k h0 hk hkp h0i => ?_⟩
        · by_cases e2 : (k - 1) / 2 = i
          · rcases hst with hst | hst
            · omega
            · rw [e2]
              exact h.neg _ _ _ (pick_least h h0 hk e2) hst
          · rw [ho k hki (by omega), ho _ e2 (by omega)]; exact hp k h0 (by omega) (Nat.zero_le _)
        · rw [ho k (by omega) (by omega), ho _ (by omega) (by omega)]
          exact h.neg _ _ _ (hkp ▸ hp k h0 (by omega) (Nat.zero_le _)) (hp i h0i (by omega) (Nat.zero_le _))
      obtain ⟨h1, h2, h3⟩ := upF_ok h (n := n) i (swp f i n) hin hU
      refine ⟨h1, (h3 n (Nat.le_refl _)).trans hgn, fun S hS => ?_⟩
      have := (hS' S hS).pop
      rw [hgn] at this
      exact h2 _ this
structure StdG (lt : α → α → Bool) (F : Nat → α) (n : Nat) (L : List α) : Prop where
  hp : HpB lt 0 F n
  en : En F n (· ∈ L)
  up : L.Pairwise fun x y => lt x y = true
  len : L.length = n
theorem StdG.none {F : Nat → α} : StdG lt F 0 [] := ⟨fun k _ h => absurd h (Nat.not_lt_zero k), En.none.iff fun x => by simp, List.Pairwise.nil, rfl⟩
theorem StdG.push (h : SWO lt) {F g : Nat → α} {n : Nat} {L : List α} {x : α} (hs : StdG lt F n L) (hg : ∀ k, k < n → g k = F k) (hx : g n = x) (hn : ∀ y ∈ L, lt y x = true) : StdG lt (upF lt g n) (n + 1) (L ++ [x]) := by
  obtain ⟨h1, h2, _⟩ := push_ok h hs.hp hg hx
  refine ⟨h1, (h2 _ hs.en fun hm => ?_).iff fun y => by simp, List.pairwise_append.2 ⟨hs.up, by simp, fun a ha b hb => by rw [List.mem_singleton.1 hb]; exact hn a ha⟩, by simp [hs.len]⟩
  have := hn x hm; rw [h.irr] at this; cases this
theorem StdG.pop (h : SWO lt) {F : Nat → α} {n : Nat} {x : α} {L : List α} (hs : StdG lt F n (x :: L)) : 0 < n ∧ F 0 = x ∧ popF lt F (n - 1) (n - 1) = x ∧ StdG lt (popF lt F (n - 1)) (n - 1) L := by
  have hl := hs.len
  simp only [List.length_cons] at hl
  obtain ⟨m, rfl⟩ : ∃ q, n = q + 1 := ⟨n - 1, by omega⟩
  simp only [Nat.add_sub_cancel]
  obtain ⟨h1, h2, h3, h4⟩ := popF_ok h hs.hp
  have hu := List.pairwise_cons.1 hs.up
  have e : F 0 = x := by
    have hm := hs.en.mem 0 (by omega)
    rcases List.mem_cons.1 hm with hm | hm
    · exact hm
    · obtain ⟨k, hk, e⟩ := hs.en.sur x (by simp)
      have := h4 k hk
      rw [e, hu.1 _ hm] at this; cases this
  refine ⟨by omega, e, h2.trans e, ⟨h1, (h3 _ hs.en).iff fun y => ?_, hu.2, by omega⟩⟩
  rw [e]
  constructor
  · intro hy
    refine ⟨List.mem_cons_of_mem _ hy, fun e => ?_⟩
    subst e
    have := hu.1 _ hy
    rw [h.irr] at this; cases this
  · rintro ⟨hy, hne⟩
    rcases List.mem_cons.1 hy with hy | hy
    · exact absurd hy hne
    · exact hy
theorem up_mid (h : SWO lt) {A B : List α} {x : α} (hu : (A ++ x :: B).Pairwise fun x y => lt x y = true) : ∀ y, (y ∈ A ∨ y ∈ B) ↔ (y ∈ A ++ x :: B ∧ y ≠ x) := fun y => by
  obtain ⟨h1, h2, h3⟩ := List.pairwise_append.1 hu
  have h4 := List.pairwise_cons.1 h2
  constructor
  · rintro (hy | hy)
    · refine ⟨by simp [hy], fun e => ?_⟩
      subst e
      have := h3 y hy y (by simp); rw [h.irr] at this; cases this
    · refine ⟨by simp [hy], fun e => ?_⟩
      subst e
      have := h4.1 y hy; rw [h.irr] at this; cases this
  · rintro ⟨hy, hne⟩
    simp only [List.mem_append, List.mem_cons] at hy
    rcases hy with hy | hy | hy
    · exact .inl hy
    · exact absurd hy hne
    · exact .inr hy
theorem StdG.rem (h : SWO lt) {F : Nat → α} {n i : Nat} {x : α} {A B : List α} (hs : StdG lt F n (A ++ x :: B)) (hi : i < n) (hx : F i = x) : StdG lt (remF lt F (n - 1) i) (n - 1) (A ++ B) := by
  have hl := hs.len
  simp only [List.length_append, List.length_cons] at hl
  obtain ⟨m, rfl⟩ : ∃ q, n = q + 1 := ⟨n - 1, by omega⟩
  simp only [Nat.add_sub_cancel]
  obtain ⟨h1, h2, h3⟩ := remF_ok h hs.hp hi
  refine ⟨h1, (h3 _ hs.en).iff fun y => ?_, ?_, by simp; omega⟩
  · rw [hx, List.mem_append]; exact up_mid h hs.up y
  · refine hs.up.sublist ?_
    exact List.Sublist.append (List.Sublist.refl _) (List.sublist_cons_self _ _)
theorem StdG.set (h : SWO lt) {F : Nat → α} {n i : Nat} {x y : α} {A B : List α} (hs : StdG lt F n (A ++ x :: B)) (hi : i < n) (hx : F i = x) (h1 : ∀ z, lt z y = lt z x) (h2 : ∀ z, lt y z = lt x z) : StdG lt (upd F i y) n (A ++ y :: B) := by
  have hu := hs.up
  obtain ⟨u1, u2, u3⟩ := List.pairwise_append.1 hu
  have u4 := List.pairwise_cons.1 u2
  have hg : ∀ a b : Nat, lt (upd F i y a) (upd F i y b) = lt (F a) (F b) := fun a b => by
    unfold upd
    by_cases ha : a = i <;> by_cases hb : b = i
    · rw [if_pos ha, if_pos hb, ha, hb, hx, h1, h2]
    · rw [if_pos ha, if_neg hb, ha, hx, h2]
    · rw [if_neg ha, if_pos hb, hb, hx, h1]
    · rw [if_neg ha, if_neg hb]
  have hyn : ∀ z, z ∈ A ∨ z ∈ B → z ≠ y := fun z hz e => by
    subst e
    rcases hz with hz | hz
    · have := u3 z hz x (by simp); rw [h2] at this; rw [h.irr] at this; cases this
    · have := u4.1 z hz; rw [h1, h.irr] at this; cases this
  refine ⟨fun k h0 hk hb => by rw [hg]; exact hs.hp k h0 hk hb, ⟨fun k hk => ?_, fun z hz => ?_, fun j k hj hk e => ?_⟩, ?_, by have := hs.len; simp at this ⊢; exact this⟩
  · unfold upd
    by_cases e : k = i
    · rw [if_pos e]; simp
    · rw [if_neg e]
      have h5 := (up_mid h hu (F k)).2 ⟨hs.en.mem k hk, fun e2 => e (hs.en.inj k i hk hi (e2.trans hx.symm))⟩
      simp only [List.mem_append, List.mem_cons]
      rcases h5 with h5 | h5
      · exact .inl h5
      · exact .inr (.inr h5)
  · simp only [List.mem_append, List.mem_cons] at hz
    have hz' : (z ∈ A ∨ z ∈ B) ∨ z = y := by
      rcases hz with h5 | h5 | h5
      · exact .inl (.inl h5)
      · exact .inr h5
      · exact .inl (.inr h5)
    rcases hz' with hz' | rfl
    · obtain ⟨h6, h7⟩ := (up_mid h hu z).1 hz'
      obtain ⟨k, hk, e⟩ := hs.en.sur z h6
      refine ⟨k, hk, ?_⟩
      unfold upd
      rw [if_neg fun e2 => h7 (by rw [← e, e2, hx])]; exact e
    · exact ⟨i, hi, by unfold upd; rw [if_pos rfl]⟩
  · have hne : ∀ k, k < n → k ≠ i → F k ≠ y := fun k hk hki => hyn _ ((up_mid h hu (F k)).2 ⟨hs.en.mem k hk, fun e2 => hki (hs.en.inj k i hk hi (e2.trans hx.symm))⟩)
    unfold upd at e
    by_cases ha : j = i <;> by_cases hb : k = i
    · omega
    · rw [if_pos ha, if_neg hb] at e; exact absurd e.symm (hne k hk hb)
    · rw [if_neg ha, if_pos hb] at e; exact absurd e (hne j hj ha)
    · rw [if_neg ha, if_neg hb] at e; exact hs.en.inj j k hj hk e
  · refine List.pairwise_append.2 ⟨u1, List.pairwise_cons.2 ⟨fun b hb => by rw [h2]; exact u4.1 b hb, u4.2⟩, fun a ha b hb => ?_⟩
    rcases List.mem_cons.1 hb with rfl | hb
    · rw [h1]; exact u3 a ha x (by simp)
    · exact u3 a ha b (by simp [hb])
def popG (lt : α → α → Bool) (F : Nat → α) (n : Nat) : Nat → Nat → α
  | 0 => F
  | k + 1 => popF lt (popG lt F n k) (n - k - 1)
theorem popG_next {F : Nat → α} {n : Nat} (hn : 0 < n) : ∀ k, popG lt F n (k + 1) = popG lt (popF lt F (n - 1)) (n - 1) k
  | 0 => rfl
  | k + 1 => by
    rw [popG, popG_next hn k, popG]
    congr 1; omega
theorem StdG.popG (h : SWO lt) (z : α) : ∀ {F : Nat → α} {n : Nat} {L : List α} (k : Nat), StdG lt F n L → k ≤ n → StdG lt (Go.Eng.popG lt F n k) (n - k) (L.drop k) ∧ (k < n → Go.Eng.popG lt F n k 0 = L.getD k z ∧ Go.Eng.popG lt F n (k + 1) (n - k - 1) = L.getD k z)
  | F, n, [], k, hs, hk => by
    have := hs.len; simp at this
    subst this
    have e : k = 0 := by omega
    subst e
    exact ⟨hs, fun h => absurd h (Nat.lt_irrefl _)⟩
  | F, n, x :: L, 0, hs, hk => ⟨hs, fun _ => ⟨(hs.pop h).2.1, (hs.pop h).2.2.1⟩⟩
  | F, n, x :: L, k + 1, hs, hk => by
    obtain ⟨h0, _, _, h1⟩ := hs.pop h
    obtain ⟨h2, h3⟩ := StdG.popG h z k h1 (by omega)
    rw [popG_next h0]
    refine ⟨by rw [show n - (k + 1) = n - 1 - k by omega]; exact h2, fun hk2 => ?_⟩
    obtain ⟨h4, h5⟩ := h3 (by omega)
    refine ⟨by rw [h4]; rfl, ?_⟩
    rw [popG_next h0, show n - (k + 1) - 1 = n - 1 - k - 1 by omega, h5]; rfl
end
end Go.Eng
end
section
namespace Go.Eng
set_option linter.unusedVariables false
set_option maxRecDepth 100000
theorem mruns_get {F : Blk → Prop} {P : Program} {t : TypeId} {name : String} {f : FuncId} {e : TypeId} (h : derefM P t name f e = true) (rb : Blk) {sv : Value} {args : Array Value} {bs : List Blk} {k : Nat} {v : List Nat → Value} {o : List Nat → List (Option Blk)} {q : Nat}
    (hb : rb.base = 0) (ho : rb.own = false) (hs : rb.cont.get q = some sv) (hl : ∀ ns, (o ns).length = bs.length) (hR : Runs P f (sv :: args.toList) bs k v o) : MRuns F P (invSem (.iface t (.pointer (some ⟨rb.name, q, none⟩))) name args) (bs ++ [rb]) k v (fun ns => o ns ++ [none]) := by
  refine mruns_deref h (rb := rb) (by simp) hb hs ?_
  have h0 : RunsF F P f (sv :: args.toList) bs k v (fun ns => o ns ++ []) := by simpa using hR.toF (F := F)
  have := RunsF.lendG (cs := [rb]) (F' := F) h0 hl (fun w hF _ => hF) (fun x hx => .inl ⟨x, hx, rfl⟩) (fun b hb => by simp at hb; subst hb; exact ho)
  exact this
end Go.Eng
namespace Go.Eng
set_option linter.unusedVariables false
set_option maxRecDepth 100000
section
variable {r : Nat → N4} {n : Nat}
end
end Go.Eng
namespace Go.Eng
set_option linter.unusedVariables false
set_option maxRecDepth 100000
section
variable {m n : Nat} {f : Nat → UInt64}
end
end Go.Eng
end
section
set_option linter.unusedSimpArgs false
set_option linter.unusedVariables false
set_option maxRecDepth 100000
namespace Go.Eng
theorem Post.conv {m m' n n' : Nat → Option Blk} {w w' : World} (hp : Post m w m' w') (h0 : ∀ k, Owns m k → Owns n k) (π : Nat → Nat)
    (hπ : ∀ p q b c, n' p = some b → n' q = some c → π p = π q → p = q)
    (h2 : ∀ p b, n' p = some b → b.own = true ∧ ∃ b', m' (π p) = some b' ∧ b'.name = b.name ∧ b'.own = true ∧ ∀ w, Holds b' w → Holds b w) : Post n w n' w' where
  holds p b hb := by obtain ⟨_, b', h3, _, _, h6⟩ := h2 p b hb; exact h6 _ (hp.holds _ _ h3)
  apart p q b c hpq hb hc ho := by
    obtain ⟨_, b', h3, h4, h5, _⟩ := h2 p b hb
    obtain ⟨_, c', k3, k4, k5, _⟩ := h2 q c hc
    rw [← h4, ← k4]
    exact hp.apart _ _ b' c' (fun e => hpq (hπ p q b c hb hc e)) h3 k3 h5
  adv := ⟨hp.adv.os, hp.adv.output, hp.adv.tape, hp.adv.size, fun k hk hn => hp.adv.heap k hk fun ho => hn (h0 k ho), fun k ⟨p, b, hb, ho, hk⟩ => by
      obtain ⟨_, b', h3, h4, h5, _⟩ := h2 p b hb
      rcases hp.adv.names k ⟨π p, b', h3, h5, by rw [h4, hk]⟩ with h6 | h6
      · exact .inl (h0 k h6)
      · exact .inr h6, fun p b hb ho => by
      have := (h2 p b hb).1
      rw [ho] at this; cases this⟩
structure Suf (bs bs' : List (Option Blk)) (ρ : Nat → Nat) : Prop where
  inj : ∀ p q b c, listMem bs p = some b → listMem bs q = some c → ρ p = ρ q → p = q
  sub : ∀ p b, listMem bs p = some b → ∃ b', listMem bs' (ρ p) = some b' ∧ b'.name = b.name ∧ b'.own = b.own ∧ ∀ w, Holds b' w → Holds b w
theorem Suf.owns {bs bs' : List (Option Blk)} {ρ : Nat → Nat} (h : Suf bs bs' ρ) (k : Nat) : Owns (listMem bs) k → Owns (listMem bs') k := fun ⟨p, b, hb, ho, hk⟩ => by
  obtain ⟨b', h1, h2, h3, _⟩ := h.sub p b hb
  exact ⟨ρ p, b', h1, by rw [h3, ho], by rw [h2, hk]⟩
theorem Suf.holds {bs bs' : List (Option Blk)} {ρ : Nat → Nat} (h : Suf bs bs' ρ) {w : World} (hm : ∀ p b, listMem bs' p = some b → Holds b w) : ∀ p b, listMem bs p = some b → Holds b w := fun p b hb => by
  obtain ⟨b', h1, _, _, h4⟩ := h.sub p b hb
  exact h4 w (hm _ _ h1)
theorem Suf.apart {bs bs' : List (Option Blk)} {ρ : Nat → Nat} (h : Suf bs bs' ρ) (ha : Apart (listMem bs')) : Apart (listMem bs) := fun p q b c hpq hb hc ho => by
  obtain ⟨b', h1, h2, h3, _⟩ := h.sub p b hb
  obtain ⟨c', k1, k2, k3, _⟩ := h.sub q c hc
  rw [← h2, ← k2]
  exact ha _ _ b' c' (fun e => hpq (h.inj p q b c hb hc e)) h1 k1 (by rw [h3, ho])
theorem Suf.fam {F : Blk → Prop} {bs bs' : List (Option Blk)} {ρ : Nat → Nat} (h : Suf bs bs' ρ) {w : World} (hF : Fam F (listMem bs') w) : Fam F (listMem bs) w := fun b hb => by
  obtain ⟨h1, h2, h3⟩ := hF b hb
  exact ⟨h1, h2, fun ho => h3 (h.owns _ ho)⟩
def Leaves (out out' : List (Option Blk)) (π : Nat → Nat) : Prop :=
  (∀ p q b c, listMem out' p = some b → listMem out' q = some c → π p = π q → p = q) ∧
  ∀ p b, listMem out' p = some b → b.own = true ∧ ∃ b', listMem out (π p) = some b' ∧ b'.name = b.name ∧ b'.own = true ∧ ∀ w, Holds b' w → Holds b w
theorem RunsO.conv {F : Blk → Prop} {P : Program} {f : FuncId} {args : List Value} {bs bs' : List (Option Blk)} {k k' : Nat} {v v' : List Nat → Value} {out out' : List Nat → List (Option Blk)} (h : RunsO F P f args bs k v out)
    (ρ : Nat → Nat) (h1 : Suf bs bs' ρ) (π : Nat → Nat) (σ : List Nat → List Nat) (hσ : ∀ ns, ns.length = k → (σ ns).length = k' ∧ v' (σ ns) = v ns ∧ Leaves (out ns) (out' (σ ns)) π) : RunsO F P f args bs' k' v' out' := by
  intro w hm ha hF
  refine Calls.mono (h w (h1.holds hm) (h1.apart ha) (h1.fam hF)) ?_
  rintro e w' ⟨ns, hns, he, hp⟩
  obtain ⟨h3, h4, h5, h6⟩ := hσ ns hns
  exact ⟨σ ns, h3, by rw [h4, he], hp.conv h1.owns π h5 h6⟩
theorem SRunsO.conv {P : Program} {s : Sem Next} {bs bs' : List (Option Blk)} {k k' : Nat} {v v' : List Nat → Value} {out out' : List Nat → List (Option Blk)} (h : SRunsO P s bs k v out)
    (ρ : Nat → Nat) (h1 : Suf bs bs' ρ) (π : Nat → Nat) (σ : List Nat → List Nat) (hσ : ∀ ns, ns.length = k → (σ ns).length = k' ∧ v' (σ ns) = v ns ∧ Leaves (out ns) (out' (σ ns)) π) : SRunsO P s bs' k' v' out' := by
  intro w hm ha
  obtain ⟨ns, w', hns, he, hp⟩ := h w (h1.holds hm) (h1.apart ha)
  obtain ⟨h3, h4, h5, h6⟩ := hσ ns hns
  exact ⟨σ ns, w', h3, by rw [h4]; exact he, hp.conv h1.owns π h5 h6⟩
theorem RunsF.toO {F : Blk → Prop} {P : Program} {f : FuncId} {args : List Value} {bs : List Blk} {k : Nat} {v : List Nat → Value} {out : List Nat → List (Option Blk)} (h : RunsF F P f args bs k v out) : RunsO F P f args (bs.map some) k v out :=
  fun w hm ha hF => h w (fun b hb => by obtain ⟨i, hi⟩ := List.getElem?_of_mem hb; exact hm i b (listMem_some.2 hi)) ha hF
theorem Runs.toO {F : Blk → Prop} {P : Program} {f : FuncId} {args : List Value} {bs : List Blk} {k : Nat} {v : List Nat → Value} {out : List Nat → List (Option Blk)} (h : Runs P f args bs k v out) : RunsO F P f args (bs.map some) k v out := h.toF.toO
theorem SRuns.toO {P : Program} {s : Sem Next} {bs : List Blk} {k : Nat} {v : List Nat → Value} {out : List Nat → List (Option Blk)} (h : SRuns P s bs k v out) : SRunsO P s (bs.map some) k v out :=
  fun w hm ha => h w (fun b hb => by obtain ⟨i, hi⟩ := List.getElem?_of_mem hb; exact hm i b (listMem_some.2 hi)) ha
theorem RunsO.toF {F : Blk → Prop} {P : Program} {f : FuncId} {args : List Value} {bs : List Blk} {k : Nat} {v : List Nat → Value} {out : List Nat → List (Option Blk)} (h : RunsO F P f args (bs.map some) k v out) : RunsF F P f args bs k v out :=
  fun w hm ha hF => h w (fun i b hb => hm b (List.mem_of_getElem? (listMem_some.1 hb))) ha hF
theorem lm0 {o : Option Blk} {r : List (Option Blk)} : listMem (o :: r) 0 = o := rfl
theorem lm1 {o : Option Blk} {r : List (Option Blk)} (p : Nat) : listMem (o :: r) (p + 1) = listMem r p := by simp [listMem]
theorem lmN (p : Nat) : listMem ([] : List (Option Blk)) p = none := by simp [listMem]
inductive Sub : List (Option Blk) → List (Option Blk) → Prop where
  | zz (l : List (Option Blk)) : Sub [] l
  | dr {l l' : List (Option Blk)} (o : Option Blk) : Sub l l' → Sub (none :: l) (o :: l')
  | kp {l l' : List (Option Blk)} (b b' : Blk) (h : b'.name = b.name ∧ b'.own = b.own ∧ ∀ w, Holds b' w → Holds b w) : Sub l l' → Sub (some b :: l) (some b' :: l')
  | gp {l l' : List (Option Blk)} (o : Option Blk) : Sub l l' → Sub l (o :: l')
  | dn {l l' : List (Option Blk)} : Sub l l' → Sub (none :: l) l'
theorem Sub.at {l l' : List (Option Blk)} (h : Sub l l') : ∃ ρ, Suf l l' ρ := by
  induction h with
  | zz l => exact ⟨id, ⟨fun p q b c hb => (by rw [lmN] at hb; cases hb), fun p b hb => (by rw [lmN] at hb; cases hb)⟩⟩
  | @dr l l' o _ ih =>
    obtain ⟨ρ, h1, h2⟩ := ih
    refine ⟨fun p => match p with | 0 => 0 | p + 1 => ρ p + 1, ⟨fun p q b c hb hc e => ?_, fun p b hb => ?_⟩⟩
    · cases p with
      | zero => cases hb
      | succ p => cases q with
        | zero => cases hc
        | succ q => rw [lm1] at hb hc; simp only at e; have := h1 p q b c hb hc (by omega); omega
    · cases p with
      | zero => cases hb
      | succ p => rw [lm1] at hb; simp only [lm1]; exact h2 p b hb
  | @kp l l' b0 b0' h0 _ ih =>
    obtain ⟨ρ, h1, h2⟩ := ih
    refine ⟨fun p => match p with | 0 => 0 | p + 1 => ρ p + 1, ⟨fun p q b c hb hc e => ?_, fun p b hb => ?_⟩⟩
    · cases p with
      | zero => cases q with
        | zero => rfl
        | succ q => simp only at e; omega
      | succ p => cases q with
        | zero => simp only at e; omega
        | succ q => rw [lm1] at hb hc; simp only at e; have := h1 p q b c hb hc (by omega); omega
    · cases p with
      | zero => rw [lm0] at hb; injection hb with hb; subst hb; exact ⟨b0', rfl, h0⟩
      | succ p => rw [lm1] at hb; simp only [lm1]; exact h2 p b hb
  | dn _ ih =>
    obtain ⟨ρ, h1, h2⟩ := ih
    refine ⟨fun p => match p with | 0 => 0 | p + 1 => ρ p, ⟨fun p q b c hb hc e => ?_, fun p b hb => ?_⟩⟩
    · cases p with
      | zero => cases hb
      | succ p => cases q with
        | zero => cases hc
        | succ q => rw [lm1] at hb hc; simp only at e; have := h1 p q b c hb hc e; omega
    · cases p with
      | zero => cases hb
      | succ p => rw [lm1] at hb; simp only; exact h2 p b hb
  | gp _ _ ih =>
    obtain ⟨ρ, h1, h2⟩ := ih
    exact ⟨fun p => ρ p + 1, ⟨fun p q b c hb hc e => h1 p q b c hb hc (by omega), fun p b hb => by simp only [lm1]; exact h2 p b hb⟩⟩
def ownL : List (Option Blk) → Prop
  | [] => True
  | none :: r => ownL r
  | some b :: r => b.own = true ∧ ownL r
theorem ownL_at : ∀ {l : List (Option Blk)}, ownL l → ∀ p b, listMem l p = some b → b.own = true
  | [], _, p, b, hb => by rw [lmN] at hb; cases hb
  | none :: r, h, 0, b, hb => by cases hb
  | some c :: r, h, 0, b, hb => by rw [lm0] at hb; injection hb with hb; subst hb; exact h.1
  | none :: r, h, p + 1, b, hb => by rw [lm1] at hb; exact ownL_at (l := r) h p b hb
  | some c :: r, h, p + 1, b, hb => by rw [lm1] at hb; exact ownL_at h.2 p b hb
theorem Sub.leaves {l l' : List (Option Blk)} (h : Sub l' l) (ho : ownL l') : ∃ π, Leaves l l' π := by
  obtain ⟨ρ, h1, h2⟩ := h.at
  refine ⟨ρ, h1, fun p b hb => ?_⟩
  have hown := ownL_at ho p b hb
  obtain ⟨b', k1, k2, k3, k4⟩ := h2 p b hb
  exact ⟨hown, b', k1, k2, by rw [k3, hown], k4⟩
theorem RunsO.as {F : Blk → Prop} {P : Program} {f : FuncId} {args : List Value} {bs bs' : List (Option Blk)} {k k' : Nat} {v v' : List Nat → Value} {out out' : List Nat → List (Option Blk)} (h : RunsO F P f args bs k v out)
    (h1 : Sub bs bs') (σ : List Nat → List Nat) (hσ : ∀ ns, ns.length = k → (σ ns).length = k' ∧ v' (σ ns) = v ns ∧ Sub (out' (σ ns)) (out ns) ∧ ownL (out' (σ ns))) : RunsO F P f args bs' k' v' out' := by
  obtain ⟨ρ, hρ⟩ := h1.at
  intro w hm ha hF
  refine Calls.mono (h w (hρ.holds hm) (hρ.apart ha) (hρ.fam hF)) ?_
  rintro e w' ⟨ns, hns, he, hp⟩
  obtain ⟨h3, h4, h5, h6⟩ := hσ ns hns
  obtain ⟨π, h7, h8⟩ := h5.leaves h6
  exact ⟨σ ns, h3, by rw [h4, he], hp.conv hρ.owns π h7 h8⟩
theorem SRunsO.as {P : Program} {s : Sem Next} {bs bs' : List (Option Blk)} {k k' : Nat} {v v' : List Nat → Value} {out out' : List Nat → List (Option Blk)} (h : SRunsO P s bs k v out)
    (h1 : Sub bs bs') (σ : List Nat → List Nat) (hσ : ∀ ns, ns.length = k → (σ ns).length = k' ∧ v' (σ ns) = v ns ∧ Sub (out' (σ ns)) (out ns) ∧ ownL (out' (σ ns))) : SRunsO P s bs' k' v' out' := by
  obtain ⟨ρ, hρ⟩ := h1.at
  intro w hm ha
  obtain ⟨ns, w', hns, he, hp⟩ := h w (hρ.holds hm) (hρ.apart ha)
  obtain ⟨h3, h4, h5, h6⟩ := hσ ns hns
  obtain ⟨π, h7, h8⟩ := h5.leaves h6
  exact ⟨σ ns, w', h3, by rw [h4]; exact he, hp.conv hρ.owns π h7 h8⟩
theorem Sub.refl : ∀ (l : List (Option Blk)), Sub l l
  | [] => .zz _
  | none :: r => .dr _ (Sub.refl r)
  | some b :: r => .kp b b ⟨rfl, rfl, fun _ h => h⟩ (Sub.refl r)
theorem Sub.cons {l l' : List (Option Blk)} (o : Option Blk) (h : Sub l l') : Sub (o :: l) (o :: l') := match o with
  | none => .dr _ h
  | some b => .kp b b ⟨rfl, rfl, fun _ h => h⟩ h
theorem RunsO.mono {F F' : Blk → Prop} {P : Program} {f : FuncId} {args : List Value} {bs : List (Option Blk)} {k : Nat} {v : List Nat → Value} {out : List Nat → List (Option Blk)} (hs : ∀ b, F b → F' b) (h : RunsO F P f args bs k v out) : RunsO F' P f args bs k v out :=
  fun w hm ha hF => h w hm ha fun b hb => hF b (hs b hb)
theorem RunsO.frame {F : Blk → Prop} {P : Program} {f : FuncId} {args : List Value} {bs : List (Option Blk)} {ps : List (Nat × Bool)} {k k' : Nat} {v v' : List Nat → Value} {out out' : List Nat → List (Option Blk)}
    (h : RunsO F P f args (lendO (listMem bs) ps) k v out) (hn : nodupPs ps = true) (σ : List Nat → List Nat)
    (hσ : ∀ ns, ns.length = k → (σ ns).length = k' ∧ v' (σ ns) = v ns ∧ ps.length ≤ (out ns).length ∧ ∀ p b, listMem (out' (σ ns)) p = some b → memApply (listMem bs) (outUpd ps bs.length (out ns)) p = some b) : RunsO F P f args bs k' v' out' := by
  intro w hm ha hF
  refine Calls.mono (h w (lendO_holds hm) (lendO_apart ha hn) (fam_lendO hF)) ?_
  rintro e w' ⟨ns, hns, he, hp⟩
  obtain ⟨h1, h2, h3, h4⟩ := hσ ns hns
  exact ⟨σ ns, h1, by rw [h2, he], (post_frameO hm ha h3 hp).sub h4⟩
theorem RunsO.reads {F : Blk → Prop} {P : Program} {f : FuncId} {args : List Value} {bs : List (Option Blk)} (ps : List (Nat × Bool)) {k : Nat} {v0 : Value} {out : List Nat → List (Option Blk)}
    (h : RunsO F P f args (lendO (listMem bs) ps) 0 (fun _ => v0) out) (hn : nodupPs ps = true) (hr : ps.all (fun x => x.2) = true) : RunsO F P f args bs k (fun _ => v0) (fun _ => bs) := by
  have hout : ∀ (qs : List (Nat × Bool)) (nx : Nat) (m : Nat), qs.all (fun x => x.2) = true → outUpd qs nx (List.replicate qs.length none) = [] := by
    intro qs
    induction qs with
    | nil => intro nx m _; rfl
    | cons x r ih =>
      obtain ⟨p, ro⟩ := x
      intro nx m hx
      simp only [List.all_cons, Bool.and_eq_true] at hx
      have : ro = true := hx.1
      subst this
      simp only [List.length_cons, List.replicate_succ, outUpd]
      exact ih nx m hx.2
  have h' : RunsO F P f args (lendO (listMem bs) ps) 0 (fun _ => v0) (fun _ => List.replicate ps.length none) := fun w hm ha hF => Calls.mono (h w hm ha hF) fun e w' ⟨ns, h1, h2, h3⟩ => ⟨ns, h1, h2, h3.sub fun p b hb => by
    have : ∀ (n p : Nat), listMem (List.replicate n (none : Option Blk)) p = none := fun n p => by
      simp only [listMem, List.getElem?_replicate]
      split <;> simp_all
    rw [this] at hb; cases hb⟩
  refine h'.frame hn (fun _ => List.replicate k 0) fun ns _ => ⟨by simp, rfl, by simp, fun p b hb => ?_⟩
  rw [hout ps bs.length 0 hr]
  exact hb
theorem sub_none : ∀ (l : List (Option Blk)), Sub (l ++ [none]) l
  | [] => .dn (.zz _)
  | none :: l => .dr _ (sub_none l)
  | some b :: l => .kp b b ⟨rfl, rfl, fun _ h => h⟩ (sub_none l)
section
variable {α : Type}
def gsA (A : Grw α) : Option Addr := match A.z with
  | true => none
  | false => some ⟨A.nm, 0, none⟩
def gsC (A : Grw α) : Nat := match A.z with
  | true => 0
  | false => A.n + A.r
def gsV (A : Grw α) : Value := .slice (gsA A) A.n (gsC A)
def gsE (C : α → List Value) (zc : List Value) (sz : Nat) (A : Grw α) : Option Blk := match A.z with
  | true => none
  | false => some ⟨A.nm, true, 0, sprE sz (A.n + A.r) A.n (fun k => C (A.f k)) zc⟩
def Grw.ok (A : Grw α) : Prop := A.z = true → A.n = 0
def Grw.cat (A : Grw α) (m : Nat) (h : Nat → α) (nm r : Nat) : Grw α := ⟨decide (m = 0) && A.z, nm, A.n + m, r, catU A.f A.n h⟩
def gsOf (S : Nat) (F : Nat → α) (a r : Nat) : Grw α := ⟨decide (S = 0), a, S, r, F⟩
theorem gsOf_ok (S : Nat) (F : Nat → α) (a r : Nat) : (gsOf S F a r).ok := fun h => of_decide_eq_true h
variable {A : Grw α} {C : α → List Value} {zc : List Value} {sz : Nat} {K : α → Value} {zv : Value}
theorem gsA_nil (h : A.z = true) : gsA A = none := by unfold gsA; rw [h]
theorem gsC_nil (h : A.z = true) : gsC A = 0 := by unfold gsC; rw [h]
theorem gsE_nil (h : A.z = true) : gsE C zc sz A = none := by unfold gsE; rw [h]
theorem gsA_own (h : A.z = false) : gsA A = some ⟨A.nm, 0, none⟩ := by unfold gsA; rw [h]
theorem gsC_own (h : A.z = false) : gsC A = A.n + A.r := by unfold gsC; rw [h]
theorem gsE_own (h : A.z = false) : gsE C zc sz A = some ⟨A.nm, true, 0, sprE sz (A.n + A.r) A.n (fun k => C (A.f k)) zc⟩ := by unfold gsE; rw [h]
theorem gsV_nil (h : A.z = true) (hk : A.ok) : gsV A = .slice none 0 0 := by unfold gsV; rw [gsA_nil h, gsC_nil h, hk h]
theorem gsV_own (h : A.z = false) : gsV A = .slice (some ⟨A.nm, 0, none⟩) A.n (A.n + A.r) := by unfold gsV; rw [gsA_own h, gsC_own h]
theorem Grw.ok.pos (hk : A.ok) (h : 0 < A.n) : A.z = false := by
  cases hz : A.z with
  | false => rfl
  | true => have := hk hz; omega
theorem sprE_row {c n : Nat} {f g : Nat → α} (hg : ∀ k, k < n → f k = g k) : sprE sz c n (fun k => C (f k)) zc = sprE sz c n (fun k => C (g k)) zc := by
  unfold sprE
  congr 1; funext k
  by_cases h : k < n
  · rw [if_pos h, if_pos h]; show C (f k) = C (g k); rw [hg k h]
  · rw [if_neg h, if_neg h]
theorem gsE_row {A' : Grw α} (h1 : A'.z = A.z) (h2 : A'.nm = A.nm) (h3 : A'.n = A.n) (h4 : A'.r = A.r) (h5 : ∀ k, k < A.n → A'.f k = A.f k) : gsE C zc sz A' = gsE C zc sz A := by
  obtain ⟨z, nm, n, r, f⟩ := A; obtain ⟨z', nm', n', r', f'⟩ := A'
  simp only at h1 h2 h3 h4 h5; subst h1; subst h2; subst h3; subst h4
  unfold gsE
  cases z' <;> simp only [sprE_row h5]
theorem gs_tell {S : Nat} {F : Nat → α} (h1 : A.n = S) (h2 : A.z = decide (S = 0)) (h3 : ∀ j, j < S → A.f j = F j) :
    gsV A = gsV (gsOf S F A.nm A.r) ∧ gsE C zc sz A = gsE C zc sz (gsOf S F A.nm A.r) := by
  subst h1
  refine ⟨?_, gsE_row h2 rfl rfl rfl h3⟩
  unfold gsV gsA gsC gsOf
  simp only [h2]
def Src (C : α → List Value) (sz : Nat) (ob : Option Blk) (wa : Option Addr) (n : Nat) (f : Nat → α) : Prop :=
  0 < n → ∃ b o S, wa = some ⟨b, o, none⟩ ∧ ob = some ⟨b, false, o, S⟩ ∧ S.isMap = false ∧ ∀ j v, (Cont.tab n sz fun k => C (f k)).get j = some v → S.get j = some v
theorem src_gs (hA : A.ok) : Src C sz (roO (gsE C zc sz A)) (gsA A) A.n A.f := fun h => by
  have hz := hA.pos h
  rw [gsE_own hz, gsA_own hz]
  exact ⟨_, _, _, rfl, rfl, rfl, fun j v hv => to_noroomE (by omega) (fun _ _ => rfl) j v hv⟩
structure Prt (α : Type) where
  wa : Option Addr
  n : Nat
  c : Nat
  nm : Nat
  o : Nat
  f : Nat → α
def Prt.ok (D : Prt α) : Prop := (0 < D.n → D.wa = some ⟨D.nm, D.o, none⟩) ∧ D.n ≤ D.c
theorem gsE_ownL {r : List (Option Blk)} (h : ownL r) : ownL (gsE C zc sz A :: r) := by
  unfold gsE
  cases A.z with
  | true => exact h
  | false => exact ⟨rfl, h⟩
section
variable {P : Program} {t ty e : TypeId} {B : Nat}
theorem sizeB_agg (h1 : AggC P e zc sz B) : sizeB P e = some sz := by
  obtain ⟨i, z, hi, _, hsz, _⟩ := h1
  simp [sizeB, hi, hsz]
theorem mkG_catE (ht : P.underlying t = some (.slice e)) (h1 : AggC P e zc sz B) (A : Grw α) (hA : A.ok) (hC : ∀ a, (C a).length = sz ∧ (C a).all Value.oneCell' = true) (h : Nat → α) (m : Nat) (adr : Option Addr) (cc : Nat) (ob : Option Blk)
    (hs : 0 < m → ∃ k bo os S, adr = some ⟨k, bo + os, none⟩ ∧ ob = some ⟨k, false, bo, S⟩ ∧ ∀ j, j < m * sz → S.get (os + j) = some (cf sz (fun k => C (h k)) j))
    (hb : (A.n + m) * B ≤ 140737488355328 ∧ A.n + m ≤ 9223372036854775807) :
    SRunsO P (appendSem t ty (gsV A) (.slice adr m cc)) [gsE C zc sz A, ob] 2 (fun ns => gsV (A.cat m h (ns.getD 0 0) (ns.getD 1 0))) (fun ns => [gsE C zc sz (A.cat m h (ns.getD 0 0) (ns.getD 1 0)), none]) := by
  rcases Nat.eq_zero_or_pos m with hm | hm
  · subst hm
    have hcap : A.n ≤ gsC A := by
      unfold gsC; cases hz : A.z with
      | true => rw [hA hz]; exact Nat.zero_le _
      | false => simp only; omega
    have key := (srun_append_noneM (P := P) (t := t) (ty := ty) ht (sizeB_agg h1) (gsA A) A.n (gsC A) hcap adr 0 cc rfl).toO
    intro w hm ha
    obtain ⟨ns, w', hns, he, hp⟩ := key w (fun p b hb => by cases p <;> cases hb) (fun p q b c _ hb => by cases p <;> cases hb)
    refine ⟨[A.nm, A.r], w', rfl, ?_, ?_⟩
    · have ec : A.cat 0 h A.nm A.r = ⟨A.z, A.nm, A.n, A.r, catU A.f A.n h⟩ := by
        unfold Grw.cat; rw [show (decide (0 = 0) && A.z) = A.z from by simp]; rfl
      have e : gsV (A.cat 0 h A.nm A.r) = .slice (gsA A) A.n (gsC A) := by rw [ec]; rfl
      show _ ∨ _
      simp only [List.getD_cons_zero, List.getD_cons_succ, e]
      exact he
    · have e : gsE C zc sz (A.cat 0 h A.nm A.r) = gsE C zc sz A := gsE_row (by simp [Grw.cat]) rfl rfl rfl fun k hk => by simp [Grw.cat, catU, hk]
      simp only [List.getD_cons_zero, List.getD_cons_succ, e]
      have hnil : ∀ p : Nat, listMem (List.map some ([] : List Blk)) p = none := fun p => by simp [listMem]
      have hadv := hp.adv
      have hw : ∀ k, k < w.heap.size → w'.heap[k]? = w.heap[k]? := fun k hk => hadv.heap k hk fun ⟨p, b, hb, _⟩ => by rw [hnil] at hb; cases hb
      have hsub : ∀ p b, listMem [gsE C zc sz A, none] p = some b → p = 0 ∧ gsE C zc sz A = some b := fun p b hb => by
        rcases p with _ | _ | p
        · exact ⟨rfl, hb⟩
        · cases hb
        · simp [listMem] at hb
      refine ⟨fun p b hb => ?_, fun p q b c hpq hb hc ho => ?_, ⟨hadv.os, hadv.output, hadv.tape, hadv.size, fun k hk _ => hw k hk, fun k ⟨p, b, hb, ho, hk⟩ => ?_, fun p b hb ho => ?_⟩⟩
      · obtain ⟨rfl, h2⟩ := hsub p b hb
        have := hm 0 b h2
        exact this.of_heap hadv.size (hw _ this.lt)
      · obtain ⟨rfl, _⟩ := hsub p b hb
        obtain ⟨rfl, _⟩ := hsub q c hc
        exact absurd rfl hpq
      · obtain ⟨rfl, h2⟩ := hsub p b hb
        exact .inl ⟨0, b, h2, ho, hk⟩
      · obtain ⟨rfl, h2⟩ := hsub p b hb
        cases hz : A.z with
        | true => rw [gsE_nil hz] at h2; cases h2
        | false => rw [gsE_own hz] at h2; exact absurd (by injection h2 with h2; rw [← h2]) (show ¬ b.own = true from by rw [ho]; decide)
  · obtain ⟨k, bo, os, S, rfl, rfl, hS⟩ := hs hm
    have hmz : decide (m = 0) = false := decide_eq_false (by omega)
    cases hz : A.z with
    | true =>
      have hn := hA hz
      rw [gsV_nil hz hA, gsE_nil hz]
      have key := (mkE_append_nil (P := P) (t := t) (ty := ty) ht h1 k bo os m cc C hC h S hS ⟨hm, by rw [hn, Nat.zero_add] at hb; exact hb.1, by omega⟩).toO
      have e1 : ∀ ns : List Nat, gsV (A.cat m h (ns.getD 0 0) (ns.getD 1 0)) = .slice (some ⟨ns.getD 0 0, 0, none⟩) m (m + ns.getD 1 0) := fun ns => by
        rw [gsV_own (by simp [Grw.cat, hmz])]; simp only [Grw.cat, hn, Nat.zero_add]
      have e2 : ∀ ns : List Nat, gsE C zc sz (A.cat m h (ns.getD 0 0) (ns.getD 1 0)) = some ⟨ns.getD 0 0, true, 0, sprE sz (m + ns.getD 1 0) m (fun k => C (h k)) zc⟩ := fun ns => by
        rw [gsE_own (by simp [Grw.cat, hmz])]; simp only [Grw.cat, hn, Nat.zero_add]
        rw [sprE_row (g := h) fun k _ => by simp [catU]]
      refine key.conv (fun p => p + 1) ⟨fun p q b c _ _ e => Nat.succ.inj e, fun p b hb => ⟨b, by rw [lm1]; exact hb, rfl, rfl, fun _ h => h⟩⟩ (fun p => p + 1) id fun ns hns => ⟨hns, e1 ns, fun p q b c _ _ e => Nat.succ.inj e, fun p b hb => ?_⟩
      rcases p with _ | _ | p
      · rw [lm0] at hb; simp only [id, e2] at hb; injection hb with hb; subst hb
        exact ⟨rfl, _, rfl, rfl, rfl, fun _ h => h⟩
      · cases hb
      · simp [listMem] at hb
    | false =>
      rw [gsV_own hz, gsE_own hz]
      have key := (mkE_append (P := P) (t := t) (ty := ty) ht h1 A.nm A.n A.r k bo os m cc C hC A.f h S hS hb).toO
      refine key.as (.refl _) id fun ns _ => ⟨by assumption, ?_, ?_, ?_⟩
      · show gsV _ = _
        rw [gsV_own (by simp [Grw.cat, hmz])]; simp only [Grw.cat, id]
      · rw [gsE_own (by simp [Grw.cat, hmz])]
        simp only [Grw.cat, id]
        exact .kp _ _ ⟨rfl, rfl, fun w hw => hw⟩ (.dr _ (.zz _))
      · rw [gsE_own (by simp [Grw.cat, hmz])]; exact ⟨rfl, trivial⟩
end
end
section
variable {P : Program} {t ty e : TypeId}
end
section
end
end Go.Eng
end
section
namespace Go.Eng
set_option linter.unusedVariables false
set_option linter.unusedSimpArgs false
set_option maxRecDepth 100000
structure PaR where
  w : Nat
  a : UInt64
  e : UInt64
  n : UInt64
deriving DecidableEq
def paZ : PaR := ⟨0, 0, 0, 0⟩
def paC (r : PaR) : List Value := [nat r.w, u64 r.a, u64 r.e, u64 r.n]
theorem paC_ok (r : PaR) : (paC r).length = 4 ∧ (paC r).all Value.oneCell' = true := ⟨rfl, rfl⟩
abbrev tabS (n : Nat) (f : Nat → PaR) : Cont := .tab n 4 fun k => paC (f k)
def ordP (a b : PaR) : Int := if cmp3 a.e b.e = 0 then cmp3 a.n b.n else cmp3 a.e b.e
def ltP (a b : PaR) : Bool := decide (ordP a b < 0)
theorem cmp3_neg (a b : UInt64) : cmp3 a b < 0 ↔ a.toNat < b.toNat := by
  unfold cmp3
  by_cases h : a < b
  · have h' : a.toNat < b.toNat := h
    simp [h, h']
  · have h' : ¬ a.toNat < b.toNat := h
    by_cases h2 : b < a <;> simp [h, h2, h']
theorem cmp3_nul (a b : UInt64) : cmp3 a b = 0 ↔ a.toNat = b.toNat := by
  unfold cmp3
  by_cases h : a < b
  · have h' : a.toNat < b.toNat := h
    simp [h]; omega
  · have h' : ¬ a.toNat < b.toNat := h
    by_cases h2 : b < a
    · have h2' : b.toNat < a.toNat := h2
      simp [h, h2]; omega
    · have h2' : ¬ b.toNat < a.toNat := h2
      simp [h, h2]; omega
theorem ordP_lt {a b : PaR} : ordP a b < 0 ↔ a.e.toNat < b.e.toNat ∨ a.e.toNat = b.e.toNat ∧ a.n.toNat < b.n.toNat := by
  unfold ordP
  by_cases h : cmp3 a.e b.e = 0
  · rw [if_pos h, cmp3_neg]; rw [cmp3_nul] at h; omega
  · rw [if_neg h, cmp3_neg]; rw [cmp3_nul] at h; omega
theorem ltP_iff {a b : PaR} : ltP a b = true ↔ a.e.toNat < b.e.toNat ∨ a.e.toNat = b.e.toNat ∧ a.n.toNat < b.n.toNat := by
  unfold ltP; rw [decide_eq_true_iff, ordP_lt]
theorem ltP_not {a b : PaR} : ltP a b = false ↔ ¬ (a.e.toNat < b.e.toNat ∨ a.e.toNat = b.e.toNat ∧ a.n.toNat < b.n.toNat) := by
  rw [← ltP_iff]; simp
theorem ltP_swo : SWO ltP := ⟨fun a => by rw [ltP_not]; omega, fun a b c h k => by rw [ltP_iff] at *; omega, fun a b c h k => by rw [ltP_not] at *; omega⟩
def lastP (F : Nat → PaR) (w : Nat) : Nat → Int
  | 0 => -1
  | k + 1 => if (F k).w = w ∧ (lastP F w k < 0 ∨ ordP (F (lastP F w k).toNat) (F k) < 0) then (k : Int) else lastP F w k
theorem lastP_lt (F : Nat → PaR) (w : Nat) : ∀ k, -1 ≤ lastP F w k ∧ lastP F w k < (k : Int)
  | 0 => by unfold lastP; omega
  | k + 1 => by have := lastP_lt F w k; unfold lastP; split <;> omega
theorem lastP_at (F : Nat → PaR) (w : Nat) : ∀ k, (lastP F w k = -1 ∧ ∀ j, j < k → (F j).w ≠ w) ∨ ∃ i, i < k ∧ lastP F w k = (i : Int) ∧ (F i).w = w ∧ ∀ j, j < k → (F j).w = w → ltP (F i) (F j) = false
  | 0 => .inl ⟨rfl, fun j h => absurd h (Nat.not_lt_zero j)⟩
  | k + 1 => by
    by_cases h : (F k).w = w
    · rcases lastP_at F w k with ⟨h1, h2⟩ | ⟨i, h1, h2, h3, h4⟩
      · have e : lastP F w (k + 1) = (k : Int) := by rw [lastP, if_pos ⟨h, by omega⟩]
        refine .inr ⟨k, by omega, e, h, fun j hj hw => ?_⟩
        rcases Nat.lt_or_ge j k with h5 | h5
        · exact absurd hw (h2 j h5)
        · rw [show j = k by omega]; exact ltP_swo.irr _
      · by_cases h5 : ordP (F i) (F k) < 0
        · have e : lastP F w (k + 1) = (k : Int) := by rw [lastP, if_pos ⟨h, .inr (by rw [h2]; exact h5)⟩]
          refine .inr ⟨k, by omega, e, h, fun j hj hw => ?_⟩
          rcases Nat.lt_or_ge j k with h6 | h6
          · have := h4 j h6 hw
            have h7 : ltP (F i) (F k) = true := decide_eq_true h5
            rw [ltP_not] at this ⊢; rw [ltP_iff] at h7; omega
          · rw [show j = k by omega]; exact ltP_swo.irr _
        · have e : lastP F w (k + 1) = (i : Int) := by rw [lastP, if_neg (by rw [h2]; intro h6; rcases h6.2 with h6 | h6; omega; exact h5 h6), h2]
          refine .inr ⟨i, by omega, e, h3, fun j hj hw => ?_⟩
          rcases Nat.lt_or_ge j k with h6 | h6
          · exact h4 j h6 hw
          · rw [show j = k by omega]; exact decide_eq_false h5
    · have e : lastP F w (k + 1) = lastP F w k := by rw [lastP, if_neg fun h1 => h h1.1]
      rcases lastP_at F w k with ⟨h1, h2⟩ | ⟨i, h1, h2, h3, h4⟩
      · refine .inl ⟨e.trans h1, fun j hj => ?_⟩
        rcases Nat.lt_or_ge j k with h5 | h5
        · exact h2 j h5
        · rw [show j = k by omega]; exact h
      · refine .inr ⟨i, by omega, e.trans h2, h3, fun j hj hw => ?_⟩
        rcases Nat.lt_or_ge j k with h5 | h5
        · exact h4 j h5 hw
        · rw [show j = k by omega] at hw; exact absurd hw h
theorem StdG.last {F : Nat → PaR} {n : Nat} {L : List PaR} (h : StdG ltP F n L) (w : Nat) : (lastP F w n = -1 ∧ ∀ x ∈ L, x.w ≠ w) ∨
    ∃ i A x B, i < n ∧ lastP F w n = (i : Int) ∧ F i = x ∧ L = A ++ x :: B ∧ x.w = w ∧ ∀ y ∈ B, y.w ≠ w := by
  rcases lastP_at F w n with ⟨h1, h2⟩ | ⟨i, h1, h2, h3, h4⟩
  · refine .inl ⟨h1, fun x hx => ?_⟩
    obtain ⟨k, hk, rfl⟩ := h.en.sur x hx
    exact h2 k hk
  · obtain ⟨A, B, e⟩ := List.append_of_mem (h.en.mem i h1)
    refine .inr ⟨i, A, F i, B, h1, h2, rfl, e, h3, fun y hy hw => ?_⟩
    obtain ⟨k, hk, rfl⟩ := h.en.sur y (by rw [e]; simp [hy])
    have h5 := h4 k hk hw
    have hu := h.up
    rw [e] at hu
    have := (List.pairwise_cons.1 (List.pairwise_append.1 hu).2.1).1 _ hy
    rw [this] at h5; cases h5
def sumA (w : Nat) : List PaR → Nat
  | [] => 0
  | x :: L => (if x.w = w then x.a.toNat else 0) + sumA w L
theorem sumA_app (w : Nat) : ∀ A B, sumA w (A ++ B) = sumA w A + sumA w B
  | [], B => by simp [sumA]
  | x :: A, B => by simp [sumA, sumA_app w A B, Nat.add_assoc]
theorem sumA_one {w : Nat} {L : List PaR} {x : PaR} (hx : x ∈ L) (hw : x.w = w) : x.a.toNat ≤ sumA w L := by
  obtain ⟨A, B, rfl⟩ := List.append_of_mem hx
  rw [sumA_app, sumA, if_pos hw]; omega
end Go.Eng
end
section
namespace Go.Proofs.Ytchkbchbfilipaa
open Go Go.Eng
set_option linter.unusedVariables false
set_option linter.unusedSimpArgs false
set_option maxRecDepth 100000
theorem agg77 : AggC Try.prog 77 [(int 0), (u64 0), (u64 0), (u64 0)] 4 32 := aggC_of (z := (Value.agg #[(int 0), (u64 0), (u64 0), (u64 0)])) (by kernel_rfl) rfl rfl (by decide)
theorem one3 : OneC Try.prog 3 (int 0) 8 := oneC_of (by kernel_rfl) rfl
theorem or2_runs (b : Nat) (x y : Int) : Runs Try.prog 74 [(Value.slice (some ⟨b, 0, none⟩) 2 2)] [⟨b, false, 0, (.lit [(int x), (int y)])⟩] 0 (fun (_ : List Nat) => int (if x = 0 then y else x)) (fun (_ : List Nat) => [some ⟨b, false, 0, (.lit [(int x), (int y)])⟩]) :=
  runs_of_ev mix Try.func74 rfl rfl 400 (.reg [(0, .g)] (.reg [(0, .g)] (.reg [(0, .g), (1, (.as (int 2))), (2, .g)] (.unroll (.reg [(0, .g)] (.yes (.reg [(0, (.as (ptr b 0))), (1, (.ld 0 (.lit 0))), (2, .g)] (.reg [(0, .g), (1, .g), (2, .g)] (.br (.reg [(0, .g), (1, .g)] .done) (.reg [(0, .g), (1, .g)] (.unroll (.reg [(0, .g)] (.yes (.reg [(0, (.as (ptr b 1))), (1, (.ld 0 (.lit 1))), (2, .g)] (.reg [(0, .g), (1, .g), (2, .g)] (.br (.reg [(0, .g), (1, .g)] .done) (.reg [(0, .g), (1, .g)] (.unroll (.reg [(0, .g)] (.no (.reg [(0, .g), (1, .g)] .done))))))))))))))))))))) [] [] rfl
    (Eq.mp (by kernel_rfl) (And.intro (sk trivial) (And.intro (sk trivial) (And.intro (sk (And.intro (And.intro trivial (@is_len Try.prog 35 3 (.tmp 6) (by kernel_rfl) (some ⟨b, 0, none⟩) 2 2)) (sk trivial))) (And.intro (sk trivial) (And.intro trivial (And.intro (@rfl Bool true) (And.intro (And.intro (And.intro trivial (@is_ixSl Try.prog 35 3 (.tmp 6) (.tmp 8) 1 (by kernel_rfl) (by kernel_rfl) b 0 2 2 0 (show 0 < 2 from by omega))) (And.intro (And.intro trivial (ad b 0)) (sk trivial))) (And.intro (sk (sk (sk trivial))) (And.intro trivial (And.intro (fun (h1 : ((x : Int) != 0) = true) => have f0 : ((x : Int) != 0) = true := h1; And.intro (sk (sk trivial)) (And.intro trivial (@Exists.intro (List Nat) (fun (ns : List Nat) => ns.length = 0 ∧ ((int x) : Value) = (fun (_ : List Nat) => int (if x = 0 then y else x)) ns ∧ ([some ⟨b, false, 0, (.lit [(int x), (int y)])⟩] : List (Option Blk)) = (fun (_ : List Nat) => [some ⟨b, false, 0, (.lit [(int x), (int y)])⟩]) ns) [] (And.intro (@rfl Nat 0) (And.intro ((show (int x) = int (if x = 0 then y else x) from by simp_all)) (@rfl (List (Option Blk)) [some ⟨b, false, 0, (.lit [(int x), (int y)])⟩])))))) (fun (h1 : ((x : Int) != 0) = false) => have f0 : ((x : Int) != 0) = false := h1; And.intro (sk (sk trivial)) (And.intro (sk trivial) (And.intro trivial (And.intro (@rfl Bool true) (And.intro (And.intro (And.intro trivial (@is_ixSl Try.prog 35 3 (.tmp 6) (.tmp 8) 1 (by kernel_rfl) (by kernel_rfl) b 0 2 2 1 (show 1 < 2 from by omega))) (And.intro (And.intro trivial (ad b 1)) (sk trivial))) (And.intro (sk (sk (sk trivial))) (And.intro trivial (And.intro (fun (h2 : ((y : Int) != 0) = true) => have f1 : ((y : Int) != 0) = true := h2; And.intro (sk (sk trivial)) (And.intro trivial (@Exists.intro (List Nat) (fun (ns : List Nat) => ns.length = 0 ∧ ((int y) : Value) = (fun (_ : List Nat) => int (if x = 0 then y else x)) ns ∧ ([some ⟨b, false, 0, (.lit [(int x), (int y)])⟩] : List (Option Blk)) = (fun (_ : List Nat) => [some ⟨b, false, 0, (.lit [(int x), (int y)])⟩]) ns) [] (And.intro (@rfl Nat 0) (And.intro ((show (int y) = int (if x = 0 then y else x) from by simp_all)) (@rfl (List (Option Blk)) [some ⟨b, false, 0, (.lit [(int x), (int y)])⟩])))))) (fun (h2 : ((y : Int) != 0) = false) => have f1 : ((y : Int) != 0) = false := h2; And.intro (sk (sk trivial)) (And.intro (sk trivial) (And.intro trivial (And.intro (@rfl Bool false) (And.intro (sk (sk trivial)) (And.intro trivial (@Exists.intro (List Nat) (fun (ns : List Nat) => ns.length = 0 ∧ ((int 0) : Value) = (fun (_ : List Nat) => int (if x = 0 then y else x)) ns ∧ ([some ⟨b, false, 0, (.lit [(int x), (int y)])⟩] : List (Option Blk)) = (fun (_ : List Nat) => [some ⟨b, false, 0, (.lit [(int x), (int y)])⟩]) ns) [] (And.intro (@rfl Nat 0) (And.intro ((show (int 0) = int (if x = 0 then y else x) from by simp_all)) (@rfl (List (Option Blk)) [some ⟨b, false, 0, (.lit [(int x), (int y)])⟩])))))))))))))))))))))))))))))
theorem order_pure (a b : PaR) : Pure Try.prog 63 [(Value.agg #[(nat a.w), (u64 a.a), (u64 a.e), (u64 a.n)]), (Value.agg #[(nat b.w), (u64 b.a), (u64 b.e), (u64 b.n)])] (int (ordP a b)) :=
  pure_of_ev mix Try.func63 rfl rfl 400 (.regn [(0, .new), (1, .new), (2, .g)] (more (fun n1 => more (fun n2 => fun _ => (.regn [(0, .g), (1, (.ld 0 (.lit 2))), (2, .g), (3, (.ld 1 (.lit 2))), (4, (.call [] 0 0 (fun _ => (int (cmp3 a.e b.e))) (fun _ => []))), (5, .g), (6, (.ld 0 (.lit 3))), (7, .g), (8, (.ld 1 (.lit 3))), (9, (.call [] 0 0 (fun _ => (int (cmp3 a.n b.n))) (fun _ => []))), (10, (.oth [] 1 1 (fun ns => Value.slice (some ⟨ns.getD 0 0, 0, none⟩) 2 2) (fun ns => [some ⟨ns.getD 0 0, true, 0, .lit [(int (cmp3 a.e b.e)), (int (cmp3 a.n b.n))]⟩]))), (11, (.call [(2, true)] 0 0 (fun _ => (int (if (cmp3 a.e b.e) = 0 then (cmp3 a.n b.n) else (cmp3 a.e b.e)))) (fun _ => [none]))), (12, .g)] (more (fun n3 => fun _ => .done))))))) []
    (Eq.mp (by kernel_rfl) (fun (n1 n2 : Nat) => And.intro (sk (sk (sk trivial))) (fun (n3 : Nat) => And.intro (sk (And.intro (And.intro trivial (ad n1 2)) (sk (And.intro (And.intro trivial (ad n2 2)) (And.intro (And.intro trivial (compare_pure a.e b.e)) (sk (And.intro (And.intro trivial (ad n1 3)) (sk (And.intro (And.intro trivial (ad n2 3)) (And.intro (And.intro trivial (compare_pure a.n b.n)) (And.intro (And.intro trivial (mk_build (P := Try.prog) (t := 35) (e := 3) one3 2 #[(0, (int (cmp3 a.e b.e))), (1, (int (cmp3 a.n b.n)))] #[(int (cmp3 a.e b.e)), (int (cmp3 a.n b.n))] (by kernel_rfl) (by decide) (by kernel_rfl))) (And.intro (And.intro trivial (Runs.dark [true] (or2_runs n3 (cmp3 a.e b.e) (cmp3 a.n b.n)))) (sk trivial))))))))))))) (And.intro trivial (@rfl Value (int (ordP a b)))))))
theorem llen_pure (a : Option Addr) (n c : Nat) : Pure Try.prog 106 [(Value.slice a n c)] (nat n) :=
  pure_of_ev mix Try.func106 rfl rfl 400 (.reg [(0, .g)] (.reg [(0, .g), (1, (.as (nat n))), (2, .g)] .done)) []
    (Eq.mp (by kernel_rfl) (And.intro (sk trivial) (And.intro (sk (And.intro (And.intro trivial (@is_len Try.prog 52 77 (.tmp 3) (by kernel_rfl) a n c)) (sk trivial))) (And.intro trivial (@rfl Value (nat n))))))
theorem lless_runs (b n c : Nat) (f : Nat → PaR) (i j : Nat) (h : i < n ∧ j < n ∧ n ≤ c) : Runs Try.prog 107 [(Value.slice (some ⟨b, 0, none⟩) n c), (nat i), (nat j)] [⟨b, false, 0, (tabS c f)⟩] 0 (fun (_ : List Nat) => Value.bool (ltP (f i) (f j))) (fun (_ : List Nat) => [some ⟨b, false, 0, (tabS c f)⟩]) :=
  runs_of_ev mix Try.func107 rfl rfl 400 (.reg [(0, .g)] (.reg [(0, .g), (1, .g), (2, (.as (ptr b (0 + i * 4)))), (3, (.ld 0 (.tab i 0))), (4, .g), (5, .g), (6, (.as (ptr b (0 + j * 4)))), (7, (.ld 0 (.tab j 0))), (8, (.call [] 0 0 (fun _ => (int (ordP (f i) (f j)))) (fun _ => []))), (9, .g), (10, .g)] .done)) [] [] rfl
    (Eq.mp (by kernel_rfl) (have f0 : i < n ∧ j < n ∧ n ≤ c := h; And.intro (sk trivial) (And.intro (sk (sk (And.intro (And.intro trivial (@is_ixSl Try.prog 52 77 (.tmp 7) (.tmp 8) 4 (by kernel_rfl) (by kernel_rfl) b 0 n c i (show i < n from by omega))) (And.intro (And.intro trivial (And.intro (show i < c from by omega) (@rfl Value (ptr b (0 + i * 4))))) (sk (sk (And.intro (And.intro trivial (@is_ixSl Try.prog 52 77 (.tmp 11) (.tmp 12) 4 (by kernel_rfl) (by kernel_rfl) b 0 n c j (show j < n from by omega))) (And.intro (And.intro trivial (And.intro (show j < c from by omega) (@rfl Value (ptr b (0 + j * 4))))) (And.intro (And.intro trivial (order_pure (f i) (f j))) (sk (sk trivial))))))))))) (And.intro trivial (@Exists.intro (List Nat) (fun (ns : List Nat) => ns.length = 0 ∧ ((Value.bool (decide (((ordP (f i) (f j)) : Int) < 0))) : Value) = (fun (_ : List Nat) => Value.bool (ltP (f i) (f j))) ns ∧ ([some ⟨b, false, 0, (tabS c f)⟩] : List (Option Blk)) = (fun (_ : List Nat) => [some ⟨b, false, 0, (tabS c f)⟩]) ns) [] (And.intro (@rfl Nat 0) (And.intro (@rfl Value (Value.bool (ltP (f i) (f j)))) (@rfl (List (Option Blk)) [some ⟨b, false, 0, (tabS c f)⟩]))))))))
theorem lswap_runs (b n c : Nat) (f : Nat → PaR) (i j : Nat) (h : i < n ∧ j < n ∧ n ≤ c) : Runs Try.prog 108 [(Value.slice (some ⟨b, 0, none⟩) n c), (nat i), (nat j)] [⟨b, true, 0, (tabS c f)⟩] 0 (fun (_ : List Nat) => Value.tuple #[]) (fun (_ : List Nat) => [some ⟨b, true, 0, (tabS c (swp f i j))⟩]) :=
  runs_of_ev mix Try.func108 rfl rfl 400 (.reg [(0, .g), (1, .g), (2, .g), (3, .g), (4, .g), (5, .g), (6, (.as (ptr b (0 + j * 4)))), (7, (.ld 0 (.tab j 0))), (8, .g), (9, .g), (10, (.as (ptr b (0 + i * 4)))), (11, (.ld 0 (.tab i 0))), (12, (.as (ptr b (0 + i * 4)))), (13, (.stc 0 (.tab i 0) (tabS c (upd f i (f j))))), (14, (.as (ptr b (0 + j * 4)))), (15, (.stc 0 (.tab j 0) (tabS c (upd (upd f i (f j)) j (f i)))))] .done) [] [] rfl
    (Eq.mp (by kernel_rfl) (have f0 : i < n ∧ j < n ∧ n ≤ c := h; And.intro (sk (sk (sk (sk (sk (sk (And.intro (And.intro trivial (@is_ixSl Try.prog 52 77 (.tmp 10) (.tmp 11) 4 (by kernel_rfl) (by kernel_rfl) b 0 n c j (show j < n from by omega))) (And.intro (And.intro trivial (And.intro (show j < c from by omega) (@rfl Value (ptr b (0 + j * 4))))) (sk (sk (And.intro (And.intro trivial (@is_ixSl Try.prog 52 77 (.tmp 14) (.tmp 15) 4 (by kernel_rfl) (by kernel_rfl) b 0 n c i (show i < n from by omega))) (And.intro (And.intro trivial (And.intro (show i < c from by omega) (@rfl Value (ptr b (0 + i * 4))))) (And.intro (And.intro trivial (@is_ixSl Try.prog 52 77 (.tmp 6) (.tmp 7) 4 (by kernel_rfl) (by kernel_rfl) b 0 n c i (show i < n from by omega))) (And.intro (And.intro trivial (And.intro (show i < c from by omega) (And.intro (@rfl Value (ptr b (0 + i * 4))) (store_tabK (sz := 4) (n := c) paC (fun a => (paC_ok a).1) f i (f j))))) (And.intro (And.intro trivial (@is_ixSl Try.prog 52 77 (.tmp 8) (.tmp 9) 4 (by kernel_rfl) (by kernel_rfl) b 0 n c j (show j < n from by omega))) (And.intro (And.intro trivial (And.intro (show j < c from by omega) (And.intro (@rfl Value (ptr b (0 + j * 4))) (store_tabK (sz := 4) (n := c) paC (fun a => (paC_ok a).1) (upd f i (f j)) j (f i))))) trivial)))))))))))))))) (And.intro trivial (@Exists.intro (List Nat) (fun (ns : List Nat) => ns.length = 0 ∧ ((Value.tuple #[]) : Value) = (fun (_ : List Nat) => Value.tuple #[]) ns ∧ ([some ⟨b, true, 0, (tabS c (upd (upd f i (f j)) j (f i)))⟩] : List (Option Blk)) = (fun (_ : List Nat) => [some ⟨b, true, 0, (tabS c (swp f i j))⟩]) ns) [] (And.intro (@rfl Nat 0) (And.intro (@rfl Value (Value.tuple #[])) (@rfl (List (Option Blk)) [some ⟨b, true, 0, (tabS c (swp f i j))⟩])))))))
def hup_runs_S1 (w : Nat) (v0 : Value) (v1 : Value) (v3 : Value) (v4 : Value) (v5 : Value) (b : Nat) (n : Nat) (c : Nat) (f : Nat → PaR) (j : Nat) (x1 : Nat × (Nat → PaR)) : St := ⟨[(0, .v (Value.iface 75 (ptr w 2))), (1, .v (nat x1.1))], [(0, some ⟨w, false, 0, (.lit [v0, v1, (Value.slice (some ⟨b, 0, none⟩) n c), v3, v4, v5])⟩), (1, some ⟨b, true, 0, (tabS c x1.2)⟩)], 2⟩
def hup_runs_R1 (w : Nat) (v0 : Value) (v1 : Value) (v3 : Value) (v4 : Value) (v5 : Value) (b : Nat) (n : Nat) (c : Nat) (f : Nat → PaR) (j : Nat) (x1 : Nat × (Nat → PaR)) : Prop := (x1.1 < n) ∧ (upF ltP x1.2 x1.1 = upF ltP f j)
def hup_runs_mu1 (w : Nat) (v0 : Value) (v1 : Value) (v3 : Value) (v4 : Value) (v5 : Value) (b : Nat) (n : Nat) (c : Nat) (f : Nat → PaR) (j : Nat) (x1 : Nat × (Nat → PaR)) : Nat := x1.1
theorem hup_runs (w : Nat) (v0 v1 v3 v4 v5 : Value) (b n c : Nat) (f : Nat → PaR) (j : Nat) (h : j < n ∧ n ≤ c ∧ n ≤ 1000000) : Runs Try.prog 60 [(Value.iface 75 (ptr w 2)), (nat j)] [⟨w, false, 0, (.lit [v0, v1, (Value.slice (some ⟨b, 0, none⟩) n c), v3, v4, v5])⟩, ⟨b, true, 0, (tabS c f)⟩] 0 (fun (_ : List Nat) => Value.tuple #[]) (fun (_ : List Nat) => [some ⟨w, false, 0, (.lit [v0, v1, (Value.slice (some ⟨b, 0, none⟩) n c), v3, v4, v5])⟩, some ⟨b, true, 0, (tabS c (upF ltP f j))⟩]) :=
  runs_of_ev mix Try.func60 rfl rfl 400 (.inv [0, 1] [0, 1] 2 (hup_runs_R1 w v0 v1 v3 v4 v5 b n c f j) (hup_runs_S1 w v0 v1 v3 v4 v5 b n c f j) (hup_runs_mu1 w v0 v1 v3 v4 v5 b n c f j) ((j, f) : Nat × (Nat → PaR)) (fun (x1 : Nat × (Nat → PaR)) => (.reg [(0, .g), (1, (.as (int (((x1.1 : Nat) : Int) - ((1 : Nat) : Int))))), (2, (.as (nat ((x1.1 - 1) / 2)))), (3, .g)] (.reg [(0, .g), (1, .g), (2, (.as (Value.bool (decide (((x1.1 - 1) / 2) = x1.1))))), (3, .g), (4, .opt .g), (5, .opt .g), (6, .opt .g), (7, .opt (.callM [(1, true), (0, true)] 0 0 (fun _ => (Value.bool (ltP (x1.2 x1.1) (x1.2 ((x1.1 - 1) / 2))))) (fun _ => [none, none]))), (8, .opt .g), (9, .pk)] (.br .done (.reg [(0, .g), (1, .g), (2, .g), (3, (.callM [(1, false), (0, true)] 0 0 (fun _ => (Value.tuple #[])) (fun _ => [some ⟨b, true, 0, (tabS c (swp x1.2 ((x1.1 - 1) / 2) x1.1))⟩, none])))] (.reg [(0, .g), (1, .g)] .done))))))) [] [] rfl
    (Eq.mp (by kernel_rfl) (have f0 : j < n ∧ n ≤ c ∧ n ≤ 1000000 := h; And.intro (show (hup_runs_R1 w v0 v1 v3 v4 v5 b n c f j) ((j, f) : Nat × (Nat → PaR)) from (show (j < n) ∧ (upF ltP f j = upF ltP f j) from by exact ⟨by omega, rfl⟩)) (And.intro (@rfl St ((hup_runs_S1 w v0 v1 v3 v4 v5 b n c f j) ((j, f) : Nat × (Nat → PaR)))) (fun (x1 : Nat × (Nat → PaR)) (hx1 : (hup_runs_R1 w v0 v1 v3 v4 v5 b n c f j) x1) => have B0 : x1.1 < n := hx1.1; have B1 : upF ltP x1.2 x1.1 = upF ltP f j := hx1.2; And.intro (sk (And.intro (And.intro trivial (@is_subni Try.prog 3 3 (.tmp 5) (.const (.int .i64 1))  x1.1 1 (show x1.1 ≤ 9223372036854775807 ∧ 1 ≤ 9223372036854775807 from by omega))) (And.intro (And.intro trivial (@is_half Try.prog 3 3 (.tmp 6) (.const (.int .i64 2))  x1.1 (show x1.1 ≤ 9223372036854775807 from by omega))) (sk trivial)))) (And.intro (sk (sk (And.intro (And.intro trivial (@is_eqln Try.prog 3 3 (.tmp 8) (.tmp 9)  ((x1.1 - 1) / 2) x1.1)) (sk (And.intro (fun (hg : (sameB (decide (((x1.1 - 1) / 2) = x1.1)) false) = true) => t2) (And.intro (fun (hg : (sameB (decide (((x1.1 - 1) / 2) = x1.1)) false) = true) => t2) (And.intro (fun (hg : (sameB (decide (((x1.1 - 1) / 2) = x1.1)) false) = true) => t2) (And.intro (fun (hg : (sameB (decide (((x1.1 - 1) / 2) = x1.1)) false) = true) => have f3 : ¬ (((x1.1 - 1) / 2) = x1.1) := (of_decide_eq_false (sameB_f hg)); (And.intro (And.intro hg (And.intro hg (And.intro hg trivial))) (mruns_get (q := 2) (F := (fun _ => False)) (by kernel_rfl : derefM Try.prog 75 "Less" 107 52 = true) ⟨w, false, 0, (.lit [v0, v1, (Value.slice (some ⟨b, 0, none⟩) n c), v3, v4, v5])⟩ (args := #[(nat x1.1), (nat ((x1.1 - 1) / 2))]) rfl rfl rfl (fun _ => rfl) (Runs.dark [true] (lless_runs b n c x1.2 x1.1 ((x1.1 - 1) / 2) (show x1.1 < n ∧ (x1.1 - 1) / 2 < n ∧ n ≤ c from by omega)))))) (And.intro (fun (hg : (sameB (decide (((x1.1 - 1) / 2) = x1.1)) false) = true) => (And.intro (And.intro hg trivial) trivial)) (And.intro (And.intro trivial (And.intro (fun (_ : (decide (((x1.1 - 1) / 2) = x1.1)) = true) => trivial) (fun (hp : (decide (((x1.1 - 1) / 2) = x1.1)) = false) => (sameB_mkf hp)))) trivial)))))))))) (And.intro trivial (And.intro (fun (h1 : (selB (decide (((x1.1 - 1) / 2) = x1.1)) true (!(ltP (x1.2 x1.1) (x1.2 ((x1.1 - 1) / 2))))) = true) => have f3 : ((((x1.1 - 1) / 2) = x1.1)) ∨ ((ltP (x1.2 x1.1) (x1.2 ((x1.1 - 1) / 2))) = false) := (Or.imp (fun h => (of_decide_eq_true h)) (fun h => (bnot_t h)) (sbor_t h1)); And.intro trivial (@Exists.intro (List Nat) (fun (ns : List Nat) => ns.length = 0 ∧ ((Value.tuple #[]) : Value) = (fun (_ : List Nat) => Value.tuple #[]) ns ∧ ([some ⟨w, false, 0, (.lit [v0, v1, (Value.slice (some ⟨b, 0, none⟩) n c), v3, v4, v5])⟩, some ⟨b, true, 0, (tabS c x1.2)⟩] : List (Option Blk)) = (fun (_ : List Nat) => [some ⟨w, false, 0, (.lit [v0, v1, (Value.slice (some ⟨b, 0, none⟩) n c), v3, v4, v5])⟩, some ⟨b, true, 0, (tabS c (upF ltP f j))⟩]) ns) [] (And.intro (@rfl Nat 0) (And.intro (@rfl Value (Value.tuple #[])) ((show ([some ⟨w, false, 0, (.lit [v0, v1, (Value.slice (some ⟨b, 0, none⟩) n c), v3, v4, v5])⟩, some ⟨b, true, 0, (tabS c x1.2)⟩] : List (Option Blk)) = [some ⟨w, false, 0, (.lit [v0, v1, (Value.slice (some ⟨b, 0, none⟩) n c), v3, v4, v5])⟩, some ⟨b, true, 0, (tabS c (upF ltP f j))⟩] from by rw [← B1, upF_end (up_end (by assumption))])))))) (fun (h1 : (selB (decide (((x1.1 - 1) / 2) = x1.1)) true (!(ltP (x1.2 x1.1) (x1.2 ((x1.1 - 1) / 2))))) = false) => have f3 : ¬ (((x1.1 - 1) / 2) = x1.1) := (of_decide_eq_false (sbor_l h1)); have f4 : (ltP (x1.2 x1.1) (x1.2 ((x1.1 - 1) / 2))) = true := (bnot_f (sbor_r h1)); And.intro (sk (sk (sk (And.intro (And.intro trivial (mruns_get (q := 2) (F := (fun _ => False)) (by kernel_rfl : derefM Try.prog 75 "Swap" 108 52 = true) ⟨w, false, 0, (.lit [v0, v1, (Value.slice (some ⟨b, 0, none⟩) n c), v3, v4, v5])⟩ (args := #[(nat ((x1.1 - 1) / 2)), (nat x1.1)]) rfl rfl rfl (fun _ => rfl) (lswap_runs b n c x1.2 ((x1.1 - 1) / 2) x1.1 (show (x1.1 - 1) / 2 < n ∧ x1.1 < n ∧ n ≤ c from by omega)))) trivial)))) (And.intro (sk (sk trivial)) ((rnd (hup_runs_R1 w v0 v1 v3 v4 v5 b n c f j) (hup_runs_S1 w v0 v1 v3 v4 v5 b n c f j) (hup_runs_mu1 w v0 v1 v3 v4 v5 b n c f j) x1 (((x1.1 - 1) / 2, swp x1.2 ((x1.1 - 1) / 2) x1.1) : Nat × (Nat → PaR)) (show (hup_runs_R1 w v0 v1 v3 v4 v5 b n c f j) (((x1.1 - 1) / 2, swp x1.2 ((x1.1 - 1) / 2) x1.1) : Nat × (Nat → PaR)) ∧ (hup_runs_mu1 w v0 v1 v3 v4 v5 b n c f j) (((x1.1 - 1) / 2, swp x1.2 ((x1.1 - 1) / 2) x1.1) : Nat × (Nat → PaR)) < (hup_runs_mu1 w v0 v1 v3 v4 v5 b n c f j) x1 from (show ((((x1.1 - 1) / 2) < n) ∧ (upF ltP (swp x1.2 ((x1.1 - 1) / 2) x1.1) ((x1.1 - 1) / 2) = upF ltP f j)) ∧ ((x1.1 - 1) / 2) < x1.1 from by exact up_step B0 B1 (by assumption))))))))))))))
def hdown_runs_S1 (w : Nat) (v0 : Value) (v1 : Value) (v3 : Value) (v4 : Value) (v5 : Value) (b : Nat) (n : Nat) (c : Nat) (f : Nat → PaR) (i : Nat) (m : Nat) (x1 : Nat × (Nat → PaR)) : St := ⟨[(0, .v (Value.iface 75 (ptr w 2))), (1, .v (nat i)), (2, .v (nat m)), (7, .v (nat x1.1))], [(0, some ⟨w, false, 0, (.lit [v0, v1, (Value.slice (some ⟨b, 0, none⟩) n c), v3, v4, v5])⟩), (1, some ⟨b, true, 0, (tabS c x1.2)⟩)], 2⟩
def hdown_runs_R1 (w : Nat) (v0 : Value) (v1 : Value) (v3 : Value) (v4 : Value) (v5 : Value) (b : Nat) (n : Nat) (c : Nat) (f : Nat → PaR) (i : Nat) (m : Nat) (x1 : Nat × (Nat → PaR)) : Prop := (x1.1 ≤ 1000000) ∧ (dnF ltP m x1.2 x1.1 = dnF ltP m f i)
def hdown_runs_mu1 (w : Nat) (v0 : Value) (v1 : Value) (v3 : Value) (v4 : Value) (v5 : Value) (b : Nat) (n : Nat) (c : Nat) (f : Nat → PaR) (i : Nat) (m : Nat) (x1 : Nat × (Nat → PaR)) : Nat := 1000000 - x1.1
theorem hdown_runs (w : Nat) (v0 v1 v3 v4 v5 : Value) (b n c : Nat) (f : Nat → PaR) (i m : Nat) (h : m ≤ n ∧ n ≤ c ∧ n ≤ 1000000 ∧ i ≤ 1000000) : Runs Try.prog 61 [(Value.iface 75 (ptr w 2)), (nat i), (nat m)] [⟨w, false, 0, (.lit [v0, v1, (Value.slice (some ⟨b, 0, none⟩) n c), v3, v4, v5])⟩, ⟨b, true, 0, (tabS c f)⟩] 0 (fun (_ : List Nat) => Value.bool (decide (i < (dnF ltP m f i).2))) (fun (_ : List Nat) => [some ⟨w, false, 0, (.lit [v0, v1, (Value.slice (some ⟨b, 0, none⟩) n c), v3, v4, v5])⟩, some ⟨b, true, 0, (tabS c ((dnF ltP m f i).1))⟩]) :=
  runs_of_ev mix Try.func61 rfl rfl 400 (.reg [(0, .g)] (.reg [(0, .g), (1, .g)] (.inv [0, 1, 2, 7] [0, 1] 2 (hdown_runs_R1 w v0 v1 v3 v4 v5 b n c f i m) (hdown_runs_S1 w v0 v1 v3 v4 v5 b n c f i m) (hdown_runs_mu1 w v0 v1 v3 v4 v5 b n c f i m) ((i, f) : Nat × (Nat → PaR)) (fun (x1 : Nat × (Nat → PaR)) => (.reg [(0, .g), (1, (.as (nat (2 * x1.1)))), (2, (.as (nat ((2 * x1.1) + 1)))), (3, .g)] (.reg [(0, .g), (1, .g), (2, (.as (Value.bool (decide (m ≤ ((2 * x1.1) + 1)))))), (3, .g), (4, .opt .g), (5, .opt (.as (Value.bool (decide (((2 * x1.1) + 1) < 0))))), (6, .pk)] (.br (.reg [(0, .g), (1, .g), (2, (.as (Value.bool (decide (i < x1.1))))), (3, .g)] .done) (.reg [(0, .g), (1, .g)] (.reg [(0, .g), (1, (.as (nat (((2 * x1.1) + 1) + 1)))), (2, .g)] (.reg [(0, .g), (1, .g), (2, (.as (Value.bool (decide ((((2 * x1.1) + 1) + 1) < m))))), (3, .g), (4, .opt .g), (5, .opt .g), (6, .opt .g), (7, .opt (.callM [(1, true), (0, true)] 0 0 (fun _ => (Value.bool (ltP (x1.2 (((2 * x1.1) + 1) + 1)) (x1.2 ((2 * x1.1) + 1))))) (fun _ => [none, none]))), (8, .pk)] (.br (.reg [(0, .g), (1, .g)] (.reg [(0, .g), (1, .g), (2, .g), (3, (.callM [(1, true), (0, true)] 0 0 (fun _ => (Value.bool (ltP (x1.2 (((2 * x1.1) + 1) + 1)) (x1.2 x1.1)))) (fun _ => [none, none]))), (4, .g)] (.br (.reg [(0, .g), (1, .g), (2, (.as (Value.bool (decide (i < x1.1))))), (3, .g)] .done) (.reg [(0, .g), (1, .g), (2, .g), (3, (.callM [(1, false), (0, true)] 0 0 (fun _ => (Value.tuple #[])) (fun _ => [some ⟨b, true, 0, (tabS c (swp x1.2 x1.1 (((2 * x1.1) + 1) + 1)))⟩, none])))] (.reg [(0, .g), (1, .g)] .done))))) (.reg [(0, .g), (1, .g), (2, .g), (3, (.callM [(1, true), (0, true)] 0 0 (fun _ => (Value.bool (ltP (x1.2 ((2 * x1.1) + 1)) (x1.2 x1.1)))) (fun _ => [none, none]))), (4, .g)] (.br (.reg [(0, .g), (1, .g), (2, (.as (Value.bool (decide (i < x1.1))))), (3, .g)] .done) (.reg [(0, .g), (1, .g), (2, .g), (3, (.callM [(1, false), (0, true)] 0 0 (fun _ => (Value.tuple #[])) (fun _ => [some ⟨b, true, 0, (tabS c (swp x1.2 x1.1 ((2 * x1.1) + 1)))⟩, none])))] (.reg [(0, .g), (1, .g)] .done))))))))))))))) [] [] rfl
    (Eq.mp (by kernel_rfl) (have f0 : m ≤ n ∧ n ≤ c ∧ n ≤ 1000000 ∧ i ≤ 1000000 := h; And.intro (sk trivial) (And.intro (sk (sk trivial)) (And.intro (show (hdown_runs_R1 w v0 v1 v3 v4 v5 b n c f i m) ((i, f) : Nat × (Nat → PaR)) from (show (i ≤ 1000000) ∧ (dnF ltP m f i = dnF ltP m f i) from by exact ⟨by omega, rfl⟩)) (And.intro (@rfl St ((hdown_runs_S1 w v0 v1 v3 v4 v5 b n c f i m) ((i, f) : Nat × (Nat → PaR)))) (fun (x1 : Nat × (Nat → PaR)) (hx1 : (hdown_runs_R1 w v0 v1 v3 v4 v5 b n c f i m) x1) => have B0 : x1.1 ≤ 1000000 := hx1.1; have B1 : dnF ltP m x1.2 x1.1 = dnF ltP m f i := hx1.2; And.intro (sk (And.intro (And.intro trivial (@is_muln Try.prog 3 3 (.const (.int .i64 2)) (.tmp 12)  2 x1.1 (show 2 * x1.1 ≤ 9223372036854775807 from by omega))) (And.intro (And.intro trivial (@is_addn Try.prog 3 3 (.tmp 13) (.const (.int .i64 1))  (2 * x1.1) 1 (show (2 * x1.1) + 1 ≤ 9223372036854775807 from by omega))) (sk trivial)))) (And.intro (sk (sk (And.intro (And.intro trivial (@is_geqn Try.prog 3 3 (.tmp 15) (.tmp 16)  ((2 * x1.1) + 1) m)) (sk (And.intro (fun (hg : (sameB (decide (m ≤ ((2 * x1.1) + 1))) false) = true) => t2) (And.intro (fun (hg : (sameB (decide (m ≤ ((2 * x1.1) + 1))) false) = true) => (And.intro (And.intro hg trivial) (@is_lssn Try.prog 3 3 (.tmp 19) (.const (.int .i64 0))  ((2 * x1.1) + 1) 0))) (And.intro (And.intro trivial (And.intro (fun (_ : (decide (m ≤ ((2 * x1.1) + 1))) = true) => trivial) (fun (hp : (decide (m ≤ ((2 * x1.1) + 1))) = false) => (sameB_mkf hp)))) trivial))))))) (And.intro trivial (And.intro (fun (h1 : (selB (decide (m ≤ ((2 * x1.1) + 1))) true (decide (((2 * x1.1) + 1) < 0))) = true) => have f3 : ((m ≤ ((2 * x1.1) + 1))) ∨ ((((2 * x1.1) + 1) < 0)) := (Or.imp (fun h => (of_decide_eq_true h)) (fun h => (of_decide_eq_true h)) (sbor_t h1)); And.intro (sk (sk (And.intro (And.intro trivial (@is_gtrn Try.prog 3 3 (.tmp 45) (.tmp 46)  x1.1 i)) (sk trivial)))) (And.intro trivial (@Exists.intro (List Nat) (fun (ns : List Nat) => ns.length = 0 ∧ ((Value.bool (decide (i < x1.1))) : Value) = (fun (_ : List Nat) => Value.bool (decide (i < (dnF ltP m f i).2))) ns ∧ ([some ⟨w, false, 0, (.lit [v0, v1, (Value.slice (some ⟨b, 0, none⟩) n c), v3, v4, v5])⟩, some ⟨b, true, 0, (tabS c x1.2)⟩] : List (Option Blk)) = (fun (_ : List Nat) => [some ⟨w, false, 0, (.lit [v0, v1, (Value.slice (some ⟨b, 0, none⟩) n c), v3, v4, v5])⟩, some ⟨b, true, 0, (tabS c ((dnF ltP m f i).1))⟩]) ns) [] (And.intro (@rfl Nat 0) (And.intro ((show (Value.bool (decide (i < x1.1))) = Value.bool (decide (i < (dnF ltP m f i).2)) from by first | rw [dn_none B1 (by omega)] | rw [dn_r B1 (by assumption) (by assumption)] | rw [dn_l B1 (by assumption) (by assumption)])) ((show ([some ⟨w, false, 0, (.lit [v0, v1, (Value.slice (some ⟨b, 0, none⟩) n c), v3, v4, v5])⟩, some ⟨b, true, 0, (tabS c x1.2)⟩] : List (Option Blk)) = [some ⟨w, false, 0, (.lit [v0, v1, (Value.slice (some ⟨b, 0, none⟩) n c), v3, v4, v5])⟩, some ⟨b, true, 0, (tabS c ((dnF ltP m f i).1))⟩] from by first | rw [dn_none B1 (by omega)] | rw [dn_r B1 (by assumption) (by assumption)] | rw [dn_l B1 (by assumption) (by assumption)]))))))) (fun (h1 : (selB (decide (m ≤ ((2 * x1.1) + 1))) true (decide (((2 * x1.1) + 1) < 0))) = false) => have f3 : ¬ (m ≤ ((2 * x1.1) + 1)) := (of_decide_eq_false (sbor_l h1)); have f4 : ¬ (((2 * x1.1) + 1) < 0) := (of_decide_eq_false (sbor_r h1)); And.intro (sk (sk trivial)) (And.intro (sk (And.intro (And.intro trivial (@is_addn Try.prog 3 3 (.tmp 23) (.const (.int .i64 1))  ((2 * x1.1) + 1) 1 (show ((2 * x1.1) + 1) + 1 ≤ 9223372036854775807 from by omega))) (sk trivial))) (And.intro (sk (sk (And.intro (And.intro trivial (@is_lssn Try.prog 3 3 (.tmp 25) (.tmp 26)  (((2 * x1.1) + 1) + 1) m)) (sk (And.intro (fun (hg : (sameB (decide ((((2 * x1.1) + 1) + 1) < m)) true) = true) => t2) (And.intro (fun (hg : (sameB (decide ((((2 * x1.1) + 1) + 1) < m)) true) = true) => t2) (And.intro (fun (hg : (sameB (decide ((((2 * x1.1) + 1) + 1) < m)) true) = true) => t2) (And.intro (fun (hg : (sameB (decide ((((2 * x1.1) + 1) + 1) < m)) true) = true) => have f5 : ((((2 * x1.1) + 1) + 1) < m) := (of_decide_eq_true (sameB_t hg)); (And.intro (And.intro hg (And.intro hg (And.intro hg trivial))) (mruns_get (q := 2) (F := (fun _ => False)) (by kernel_rfl : derefM Try.prog 75 "Less" 107 52 = true) ⟨w, false, 0, (.lit [v0, v1, (Value.slice (some ⟨b, 0, none⟩) n c), v3, v4, v5])⟩ (args := #[(nat (((2 * x1.1) + 1) + 1)), (nat ((2 * x1.1) + 1))]) rfl rfl rfl (fun _ => rfl) (Runs.dark [true] (lless_runs b n c x1.2 (((2 * x1.1) + 1) + 1) ((2 * x1.1) + 1) (show ((2 * x1.1) + 1) + 1 < n ∧ (2 * x1.1) + 1 < n ∧ n ≤ c from by omega)))))) (And.intro (And.intro trivial (And.intro (fun (hp : (decide ((((2 * x1.1) + 1) + 1) < m)) = true) => (sameB_mk hp)) (fun (_ : (decide ((((2 * x1.1) + 1) + 1) < m)) = false) => trivial))) trivial))))))))) (And.intro trivial (And.intro (fun (h2 : (selB (decide ((((2 * x1.1) + 1) + 1) < m)) (ltP (x1.2 (((2 * x1.1) + 1) + 1)) (x1.2 ((2 * x1.1) + 1))) false) = true) => have f5 : ((((2 * x1.1) + 1) + 1) < m) := (of_decide_eq_true (sband_l h2)); have f6 : (ltP (x1.2 (((2 * x1.1) + 1) + 1)) (x1.2 ((2 * x1.1) + 1))) = true := (sband_r h2); And.intro (sk (sk trivial)) (And.intro (sk (sk (sk (And.intro (And.intro trivial (mruns_get (q := 2) (F := (fun _ => False)) (by kernel_rfl : derefM Try.prog 75 "Less" 107 52 = true) ⟨w, false, 0, (.lit [v0, v1, (Value.slice (some ⟨b, 0, none⟩) n c), v3, v4, v5])⟩ (args := #[(nat (((2 * x1.1) + 1) + 1)), (nat x1.1)]) rfl rfl rfl (fun _ => rfl) (Runs.dark [true] (lless_runs b n c x1.2 (((2 * x1.1) + 1) + 1) x1.1 (show ((2 * x1.1) + 1) + 1 < n ∧ x1.1 < n ∧ n ≤ c from by omega))))) (sk trivial))))) (And.intro trivial (And.intro (fun (h3 : (!(ltP (x1.2 (((2 * x1.1) + 1) + 1)) (x1.2 x1.1))) = true) => have f7 : (ltP (x1.2 (((2 * x1.1) + 1) + 1)) (x1.2 x1.1)) = false := (bnot_t h3); And.intro (sk (sk (And.intro (And.intro trivial (@is_gtrn Try.prog 3 3 (.tmp 45) (.tmp 46)  x1.1 i)) (sk trivial)))) (And.intro trivial (@Exists.intro (List Nat) (fun (ns : List Nat) => ns.length = 0 ∧ ((Value.bool (decide (i < x1.1))) : Value) = (fun (_ : List Nat) => Value.bool (decide (i < (dnF ltP m f i).2))) ns ∧ ([some ⟨w, false, 0, (.lit [v0, v1, (Value.slice (some ⟨b, 0, none⟩) n c), v3, v4, v5])⟩, some ⟨b, true, 0, (tabS c x1.2)⟩] : List (Option Blk)) = (fun (_ : List Nat) => [some ⟨w, false, 0, (.lit [v0, v1, (Value.slice (some ⟨b, 0, none⟩) n c), v3, v4, v5])⟩, some ⟨b, true, 0, (tabS c ((dnF ltP m f i).1))⟩]) ns) [] (And.intro (@rfl Nat 0) (And.intro ((show (Value.bool (decide (i < x1.1))) = Value.bool (decide (i < (dnF ltP m f i).2)) from by first | rw [dn_none B1 (by omega)] | rw [dn_r B1 (by assumption) (by assumption)] | rw [dn_l B1 (by assumption) (by assumption)])) ((show ([some ⟨w, false, 0, (.lit [v0, v1, (Value.slice (some ⟨b, 0, none⟩) n c), v3, v4, v5])⟩, some ⟨b, true, 0, (tabS c x1.2)⟩] : List (Option Blk)) = [some ⟨w, false, 0, (.lit [v0, v1, (Value.slice (some ⟨b, 0, none⟩) n c), v3, v4, v5])⟩, some ⟨b, true, 0, (tabS c ((dnF ltP m f i).1))⟩] from by first | rw [dn_none B1 (by omega)] | rw [dn_r B1 (by assumption) (by assumption)] | rw [dn_l B1 (by assumption) (by assumption)]))))))) (fun (h3 : (!(ltP (x1.2 (((2 * x1.1) + 1) + 1)) (x1.2 x1.1))) = false) => have f7 : (ltP (x1.2 (((2 * x1.1) + 1) + 1)) (x1.2 x1.1)) = true := (bnot_f h3); And.intro (sk (sk (sk (And.intro (And.intro trivial (mruns_get (q := 2) (F := (fun _ => False)) (by kernel_rfl : derefM Try.prog 75 "Swap" 108 52 = true) ⟨w, false, 0, (.lit [v0, v1, (Value.slice (some ⟨b, 0, none⟩) n c), v3, v4, v5])⟩ (args := #[(nat x1.1), (nat (((2 * x1.1) + 1) + 1))]) rfl rfl rfl (fun _ => rfl) (lswap_runs b n c x1.2 x1.1 (((2 * x1.1) + 1) + 1) (show x1.1 < n ∧ ((2 * x1.1) + 1) + 1 < n ∧ n ≤ c from by omega)))) trivial)))) (And.intro (sk (sk trivial)) ((rnd (hdown_runs_R1 w v0 v1 v3 v4 v5 b n c f i m) (hdown_runs_S1 w v0 v1 v3 v4 v5 b n c f i m) (hdown_runs_mu1 w v0 v1 v3 v4 v5 b n c f i m) x1 ((((2 * x1.1) + 1) + 1, swp x1.2 x1.1 (((2 * x1.1) + 1) + 1)) : Nat × (Nat → PaR)) (show (hdown_runs_R1 w v0 v1 v3 v4 v5 b n c f i m) ((((2 * x1.1) + 1) + 1, swp x1.2 x1.1 (((2 * x1.1) + 1) + 1)) : Nat × (Nat → PaR)) ∧ (hdown_runs_mu1 w v0 v1 v3 v4 v5 b n c f i m) ((((2 * x1.1) + 1) + 1, swp x1.2 x1.1 (((2 * x1.1) + 1) + 1)) : Nat × (Nat → PaR)) < (hdown_runs_mu1 w v0 v1 v3 v4 v5 b n c f i m) x1 from (show (((((2 * x1.1) + 1) + 1) ≤ 1000000) ∧ (dnF ltP m (swp x1.2 x1.1 (((2 * x1.1) + 1) + 1)) (((2 * x1.1) + 1) + 1) = dnF ltP m f i)) ∧ (1000000 - (((2 * x1.1) + 1) + 1)) < (1000000 - x1.1) from by first | exact dn_step_r h.1 h.2.2.1 B0 B1 (by omega) (by assumption) (by assumption) | exact dn_step_l h.1 h.2.2.1 B0 B1 (by omega) (by assumption) (by assumption))))))))))) (fun (h2 : (selB (decide ((((2 * x1.1) + 1) + 1) < m)) (ltP (x1.2 (((2 * x1.1) + 1) + 1)) (x1.2 ((2 * x1.1) + 1))) false) = false) => have f5 : (¬ ((((2 * x1.1) + 1) + 1) < m)) ∨ ((ltP (x1.2 (((2 * x1.1) + 1) + 1)) (x1.2 ((2 * x1.1) + 1))) = false) := (Or.imp (fun h => (of_decide_eq_false h)) (fun h => h) (sband_f h2)); And.intro (sk (sk (sk (And.intro (And.intro trivial (mruns_get (q := 2) (F := (fun _ => False)) (by kernel_rfl : derefM Try.prog 75 "Less" 107 52 = true) ⟨w, false, 0, (.lit [v0, v1, (Value.slice (some ⟨b, 0, none⟩) n c), v3, v4, v5])⟩ (args := #[(nat ((2 * x1.1) + 1)), (nat x1.1)]) rfl rfl rfl (fun _ => rfl) (Runs.dark [true] (lless_runs b n c x1.2 ((2 * x1.1) + 1) x1.1 (show (2 * x1.1) + 1 < n ∧ x1.1 < n ∧ n ≤ c from by omega))))) (sk trivial))))) (And.intro trivial (And.intro (fun (h4 : (!(ltP (x1.2 ((2 * x1.1) + 1)) (x1.2 x1.1))) = true) => have f6 : (ltP (x1.2 ((2 * x1.1) + 1)) (x1.2 x1.1)) = false := (bnot_t h4); And.intro (sk (sk (And.intro (And.intro trivial (@is_gtrn Try.prog 3 3 (.tmp 45) (.tmp 46)  x1.1 i)) (sk trivial)))) (And.intro trivial (@Exists.intro (List Nat) (fun (ns : List Nat) => ns.length = 0 ∧ ((Value.bool (decide (i < x1.1))) : Value) = (fun (_ : List Nat) => Value.bool (decide (i < (dnF ltP m f i).2))) ns ∧ ([some ⟨w, false, 0, (.lit [v0, v1, (Value.slice (some ⟨b, 0, none⟩) n c), v3, v4, v5])⟩, some ⟨b, true, 0, (tabS c x1.2)⟩] : List (Option Blk)) = (fun (_ : List Nat) => [some ⟨w, false, 0, (.lit [v0, v1, (Value.slice (some ⟨b, 0, none⟩) n c), v3, v4, v5])⟩, some ⟨b, true, 0, (tabS c ((dnF ltP m f i).1))⟩]) ns) [] (And.intro (@rfl Nat 0) (And.intro ((show (Value.bool (decide (i < x1.1))) = Value.bool (decide (i < (dnF ltP m f i).2)) from by first | rw [dn_none B1 (by omega)] | rw [dn_r B1 (by assumption) (by assumption)] | rw [dn_l B1 (by assumption) (by assumption)])) ((show ([some ⟨w, false, 0, (.lit [v0, v1, (Value.slice (some ⟨b, 0, none⟩) n c), v3, v4, v5])⟩, some ⟨b, true, 0, (tabS c x1.2)⟩] : List (Option Blk)) = [some ⟨w, false, 0, (.lit [v0, v1, (Value.slice (some ⟨b, 0, none⟩) n c), v3, v4, v5])⟩, some ⟨b, true, 0, (tabS c ((dnF ltP m f i).1))⟩] from by first | rw [dn_none B1 (by omega)] | rw [dn_r B1 (by assumption) (by assumption)] | rw [dn_l B1 (by assumption) (by assumption)]))))))) (fun (h4 : (!(ltP (x1.2 ((2 * x1.1) + 1)) (x1.2 x1.1))) = false) => have f6 : (ltP (x1.2 ((2 * x1.1) + 1)) (x1.2 x1.1)) = true := (bnot_f h4); And.intro (sk (sk (sk (And.intro (And.intro trivial (mruns_get (q := 2) (F := (fun _ => False)) (by kernel_rfl : derefM Try.prog 75 "Swap" 108 52 = true) ⟨w, false, 0, (.lit [v0, v1, (Value.slice (some ⟨b, 0, none⟩) n c), v3, v4, v5])⟩ (args := #[(nat x1.1), (nat ((2 * x1.1) + 1))]) rfl rfl rfl (fun _ => rfl) (lswap_runs b n c x1.2 x1.1 ((2 * x1.1) + 1) (show x1.1 < n ∧ (2 * x1.1) + 1 < n ∧ n ≤ c from by omega)))) trivial)))) (And.intro (sk (sk trivial)) ((rnd (hdown_runs_R1 w v0 v1 v3 v4 v5 b n c f i m) (hdown_runs_S1 w v0 v1 v3 v4 v5 b n c f i m) (hdown_runs_mu1 w v0 v1 v3 v4 v5 b n c f i m) x1 (((2 * x1.1) + 1, swp x1.2 x1.1 ((2 * x1.1) + 1)) : Nat × (Nat → PaR)) (show (hdown_runs_R1 w v0 v1 v3 v4 v5 b n c f i m) (((2 * x1.1) + 1, swp x1.2 x1.1 ((2 * x1.1) + 1)) : Nat × (Nat → PaR)) ∧ (hdown_runs_mu1 w v0 v1 v3 v4 v5 b n c f i m) (((2 * x1.1) + 1, swp x1.2 x1.1 ((2 * x1.1) + 1)) : Nat × (Nat → PaR)) < (hdown_runs_mu1 w v0 v1 v3 v4 v5 b n c f i m) x1 from (show ((((2 * x1.1) + 1) ≤ 1000000) ∧ (dnF ltP m (swp x1.2 x1.1 ((2 * x1.1) + 1)) ((2 * x1.1) + 1) = dnF ltP m f i)) ∧ (1000000 - ((2 * x1.1) + 1)) < (1000000 - x1.1) from by first | exact dn_step_r h.1 h.2.2.1 B0 B1 (by omega) (by assumption) (by assumption) | exact dn_step_l h.1 h.2.2.1 B0 B1 (by omega) (by assumption) (by assumption))))))))))))))))))))))))
theorem lpush_own (w : Nat) (v0 v1 v3 v4 v5 : Value) (b n c : Nat) (f : Nat → PaR) (x : PaR) (h : n ≤ c ∧ n ≤ 999999) : Runs Try.prog 110 [(ptr w 2), (Value.iface 77 (Value.agg #[(nat x.w), (u64 x.a), (u64 x.e), (u64 x.n)]))] [⟨w, true, 0, (.lit [v0, v1, (Value.slice (some ⟨b, 0, none⟩) n c), v3, v4, v5])⟩, ⟨b, true, 0, (tabS c f)⟩] 2 (fun (ns : List Nat) => (Value.tuple #[])) (fun (ns : List Nat) => [some ⟨w, true, 0, (.lit [v0, v1, (Value.slice (some ⟨(ns.getD 0 0), 0, none⟩) (n + 1) (n + 1 + (ns.getD 1 0))), v3, v4, v5])⟩, some ⟨(ns.getD 0 0), true, 0, (tabS (n + 1 + (ns.getD 1 0)) (pshG f n x paZ b (ns.getD 0 0)))⟩]) :=
  runs_of_ev mix Try.func110 rfl rfl 400 (.regn [(0, .g), (1, .g), (2, .g), (3, (.ld 0 (.lit 2))), (4, .g), (5, .g), (6, (.oth [] 1 1 (fun ns => Value.slice (some ⟨ns.getD 0 0, 0, none⟩) 1 1) (fun ns => [some ⟨ns.getD 0 0, true, 0, .lit [(nat x.w), (u64 x.a), (u64 x.e), (u64 x.n)]⟩]))), (7, (.oth [(1, false), (2, true)] 2 0 (fun ns => Value.slice (some ⟨(ns.getD 0 0), 0, none⟩) (n + 1) (n + 1 + (ns.getD 1 0))) (fun ns => [some ⟨(ns.getD 0 0), true, 0, (tabS (n + 1 + (ns.getD 1 0)) (pshG f n x paZ b (ns.getD 0 0)))⟩, none]))), (8, .g), (9, (.st 0 (.lit 2)))] (more (fun n1 => more (fun n2 => more (fun n3 => fun _ => .done))))) [] [] rfl
    (Eq.mp (by kernel_rfl) (have f0 : n ≤ c ∧ n ≤ 999999 := h; fun (n1 n2 n3 : Nat) => And.intro (sk (sk (sk (And.intro (And.intro trivial (ad w 2)) (sk (sk (And.intro (And.intro trivial (mkE_build (P := Try.prog) (t := 52) (e := 77) (z := (Value.agg #[(int 0), (u64 0), (u64 0), (u64 0)])) agg77 (by kernel_rfl) 1 #[(0, (Value.agg #[(nat x.w), (u64 x.a), (u64 x.e), (u64 x.n)]))] #[(nat x.w), (u64 x.a), (u64 x.e), (u64 x.n)] (by kernel_rfl) (by decide) (by kernel_rfl))) (And.intro (And.intro trivial (SRuns.dark [false, true] (mkJ_append (P := Try.prog) (t := 52) (ty := 52) (e := 77) (by kernel_rfl) agg77 b n c n1 0 0 1 paC paC_ok f x paZ rfl (.lit [(nat x.w), (u64 x.a), (u64 x.e), (u64 x.n)]) (fun j _ => get_lit j) (show n ≤ c from by omega) (show (n + 1) * 32 ≤ 140737488355328 ∧ n + 1 ≤ 9223372036854775807 from by omega)))) (sk (And.intro (And.intro trivial (ad w 2)) trivial)))))))))) (And.intro trivial (@Exists.intro (List Nat) (fun (ns : List Nat) => ns.length = 2 ∧ ((Value.tuple #[]) : Value) = (fun (ns : List Nat) => (Value.tuple #[])) ns ∧ ([some ⟨w, true, 0, (.lit [v0, v1, (Value.slice (some ⟨n2, 0, none⟩) (n + 1) (n + 1 + n3)), v3, v4, v5])⟩, some ⟨n2, true, 0, (tabS (n + 1 + n3) (pshG f n x paZ b n2))⟩] : List (Option Blk)) = (fun (ns : List Nat) => [some ⟨w, true, 0, (.lit [v0, v1, (Value.slice (some ⟨(ns.getD 0 0), 0, none⟩) (n + 1) (n + 1 + (ns.getD 1 0))), v3, v4, v5])⟩, some ⟨(ns.getD 0 0), true, 0, (tabS (n + 1 + (ns.getD 1 0)) (pshG f n x paZ b (ns.getD 0 0)))⟩]) ns) [n2, n3] (And.intro (@rfl Nat 2) (And.intro (@rfl Value (Value.tuple #[])) (@rfl (List (Option Blk)) [some ⟨w, true, 0, (.lit [v0, v1, (Value.slice (some ⟨n2, 0, none⟩) (n + 1) (n + 1 + n3)), v3, v4, v5])⟩, some ⟨n2, true, 0, (tabS (n + 1 + n3) (pshG f n x paZ b n2))⟩])))))))
theorem lpush_nil (w : Nat) (v0 v1 v3 v4 v5 : Value) (x : PaR) : Runs Try.prog 110 [(ptr w 2), (Value.iface 77 (Value.agg #[(nat x.w), (u64 x.a), (u64 x.e), (u64 x.n)]))] [⟨w, true, 0, (.lit [v0, v1, (Value.slice none 0 0), v3, v4, v5])⟩] 2 (fun (ns : List Nat) => (Value.tuple #[])) (fun (ns : List Nat) => [some ⟨w, true, 0, (.lit [v0, v1, (Value.slice (some ⟨(ns.getD 0 0), 0, none⟩) 1 (1 + (ns.getD 1 0))), v3, v4, v5])⟩, some ⟨(ns.getD 0 0), true, 0, (tabS (1 + (ns.getD 1 0)) (pshG (fun _ => paZ) 0 x paZ 0 0))⟩]) :=
  runs_of_ev mix Try.func110 rfl rfl 400 (.regn [(0, .g), (1, .g), (2, .g), (3, (.ld 0 (.lit 2))), (4, .g), (5, .g), (6, (.oth [] 1 1 (fun ns => Value.slice (some ⟨ns.getD 0 0, 0, none⟩) 1 1) (fun ns => [some ⟨ns.getD 0 0, true, 0, .lit [(nat x.w), (u64 x.a), (u64 x.e), (u64 x.n)]⟩]))), (7, (.oth [(1, true)] 2 1 (fun ns => Value.slice (some ⟨(ns.getD 0 0), 0, none⟩) 1 (1 + (ns.getD 1 0))) (fun ns => [none, some ⟨(ns.getD 0 0), true, 0, (tabS (1 + (ns.getD 1 0)) (pshG (fun _ => paZ) 0 x paZ 0 0))⟩]))), (8, .g), (9, (.st 0 (.lit 2)))] (more (fun n1 => more (fun n2 => more (fun n3 => fun _ => .done))))) [] [2] rfl
    (Eq.mp (by kernel_rfl) (fun (n1 n2 n3 : Nat) => And.intro (sk (sk (sk (And.intro (And.intro trivial (ad w 2)) (sk (sk (And.intro (And.intro trivial (mkE_build (P := Try.prog) (t := 52) (e := 77) (z := (Value.agg #[(int 0), (u64 0), (u64 0), (u64 0)])) agg77 (by kernel_rfl) 1 #[(0, (Value.agg #[(nat x.w), (u64 x.a), (u64 x.e), (u64 x.n)]))] #[(nat x.w), (u64 x.a), (u64 x.e), (u64 x.n)] (by kernel_rfl) (by decide) (by kernel_rfl))) (And.intro (And.intro trivial (SRuns.dark [true] (mkJ_append_nil (P := Try.prog) (t := 52) (ty := 52) (e := 77) (by kernel_rfl) agg77 n1 0 0 1 paC paC_ok x paZ rfl (.lit [(nat x.w), (u64 x.a), (u64 x.e), (u64 x.n)]) (fun j _ => get_lit j) (by decide)))) (sk (And.intro (And.intro trivial (ad w 2)) trivial)))))))))) (And.intro trivial (@Exists.intro (List Nat) (fun (ns : List Nat) => ns.length = 2 ∧ ((Value.tuple #[]) : Value) = (fun (ns : List Nat) => (Value.tuple #[])) ns ∧ ([some ⟨w, true, 0, (.lit [v0, v1, (Value.slice (some ⟨n2, 0, none⟩) 1 (1 + n3)), v3, v4, v5])⟩, some ⟨n2, true, 0, (tabS (1 + n3) (pshG (fun _ => paZ) 0 x paZ 0 0))⟩] : List (Option Blk)) = (fun (ns : List Nat) => [some ⟨w, true, 0, (.lit [v0, v1, (Value.slice (some ⟨(ns.getD 0 0), 0, none⟩) 1 (1 + (ns.getD 1 0))), v3, v4, v5])⟩, some ⟨(ns.getD 0 0), true, 0, (tabS (1 + (ns.getD 1 0)) (pshG (fun _ => paZ) 0 x paZ 0 0))⟩]) ns) [n2, n3] (And.intro (@rfl Nat 2) (And.intro (@rfl Value (Value.tuple #[])) (@rfl (List (Option Blk)) [some ⟨w, true, 0, (.lit [v0, v1, (Value.slice (some ⟨n2, 0, none⟩) 1 (1 + n3)), v3, v4, v5])⟩, some ⟨n2, true, 0, (tabS (1 + n3) (pshG (fun _ => paZ) 0 x paZ 0 0))⟩])))))))
theorem hpush_own (w : Nat) (v0 v1 v3 v4 v5 : Value) (b n c : Nat) (f : Nat → PaR) (x : PaR) (h : n ≤ c ∧ n ≤ 999999) : Runs Try.prog 46 [(Value.iface 75 (ptr w 2)), (Value.iface 77 (Value.agg #[(nat x.w), (u64 x.a), (u64 x.e), (u64 x.n)]))] [⟨w, true, 0, (.lit [v0, v1, (Value.slice (some ⟨b, 0, none⟩) n c), v3, v4, v5])⟩, ⟨b, true, 0, (tabS c f)⟩] 2 (fun (ns : List Nat) => (Value.tuple #[])) (fun (ns : List Nat) => [some ⟨w, true, 0, (.lit [v0, v1, (Value.slice (some ⟨(ns.getD 0 0), 0, none⟩) (n + 1) (n + 1 + (ns.getD 1 0))), v3, v4, v5])⟩, some ⟨(ns.getD 0 0), true, 0, (tabS (n + 1 + (ns.getD 1 0)) (upF ltP (pshG f n x paZ b (ns.getD 0 0)) ((n + 1) - 1)))⟩]) :=
  runs_of_ev mix Try.func46 rfl rfl 400 (.regn [(0, .g), (1, .g), (2, (.call [(0, false), (1, false)] 2 0 (fun _ => Value.tuple #[]) (fun ns => [some ⟨w, true, 0, (.lit [v0, v1, (Value.slice (some ⟨(ns.getD 0 0), 0, none⟩) (n + 1) (n + 1 + (ns.getD 1 0))), v3, v4, v5])⟩, some ⟨(ns.getD 0 0), true, 0, (tabS (n + 1 + (ns.getD 1 0)) (pshG f n x paZ b (ns.getD 0 0)))⟩])))] (more (fun n1 => more (fun n2 => fun _ => (.reg [(0, .g), (1, .g), (2, (.callM [(0, true)] 0 0 (fun _ => nat (n + 1)) (fun _ => [none]))), (3, (.as (nat ((n + 1) - 1)))), (4, (.call [(0, true), (1, false)] 0 0 (fun _ => (Value.tuple #[])) (fun _ => [none, some ⟨n1, true, 0, (tabS (n + 1 + n2) (upF ltP (pshG f n x paZ b n1) ((n + 1) - 1)))⟩])))] .done))))) [] [] rfl
    (Eq.mp (by kernel_rfl) (have f0 : n ≤ c ∧ n ≤ 999999 := h; fun (n1 n2 : Nat) => And.intro (sk (sk (And.intro (And.intro trivial (lpush_own w v0 v1 v3 v4 v5 b n c f x (show n ≤ c ∧ n ≤ 999999 from by omega))) trivial))) (And.intro (sk (sk (And.intro (And.intro trivial (mruns_get (q := 2) (F := (fun _ => False)) (by kernel_rfl : derefM Try.prog 75 "Len" 106 52 = true) ⟨w, false, 0, (.lit [v0, v1, (Value.slice (some ⟨n1, 0, none⟩) (n + 1) (n + 1 + n2)), v3, v4, v5])⟩ (args := #[]) rfl rfl rfl (fun _ => rfl) (llen_pure (some ⟨n1, 0, none⟩) (n + 1) (n + 1 + n2)))) (And.intro (And.intro trivial (@is_subn Try.prog 3 3 (.tmp 9) (.const (.int .i64 1))  (n + 1) 1 (show 1 ≤ (n + 1) ∧ (n + 1) - 1 ≤ 9223372036854775807 from by omega))) (And.intro (And.intro trivial (Runs.dark [true, false] (hup_runs w v0 v1 v3 v4 v5 n1 (n + 1) (n + 1 + n2) (pshG f n x paZ b n1) ((n + 1) - 1) (show (n + 1) - 1 < n + 1 ∧ n + 1 ≤ n + 1 + n2 ∧ n + 1 ≤ 1000000 from by omega)))) trivial))))) (And.intro trivial (@Exists.intro (List Nat) (fun (ns : List Nat) => ns.length = 2 ∧ ((Value.tuple #[]) : Value) = (fun (ns : List Nat) => (Value.tuple #[])) ns ∧ ([some ⟨w, true, 0, (.lit [v0, v1, (Value.slice (some ⟨n1, 0, none⟩) (n + 1) (n + 1 + n2)), v3, v4, v5])⟩, some ⟨n1, true, 0, (tabS (n + 1 + n2) (upF ltP (pshG f n x paZ b n1) ((n + 1) - 1)))⟩] : List (Option Blk)) = (fun (ns : List Nat) => [some ⟨w, true, 0, (.lit [v0, v1, (Value.slice (some ⟨(ns.getD 0 0), 0, none⟩) (n + 1) (n + 1 + (ns.getD 1 0))), v3, v4, v5])⟩, some ⟨(ns.getD 0 0), true, 0, (tabS (n + 1 + (ns.getD 1 0)) (upF ltP (pshG f n x paZ b (ns.getD 0 0)) ((n + 1) - 1)))⟩]) ns) [n1, n2] (And.intro (@rfl Nat 2) (And.intro (@rfl Value (Value.tuple #[])) (@rfl (List (Option Blk)) [some ⟨w, true, 0, (.lit [v0, v1, (Value.slice (some ⟨n1, 0, none⟩) (n + 1) (n + 1 + n2)), v3, v4, v5])⟩, some ⟨n1, true, 0, (tabS (n + 1 + n2) (upF ltP (pshG f n x paZ b n1) ((n + 1) - 1)))⟩]))))))))
theorem hpush_nil (w : Nat) (v0 v1 v3 v4 v5 : Value) (x : PaR) : Runs Try.prog 46 [(Value.iface 75 (ptr w 2)), (Value.iface 77 (Value.agg #[(nat x.w), (u64 x.a), (u64 x.e), (u64 x.n)]))] [⟨w, true, 0, (.lit [v0, v1, (Value.slice none 0 0), v3, v4, v5])⟩] 2 (fun (ns : List Nat) => (Value.tuple #[])) (fun (ns : List Nat) => [some ⟨w, true, 0, (.lit [v0, v1, (Value.slice (some ⟨(ns.getD 0 0), 0, none⟩) 1 (1 + (ns.getD 1 0))), v3, v4, v5])⟩, some ⟨(ns.getD 0 0), true, 0, (tabS (1 + (ns.getD 1 0)) (upF ltP (pshG (fun _ => paZ) 0 x paZ 0 0) (1 - 1)))⟩]) :=
  runs_of_ev mix Try.func46 rfl rfl 400 (.regn [(0, .g), (1, .g), (2, (.call [(0, false)] 2 1 (fun _ => Value.tuple #[]) (fun ns => [some ⟨w, true, 0, (.lit [v0, v1, (Value.slice (some ⟨(ns.getD 0 0), 0, none⟩) 1 (1 + (ns.getD 1 0))), v3, v4, v5])⟩, some ⟨(ns.getD 0 0), true, 0, (tabS (1 + (ns.getD 1 0)) (pshG (fun _ => paZ) 0 x paZ 0 0))⟩])))] (more (fun n1 => more (fun n2 => fun _ => (.reg [(0, .g), (1, .g), (2, (.callM [(0, true)] 0 0 (fun _ => nat 1) (fun _ => [none]))), (3, (.as (nat (1 - 1)))), (4, (.call [(0, true), (1, false)] 0 0 (fun _ => (Value.tuple #[])) (fun _ => [none, some ⟨n1, true, 0, (tabS (1 + n2) (upF ltP (pshG (fun _ => paZ) 0 x paZ 0 0) (1 - 1)))⟩])))] .done))))) [] [1] rfl
    (Eq.mp (by kernel_rfl) (fun (n1 n2 : Nat) => And.intro (sk (sk (And.intro (And.intro trivial (lpush_nil w v0 v1 v3 v4 v5 x)) trivial))) (And.intro (sk (sk (And.intro (And.intro trivial (mruns_get (q := 2) (F := (fun _ => False)) (by kernel_rfl : derefM Try.prog 75 "Len" 106 52 = true) ⟨w, false, 0, (.lit [v0, v1, (Value.slice (some ⟨n1, 0, none⟩) 1 (1 + n2)), v3, v4, v5])⟩ (args := #[]) rfl rfl rfl (fun _ => rfl) (llen_pure (some ⟨n1, 0, none⟩) 1 (1 + n2)))) (And.intro (And.intro trivial (@is_subn Try.prog 3 3 (.tmp 9) (.const (.int .i64 1))  1 1 (show 1 ≤ 1 ∧ 1 - 1 ≤ 9223372036854775807 from by omega))) (And.intro (And.intro trivial (Runs.dark [true, false] (hup_runs w v0 v1 v3 v4 v5 n1 1 (1 + n2) (pshG (fun _ => paZ) 0 x paZ 0 0) (1 - 1) (show 1 - 1 < 1 ∧ 1 ≤ 1 + n2 ∧ 1 ≤ 1000000 from by omega)))) trivial))))) (And.intro trivial (@Exists.intro (List Nat) (fun (ns : List Nat) => ns.length = 2 ∧ ((Value.tuple #[]) : Value) = (fun (ns : List Nat) => (Value.tuple #[])) ns ∧ ([some ⟨w, true, 0, (.lit [v0, v1, (Value.slice (some ⟨n1, 0, none⟩) 1 (1 + n2)), v3, v4, v5])⟩, some ⟨n1, true, 0, (tabS (1 + n2) (upF ltP (pshG (fun _ => paZ) 0 x paZ 0 0) (1 - 1)))⟩] : List (Option Blk)) = (fun (ns : List Nat) => [some ⟨w, true, 0, (.lit [v0, v1, (Value.slice (some ⟨(ns.getD 0 0), 0, none⟩) 1 (1 + (ns.getD 1 0))), v3, v4, v5])⟩, some ⟨(ns.getD 0 0), true, 0, (tabS (1 + (ns.getD 1 0)) (upF ltP (pshG (fun _ => paZ) 0 x paZ 0 0) (1 - 1)))⟩]) ns) [n1, n2] (And.intro (@rfl Nat 2) (And.intro (@rfl Value (Value.tuple #[])) (@rfl (List (Option Blk)) [some ⟨w, true, 0, (.lit [v0, v1, (Value.slice (some ⟨n1, 0, none⟩) 1 (1 + n2)), v3, v4, v5])⟩, some ⟨n1, true, 0, (tabS (1 + n2) (upF ltP (pshG (fun _ => paZ) 0 x paZ 0 0) (1 - 1)))⟩]))))))))
theorem lpop_runs (w : Nat) (v0 v1 v3 v4 v5 : Value) (b n c : Nat) (f : Nat → PaR) (h : 0 < n ∧ n ≤ c ∧ n ≤ 1000000) : Runs Try.prog 109 [(ptr w 2)] [⟨w, true, 0, (.lit [v0, v1, (Value.slice (some ⟨b, 0, none⟩) n c), v3, v4, v5])⟩, ⟨b, false, 0, (tabS c f)⟩] 0 (fun (_ : List Nat) => (Value.iface 77 (Value.agg #[(nat ((f (n - 1)).w)), (u64 ((f (n - 1)).a)), (u64 ((f (n - 1)).e)), (u64 ((f (n - 1)).n))]))) (fun (_ : List Nat) => [some ⟨w, true, 0, (.lit [v0, v1, (Value.slice (some ⟨b, 0, none⟩) (n - 1) c), v3, v4, v5])⟩, some ⟨b, false, 0, (tabS c f)⟩]) :=
  runs_of_ev mix Try.func109 rfl rfl 400 (.reg [(0, .g)] (.regn [(0, .g), (1, .g), (2, (.ld 0 (.lit 2))), (3, .g), (4, .g), (5, (.ld 0 (.lit 2))), (6, (.as (nat n))), (7, (.as (nat (n - 1)))), (8, (.as (ptr b (0 + (n - 1) * 4)))), (9, (.ld 1 (.tab (n - 1) 0))), (10, .new), (11, (.st 2 (.lit 0)))] (more (fun n1 => fun _ => (.reg [(0, .g), (1, .g), (2, .g), (3, (.ld 0 (.lit 2))), (4, .g), (5, .g), (6, (.ld 0 (.lit 2))), (7, (.as (nat n))), (8, (.as (nat (n - 1)))), (9, (.as (Value.slice (some ⟨b, 0, none⟩) (n - 1) c))), (10, .g), (11, (.st 0 (.lit 2)))] (.reg [(0, (.ld 2 (.lit 0))), (1, .g), (2, .g)] .done)))))) [] [] rfl
    (Eq.mp (by kernel_rfl) (have f0 : 0 < n ∧ n ≤ c ∧ n ≤ 1000000 := h; And.intro (sk trivial) (fun (n1 : Nat) => And.intro (sk (sk (And.intro (And.intro trivial (ad w 2)) (sk (sk (And.intro (And.intro trivial (ad w 2)) (And.intro (And.intro trivial (@is_len Try.prog 52 77 (.tmp 9) (by kernel_rfl) (some ⟨b, 0, none⟩) n c)) (And.intro (And.intro trivial (@is_subn Try.prog 3 3 (.tmp 10) (.const (.int .i64 1))  n 1 (show 1 ≤ n ∧ n - 1 ≤ 9223372036854775807 from by omega))) (And.intro (And.intro trivial (@is_ixSl Try.prog 52 77 (.tmp 6) (.tmp 11) 4 (by kernel_rfl) (by kernel_rfl) b 0 n c (n - 1) (show n - 1 < n from by omega))) (And.intro (And.intro trivial (And.intro (show n - 1 < c from by omega) (@rfl Value (ptr b (0 + (n - 1) * 4))))) (sk (And.intro (And.intro trivial (ad n1 0)) trivial)))))))))))) (And.intro (sk (sk (sk (And.intro (And.intro trivial (ad w 2)) (sk (sk (And.intro (And.intro trivial (ad w 2)) (And.intro (And.intro trivial (@is_len Try.prog 52 77 (.tmp 20) (by kernel_rfl) (some ⟨b, 0, none⟩) n c)) (And.intro (And.intro trivial (@is_subn Try.prog 3 3 (.tmp 21) (.const (.int .i64 1))  n 1 (show 1 ≤ n ∧ n - 1 ≤ 9223372036854775807 from by omega))) (And.intro (And.intro trivial (@is_slTo Try.prog 52 77 (.tmp 17) (.tmp 22) 4 (by kernel_rfl) (by kernel_rfl) b 0 n c (n - 1) (show n - 1 ≤ c from by omega))) (sk (And.intro (And.intro trivial (ad w 2)) trivial)))))))))))) (And.intro (And.intro (And.intro trivial (ad n1 0)) (sk (sk trivial))) (And.intro trivial (@Exists.intro (List Nat) (fun (ns : List Nat) => ns.length = 0 ∧ ((Value.iface 77 (Value.agg #[(nat ((f (n - 1)).w)), (u64 ((f (n - 1)).a)), (u64 ((f (n - 1)).e)), (u64 ((f (n - 1)).n))])) : Value) = (fun (_ : List Nat) => (Value.iface 77 (Value.agg #[(nat ((f (n - 1)).w)), (u64 ((f (n - 1)).a)), (u64 ((f (n - 1)).e)), (u64 ((f (n - 1)).n))]))) ns ∧ ([some ⟨w, true, 0, (.lit [v0, v1, (Value.slice (some ⟨b, 0, none⟩) (n - 1) c), v3, v4, v5])⟩, some ⟨b, false, 0, (tabS c f)⟩] : List (Option Blk)) = (fun (_ : List Nat) => [some ⟨w, true, 0, (.lit [v0, v1, (Value.slice (some ⟨b, 0, none⟩) (n - 1) c), v3, v4, v5])⟩, some ⟨b, false, 0, (tabS c f)⟩]) ns) [] (And.intro (@rfl Nat 0) (And.intro (@rfl Value (Value.iface 77 (Value.agg #[(nat ((f (n - 1)).w)), (u64 ((f (n - 1)).a)), (u64 ((f (n - 1)).e)), (u64 ((f (n - 1)).n))]))) (@rfl (List (Option Blk)) [some ⟨w, true, 0, (.lit [v0, v1, (Value.slice (some ⟨b, 0, none⟩) (n - 1) c), v3, v4, v5])⟩, some ⟨b, false, 0, (tabS c f)⟩]))))))))))
theorem hpop_runs (w : Nat) (v0 v1 v3 v4 v5 : Value) (b n c : Nat) (f : Nat → PaR) (h : 0 < n ∧ n ≤ c ∧ n ≤ 1000000) : Runs Try.prog 47 [(Value.iface 75 (ptr w 2))] [⟨w, true, 0, (.lit [v0, v1, (Value.slice (some ⟨b, 0, none⟩) n c), v3, v4, v5])⟩, ⟨b, true, 0, (tabS c f)⟩] 0 (fun (_ : List Nat) => (Value.iface 77 (Value.agg #[(nat ((popF ltP f (n - 1) (n - 1)).w)), (u64 ((popF ltP f (n - 1) (n - 1)).a)), (u64 ((popF ltP f (n - 1) (n - 1)).e)), (u64 ((popF ltP f (n - 1) (n - 1)).n))]))) (fun (_ : List Nat) => [some ⟨w, true, 0, (.lit [v0, v1, (Value.slice (some ⟨b, 0, none⟩) (n - 1) c), v3, v4, v5])⟩, some ⟨b, true, 0, (tabS c (popF ltP f (n - 1)))⟩]) :=
  runs_of_ev mix Try.func47 rfl rfl 400 (.reg [(0, .g)] (.reg [(0, .g), (1, (.callM [(0, true)] 0 0 (fun _ => nat n) (fun _ => [none]))), (2, (.as (nat (n - 1)))), (3, .g)] (.reg [(0, .g), (1, .g), (2, (.callM [(1, false), (0, true)] 0 0 (fun _ => (Value.tuple #[])) (fun _ => [some ⟨b, true, 0, (tabS c (swp f 0 (n - 1)))⟩, none])))] (.reg [(0, .g), (1, .g), (2, (.call [(0, true), (1, false)] 0 0 (fun _ => (Value.bool (decide (0 < (dnF ltP (n - 1) (swp f 0 (n - 1)) 0).2)))) (fun _ => [none, some ⟨b, true, 0, (tabS c ((dnF ltP (n - 1) (swp f 0 (n - 1)) 0).1))⟩])))] (.reg [(0, .g), (1, (.call [(0, false), (1, true)] 0 0 (fun _ => (Value.iface 77 (Value.agg #[(nat (((dnF ltP (n - 1) (swp f 0 (n - 1)) 0).1 (n - 1)).w)), (u64 (((dnF ltP (n - 1) (swp f 0 (n - 1)) 0).1 (n - 1)).a)), (u64 (((dnF ltP (n - 1) (swp f 0 (n - 1)) 0).1 (n - 1)).e)), (u64 (((dnF ltP (n - 1) (swp f 0 (n - 1)) 0).1 (n - 1)).n))]))) (fun _ => [some ⟨w, true, 0, (.lit [v0, v1, (Value.slice (some ⟨b, 0, none⟩) (n - 1) c), v3, v4, v5])⟩, none]))), (2, .g)] .done))))) [] [] rfl
    (Eq.mp (by kernel_rfl) (have f0 : 0 < n ∧ n ≤ c ∧ n ≤ 1000000 := h; And.intro (sk trivial) (And.intro (sk (And.intro (And.intro trivial (mruns_get (q := 2) (F := (fun _ => False)) (by kernel_rfl : derefM Try.prog 75 "Len" 106 52 = true) ⟨w, false, 0, (.lit [v0, v1, (Value.slice (some ⟨b, 0, none⟩) n c), v3, v4, v5])⟩ (args := #[]) rfl rfl rfl (fun _ => rfl) (llen_pure (some ⟨b, 0, none⟩) n c))) (And.intro (And.intro trivial (@is_subn Try.prog 3 3 (.tmp 5) (.const (.int .i64 1))  n 1 (show 1 ≤ n ∧ n - 1 ≤ 9223372036854775807 from by omega))) (sk trivial)))) (And.intro (sk (sk (And.intro (And.intro trivial (mruns_get (q := 2) (F := (fun _ => False)) (by kernel_rfl : derefM Try.prog 75 "Swap" 108 52 = true) ⟨w, false, 0, (.lit [v0, v1, (Value.slice (some ⟨b, 0, none⟩) n c), v3, v4, v5])⟩ (args := #[(int 0), (nat (n - 1))]) rfl rfl rfl (fun _ => rfl) (lswap_runs b n c f 0 (n - 1) (show 0 < n ∧ n - 1 < n ∧ n ≤ c from by omega)))) trivial))) (And.intro (sk (sk (And.intro (And.intro trivial (Runs.dark [true, false] (hdown_runs w v0 v1 v3 v4 v5 b n c (swp f 0 (n - 1)) 0 (n - 1) (show n - 1 ≤ n ∧ n ≤ c ∧ n ≤ 1000000 ∧ 0 ≤ 1000000 from by omega)))) trivial))) (And.intro (sk (And.intro (And.intro trivial (Runs.dark [false, true] (lpop_runs w v0 v1 v3 v4 v5 b n c ((dnF ltP (n - 1) (swp f 0 (n - 1)) 0).1) (show 0 < n ∧ n ≤ c ∧ n ≤ 1000000 from by omega)))) (sk trivial))) (And.intro trivial (@Exists.intro (List Nat) (fun (ns : List Nat) => ns.length = 0 ∧ ((Value.iface 77 (Value.agg #[(nat (((dnF ltP (n - 1) (swp f 0 (n - 1)) 0).1 (n - 1)).w)), (u64 (((dnF ltP (n - 1) (swp f 0 (n - 1)) 0).1 (n - 1)).a)), (u64 (((dnF ltP (n - 1) (swp f 0 (n - 1)) 0).1 (n - 1)).e)), (u64 (((dnF ltP (n - 1) (swp f 0 (n - 1)) 0).1 (n - 1)).n))])) : Value) = (fun (_ : List Nat) => (Value.iface 77 (Value.agg #[(nat ((popF ltP f (n - 1) (n - 1)).w)), (u64 ((popF ltP f (n - 1) (n - 1)).a)), (u64 ((popF ltP f (n - 1) (n - 1)).e)), (u64 ((popF ltP f (n - 1) (n - 1)).n))]))) ns ∧ ([some ⟨w, true, 0, (.lit [v0, v1, (Value.slice (some ⟨b, 0, none⟩) (n - 1) c), v3, v4, v5])⟩, some ⟨b, true, 0, (tabS c ((dnF ltP (n - 1) (swp f 0 (n - 1)) 0).1))⟩] : List (Option Blk)) = (fun (_ : List Nat) => [some ⟨w, true, 0, (.lit [v0, v1, (Value.slice (some ⟨b, 0, none⟩) (n - 1) c), v3, v4, v5])⟩, some ⟨b, true, 0, (tabS c (popF ltP f (n - 1)))⟩]) ns) [] (And.intro (@rfl Nat 0) (And.intro (@rfl Value (Value.iface 77 (Value.agg #[(nat ((popF ltP f (n - 1) (n - 1)).w)), (u64 ((popF ltP f (n - 1) (n - 1)).a)), (u64 ((popF ltP f (n - 1) (n - 1)).e)), (u64 ((popF ltP f (n - 1) (n - 1)).n))]))) (@rfl (List (Option Blk)) [some ⟨w, true, 0, (.lit [v0, v1, (Value.slice (some ⟨b, 0, none⟩) (n - 1) c), v3, v4, v5])⟩, some ⟨b, true, 0, (tabS c (popF ltP f (n - 1)))⟩])))))))))))
theorem hrem_runs (w : Nat) (v0 v1 v3 v4 v5 : Value) (b n c : Nat) (f : Nat → PaR) (i : Nat) (h : i < n ∧ n ≤ c ∧ n ≤ 1000000) : Runs Try.prog 64 [(Value.iface 75 (ptr w 2)), (nat i)] [⟨w, true, 0, (.lit [v0, v1, (Value.slice (some ⟨b, 0, none⟩) n c), v3, v4, v5])⟩, ⟨b, true, 0, (tabS c f)⟩] 0 (fun (_ : List Nat) => (Value.iface 77 (Value.agg #[(nat ((remF ltP f (n - 1) i (n - 1)).w)), (u64 ((remF ltP f (n - 1) i (n - 1)).a)), (u64 ((remF ltP f (n - 1) i (n - 1)).e)), (u64 ((remF ltP f (n - 1) i (n - 1)).n))]))) (fun (_ : List Nat) => [some ⟨w, true, 0, (.lit [v0, v1, (Value.slice (some ⟨b, 0, none⟩) (n - 1) c), v3, v4, v5])⟩, some ⟨b, true, 0, (tabS c (remF ltP f (n - 1) i))⟩]) :=
  runs_of_ev mix Try.func64 rfl rfl 400 (.reg [(0, .g)] (.reg [(0, .g), (1, (.callM [(0, true)] 0 0 (fun _ => nat n) (fun _ => [none]))), (2, (.as (nat (n - 1)))), (3, .g)] (.reg [(0, .g), (1, .g), (2, (.as (Value.bool (!(decide ((n - 1) = i))))))] (.br (.reg [(0, .g), (1, .g), (2, .g), (3, (.callM [(1, false), (0, true)] 0 0 (fun _ => (Value.tuple #[])) (fun _ => [some ⟨b, true, 0, (tabS c (swp f i (n - 1)))⟩, none])))] (.reg [(0, .g), (1, .g), (2, .g), (3, (.call [(0, true), (1, false)] 0 0 (fun _ => (Value.bool (decide (i < (dnF ltP (n - 1) (swp f i (n - 1)) i).2)))) (fun _ => [none, some ⟨b, true, 0, (tabS c ((dnF ltP (n - 1) (swp f i (n - 1)) i).1))⟩]))), (4, .g)] (.br (.reg [(0, .g), (1, .g), (2, (.call [(0, true), (1, false)] 0 0 (fun _ => (Value.tuple #[])) (fun _ => [none, some ⟨b, true, 0, (tabS c (upF ltP ((dnF ltP (n - 1) (swp f i (n - 1)) i).1) i))⟩])))] (.reg [(0, .g), (1, (.call [(0, false), (1, true)] 0 0 (fun _ => (Value.iface 77 (Value.agg #[(nat ((upF ltP ((dnF ltP (n - 1) (swp f i (n - 1)) i).1) i (n - 1)).w)), (u64 ((upF ltP ((dnF ltP (n - 1) (swp f i (n - 1)) i).1) i (n - 1)).a)), (u64 ((upF ltP ((dnF ltP (n - 1) (swp f i (n - 1)) i).1) i (n - 1)).e)), (u64 ((upF ltP ((dnF ltP (n - 1) (swp f i (n - 1)) i).1) i (n - 1)).n))]))) (fun _ => [some ⟨w, true, 0, (.lit [v0, v1, (Value.slice (some ⟨b, 0, none⟩) (n - 1) c), v3, v4, v5])⟩, none]))), (2, .g)] .done)) (.reg [(0, .g), (1, (.call [(0, false), (1, true)] 0 0 (fun _ => (Value.iface 77 (Value.agg #[(nat (((dnF ltP (n - 1) (swp f i (n - 1)) i).1 (n - 1)).w)), (u64 (((dnF ltP (n - 1) (swp f i (n - 1)) i).1 (n - 1)).a)), (u64 (((dnF ltP (n - 1) (swp f i (n - 1)) i).1 (n - 1)).e)), (u64 (((dnF ltP (n - 1) (swp f i (n - 1)) i).1 (n - 1)).n))]))) (fun _ => [some ⟨w, true, 0, (.lit [v0, v1, (Value.slice (some ⟨b, 0, none⟩) (n - 1) c), v3, v4, v5])⟩, none]))), (2, .g)] .done)))) (.reg [(0, .g), (1, (.call [(0, false), (1, true)] 0 0 (fun _ => (Value.iface 77 (Value.agg #[(nat ((f (n - 1)).w)), (u64 ((f (n - 1)).a)), (u64 ((f (n - 1)).e)), (u64 ((f (n - 1)).n))]))) (fun _ => [some ⟨w, true, 0, (.lit [v0, v1, (Value.slice (some ⟨b, 0, none⟩) (n - 1) c), v3, v4, v5])⟩, none]))), (2, .g)] .done))))) [] [] rfl
    (Eq.mp (by kernel_rfl) (have f0 : i < n ∧ n ≤ c ∧ n ≤ 1000000 := h; And.intro (sk trivial) (And.intro (sk (And.intro (And.intro trivial (mruns_get (q := 2) (F := (fun _ => False)) (by kernel_rfl : derefM Try.prog 75 "Len" 106 52 = true) ⟨w, false, 0, (.lit [v0, v1, (Value.slice (some ⟨b, 0, none⟩) n c), v3, v4, v5])⟩ (args := #[]) rfl rfl rfl (fun _ => rfl) (llen_pure (some ⟨b, 0, none⟩) n c))) (And.intro (And.intro trivial (@is_subn Try.prog 3 3 (.tmp 7) (.const (.int .i64 1))  n 1 (show 1 ≤ n ∧ n - 1 ≤ 9223372036854775807 from by omega))) (sk trivial)))) (And.intro (sk (sk (And.intro (And.intro trivial (@is_neqn Try.prog 3 3 (.tmp 9) (.tmp 10)  (n - 1) i)) trivial))) (And.intro trivial (And.intro (fun (h1 : (!(decide ((n - 1) = i))) = true) => have f1 : ¬ ((n - 1) = i) := (of_decide_eq_false (bnot_t h1)); And.intro (sk (sk (sk (And.intro (And.intro trivial (mruns_get (q := 2) (F := (fun _ => False)) (by kernel_rfl : derefM Try.prog 75 "Swap" 108 52 = true) ⟨w, false, 0, (.lit [v0, v1, (Value.slice (some ⟨b, 0, none⟩) n c), v3, v4, v5])⟩ (args := #[(nat i), (nat (n - 1))]) rfl rfl rfl (fun _ => rfl) (lswap_runs b n c f i (n - 1) (show i < n ∧ n - 1 < n ∧ n ≤ c from by omega)))) trivial)))) (And.intro (sk (sk (sk (And.intro (And.intro trivial (Runs.dark [true, false] (hdown_runs w v0 v1 v3 v4 v5 b n c (swp f i (n - 1)) i (n - 1) (show n - 1 ≤ n ∧ n ≤ c ∧ n ≤ 1000000 ∧ i ≤ 1000000 from by omega)))) (sk trivial))))) (And.intro trivial (And.intro (fun (h2 : (!(decide (i < (dnF ltP (n - 1) (swp f i (n - 1)) i).2))) = true) => have f2 : ¬ (i < (dnF ltP (n - 1) (swp f i (n - 1)) i).2) := (of_decide_eq_false (bnot_t h2)); And.intro (sk (sk (And.intro (And.intro trivial (Runs.dark [true, false] (hup_runs w v0 v1 v3 v4 v5 b n c ((dnF ltP (n - 1) (swp f i (n - 1)) i).1) i (show i < n ∧ n ≤ c ∧ n ≤ 1000000 from by omega)))) trivial))) (And.intro (sk (And.intro (And.intro trivial (Runs.dark [false, true] (lpop_runs w v0 v1 v3 v4 v5 b n c (upF ltP ((dnF ltP (n - 1) (swp f i (n - 1)) i).1) i) (show 0 < n ∧ n ≤ c ∧ n ≤ 1000000 from by omega)))) (sk trivial))) (And.intro trivial (@Exists.intro (List Nat) (fun (ns : List Nat) => ns.length = 0 ∧ ((Value.iface 77 (Value.agg #[(nat ((upF ltP ((dnF ltP (n - 1) (swp f i (n - 1)) i).1) i (n - 1)).w)), (u64 ((upF ltP ((dnF ltP (n - 1) (swp f i (n - 1)) i).1) i (n - 1)).a)), (u64 ((upF ltP ((dnF ltP (n - 1) (swp f i (n - 1)) i).1) i (n - 1)).e)), (u64 ((upF ltP ((dnF ltP (n - 1) (swp f i (n - 1)) i).1) i (n - 1)).n))])) : Value) = (fun (_ : List Nat) => (Value.iface 77 (Value.agg #[(nat ((remF ltP f (n - 1) i (n - 1)).w)), (u64 ((remF ltP f (n - 1) i (n - 1)).a)), (u64 ((remF ltP f (n - 1) i (n - 1)).e)), (u64 ((remF ltP f (n - 1) i (n - 1)).n))]))) ns ∧ ([some ⟨w, true, 0, (.lit [v0, v1, (Value.slice (some ⟨b, 0, none⟩) (n - 1) c), v3, v4, v5])⟩, some ⟨b, true, 0, (tabS c (upF ltP ((dnF ltP (n - 1) (swp f i (n - 1)) i).1) i))⟩] : List (Option Blk)) = (fun (_ : List Nat) => [some ⟨w, true, 0, (.lit [v0, v1, (Value.slice (some ⟨b, 0, none⟩) (n - 1) c), v3, v4, v5])⟩, some ⟨b, true, 0, (tabS c (remF ltP f (n - 1) i))⟩]) ns) [] (And.intro (@rfl Nat 0) (And.intro ((show (Value.iface 77 (Value.agg #[(nat ((upF ltP ((dnF ltP (n - 1) (swp f i (n - 1)) i).1) i (n - 1)).w)), (u64 ((upF ltP ((dnF ltP (n - 1) (swp f i (n - 1)) i).1) i (n - 1)).a)), (u64 ((upF ltP ((dnF ltP (n - 1) (swp f i (n - 1)) i).1) i (n - 1)).e)), (u64 ((upF ltP ((dnF ltP (n - 1) (swp f i (n - 1)) i).1) i (n - 1)).n))])) = (Value.iface 77 (Value.agg #[(nat ((remF ltP f (n - 1) i (n - 1)).w)), (u64 ((remF ltP f (n - 1) i (n - 1)).a)), (u64 ((remF ltP f (n - 1) i (n - 1)).e)), (u64 ((remF ltP f (n - 1) i (n - 1)).n))])) from by first | rw [remF_same (by omega)] | rw [remF_dn (by omega) (by omega)] | rw [remF_up (by omega) (by omega)])) ((show ([some ⟨w, true, 0, (.lit [v0, v1, (Value.slice (some ⟨b, 0, none⟩) (n - 1) c), v3, v4, v5])⟩, some ⟨b, true, 0, (tabS c (upF ltP ((dnF ltP (n - 1) (swp f i (n - 1)) i).1) i))⟩] : List (Option Blk)) = [some ⟨w, true, 0, (.lit [v0, v1, (Value.slice (some ⟨b, 0, none⟩) (n - 1) c), v3, v4, v5])⟩, some ⟨b, true, 0, (tabS c (remF ltP f (n - 1) i))⟩] from by first | rw [remF_same (by omega)] | rw [remF_dn (by omega) (by omega)] | rw [remF_up (by omega) (by omega)])))))))) (fun (h2 : (!(decide (i < (dnF ltP (n - 1) (swp f i (n - 1)) i).2))) = false) => have f2 : (i < (dnF ltP (n - 1) (swp f i (n - 1)) i).2) := (of_decide_eq_true (bnot_f h2)); And.intro (sk (And.intro (And.intro trivial (Runs.dark [false, true] (lpop_runs w v0 v1 v3 v4 v5 b n c ((dnF ltP (n - 1) (swp f i (n - 1)) i).1) (show 0 < n ∧ n ≤ c ∧ n ≤ 1000000 from by omega)))) (sk trivial))) (And.intro trivial (@Exists.intro (List Nat) (fun (ns : List Nat) => ns.length = 0 ∧ ((Value.iface 77 (Value.agg #[(nat (((dnF ltP (n - 1) (swp f i (n - 1)) i).1 (n - 1)).w)), (u64 (((dnF ltP (n - 1) (swp f i (n - 1)) i).1 (n - 1)).a)), (u64 (((dnF ltP (n - 1) (swp f i (n - 1)) i).1 (n - 1)).e)), (u64 (((dnF ltP (n - 1) (swp f i (n - 1)) i).1 (n - 1)).n))])) : Value) = (fun (_ : List Nat) => (Value.iface 77 (Value.agg #[(nat ((remF ltP f (n - 1) i (n - 1)).w)), (u64 ((remF ltP f (n - 1) i (n - 1)).a)), (u64 ((remF ltP f (n - 1) i (n - 1)).e)), (u64 ((remF ltP f (n - 1) i (n - 1)).n))]))) ns ∧ ([some ⟨w, true, 0, (.lit [v0, v1, (Value.slice (some ⟨b, 0, none⟩) (n - 1) c), v3, v4, v5])⟩, some ⟨b, true, 0, (tabS c ((dnF ltP (n - 1) (swp f i (n - 1)) i).1))⟩] : List (Option Blk)) = (fun (_ : List Nat) => [some ⟨w, true, 0, (.lit [v0, v1, (Value.slice (some ⟨b, 0, none⟩) (n - 1) c), v3, v4, v5])⟩, some ⟨b, true, 0, (tabS c (remF ltP f (n - 1) i))⟩]) ns) [] (And.intro (@rfl Nat 0) (And.intro ((show (Value.iface 77 (Value.agg #[(nat (((dnF ltP (n - 1) (swp f i (n - 1)) i).1 (n - 1)).w)), (u64 (((dnF ltP (n - 1) (swp f i (n - 1)) i).1 (n - 1)).a)), (u64 (((dnF ltP (n - 1) (swp f i (n - 1)) i).1 (n - 1)).e)), (u64 (((dnF ltP (n - 1) (swp f i (n - 1)) i).1 (n - 1)).n))])) = (Value.iface 77 (Value.agg #[(nat ((remF ltP f (n - 1) i (n - 1)).w)), (u64 ((remF ltP f (n - 1) i (n - 1)).a)), (u64 ((remF ltP f (n - 1) i (n - 1)).e)), (u64 ((remF ltP f (n - 1) i (n - 1)).n))])) from by first | rw [remF_same (by omega)] | rw [remF_dn (by omega) (by omega)] | rw [remF_up (by omega) (by omega)])) ((show ([some ⟨w, true, 0, (.lit [v0, v1, (Value.slice (some ⟨b, 0, none⟩) (n - 1) c), v3, v4, v5])⟩, some ⟨b, true, 0, (tabS c ((dnF ltP (n - 1) (swp f i (n - 1)) i).1))⟩] : List (Option Blk)) = [some ⟨w, true, 0, (.lit [v0, v1, (Value.slice (some ⟨b, 0, none⟩) (n - 1) c), v3, v4, v5])⟩, some ⟨b, true, 0, (tabS c (remF ltP f (n - 1) i))⟩] from by first | rw [remF_same (by omega)] | rw [remF_dn (by omega) (by omega)] | rw [remF_up (by omega) (by omega)]))))))))))) (fun (h1 : (!(decide ((n - 1) = i))) = false) => have f1 : ((n - 1) = i) := (of_decide_eq_true (bnot_f h1)); And.intro (sk (And.intro (And.intro trivial (Runs.dark [false, true] (lpop_runs w v0 v1 v3 v4 v5 b n c f (show 0 < n ∧ n ≤ c ∧ n ≤ 1000000 from by omega)))) (sk trivial))) (And.intro trivial (@Exists.intro (List Nat) (fun (ns : List Nat) => ns.length = 0 ∧ ((Value.iface 77 (Value.agg #[(nat ((f (n - 1)).w)), (u64 ((f (n - 1)).a)), (u64 ((f (n - 1)).e)), (u64 ((f (n - 1)).n))])) : Value) = (fun (_ : List Nat) => (Value.iface 77 (Value.agg #[(nat ((remF ltP f (n - 1) i (n - 1)).w)), (u64 ((remF ltP f (n - 1) i (n - 1)).a)), (u64 ((remF ltP f (n - 1) i (n - 1)).e)), (u64 ((remF ltP f (n - 1) i (n - 1)).n))]))) ns ∧ ([some ⟨w, true, 0, (.lit [v0, v1, (Value.slice (some ⟨b, 0, none⟩) (n - 1) c), v3, v4, v5])⟩, some ⟨b, true, 0, (tabS c f)⟩] : List (Option Blk)) = (fun (_ : List Nat) => [some ⟨w, true, 0, (.lit [v0, v1, (Value.slice (some ⟨b, 0, none⟩) (n - 1) c), v3, v4, v5])⟩, some ⟨b, true, 0, (tabS c (remF ltP f (n - 1) i))⟩]) ns) [] (And.intro (@rfl Nat 0) (And.intro ((show (Value.iface 77 (Value.agg #[(nat ((f (n - 1)).w)), (u64 ((f (n - 1)).a)), (u64 ((f (n - 1)).e)), (u64 ((f (n - 1)).n))])) = (Value.iface 77 (Value.agg #[(nat ((remF ltP f (n - 1) i (n - 1)).w)), (u64 ((remF ltP f (n - 1) i (n - 1)).a)), (u64 ((remF ltP f (n - 1) i (n - 1)).e)), (u64 ((remF ltP f (n - 1) i (n - 1)).n))])) from by first | rw [remF_same (by omega)] | rw [remF_dn (by omega) (by omega)] | rw [remF_up (by omega) (by omega)])) ((show ([some ⟨w, true, 0, (.lit [v0, v1, (Value.slice (some ⟨b, 0, none⟩) (n - 1) c), v3, v4, v5])⟩, some ⟨b, true, 0, (tabS c f)⟩] : List (Option Blk)) = [some ⟨w, true, 0, (.lit [v0, v1, (Value.slice (some ⟨b, 0, none⟩) (n - 1) c), v3, v4, v5])⟩, some ⟨b, true, 0, (tabS c (remF ltP f (n - 1) i))⟩] from by first | rw [remF_same (by omega)] | rw [remF_dn (by omega) (by omega)] | rw [remF_up (by omega) (by omega)])))))))))))))
end Go.Proofs.Ytchkbchbfilipaa
end
section
namespace Go.Eng
set_option linter.unusedVariables false
set_option linter.unusedSimpArgs false
set_option maxRecDepth 100000
def cutU (f : Nat → UInt64) (k : Nat) : Nat → UInt64 := fun j => if j < k then f j else 0
theorem cutU_zero (f : Nat → UInt64) : (fun _ => 0) = cutU f 0 := by funext j; unfold cutU; rw [if_neg (Nat.not_lt_zero _)]
theorem cutU_next (f : Nat → UInt64) (k : Nat) : upd (cutU f k) k (f k) = cutU f (k + 1) := by
  funext j; unfold upd cutU
  by_cases h : j = k
  · subst h; rw [if_pos rfl, if_pos (Nat.lt_succ_self _)]
  · rw [if_neg h]
    by_cases h2 : j < k
    · rw [if_pos h2, if_pos (by omega)]
    · rw [if_neg h2, if_neg (by omega)]
def putU (g : Nat → UInt64) (i m : Nat) (f : Nat → UInt64) : Nat → UInt64 := fun j => if i ≤ j ∧ j < i + m then f (j - i) else g j
theorem srun_copyP {P : Program} {dT sT ty e : TypeId} (hu : P.underlying dT = some (.slice e)) (hs : sizeB P e = some 1) (b k n m i dl dc kb sc : Nat) (g f : Nat → UInt64) (hm : i + m ≤ n ∧ m ≤ dl) :
    SRuns P (copySem dT sT ty (.slice (some ⟨b, i, none⟩) dl dc) (.slice (some ⟨k, kb, none⟩) m sc)) [⟨b, true, 0, tabF n fun j => u64 (g j)⟩, ⟨k, false, kb, tabF m fun j => u64 (f j)⟩] 0 (fun _ => nat m)
      (fun _ => [some ⟨b, true, 0, tabF n fun j => u64 (putU g i m f j)⟩, some ⟨k, false, kb, tabF m fun j => u64 (f j)⟩]) := by
  intro w hall ha
  have hD : Holds ⟨b, true, 0, tabF n fun j => u64 (g j)⟩ w := hall _ (by simp)
  have hS : Holds ⟨k, false, kb, tabF m fun j => u64 (f j)⟩ w := hall _ (by simp)
  have hlen : ((List.range m).map fun j => u64 (f j)).length = m := by simp
  have hr := run_copy_cells (P := P) w dT sT ty e b i dl dc ⟨k, kb, none⟩ m sc ((List.range m).map fun j => u64 (f j)) hu (by simpa [sizeB] using hs) (hlen.trans (Nat.min_eq_left hm.2).symm)
    (fun j v hj => by
      obtain ⟨hjl, rfl⟩ := map_range_get hj
      have := hS.cell j _ (tabF_in hjl)
      rw [show (⟨k, kb, none⟩ : Addr).add j = ⟨k, kb + j, none⟩ from add_none k kb j]
      exact this)
    (fun j hj => by
      have := hD.cell (i + j) _ (tabF_in (show i + j < n by rw [hlen] at hj; omega))
      rw [Nat.zero_add] at this
      rw [this]; rfl)
    (fun j hj => by
      have := hD.free rfl (i + j) _ (tabF_in (show i + j < n by rw [hlen] at hj; omega))
      rw [Nat.zero_add] at this
      exact this) (fun v hv => by
      obtain ⟨j, _, rfl⟩ := List.mem_map.1 hv; rfl)
  rw [hlen] at hr
  refine ⟨[], w.setCells b i ((List.range m).map fun j => u64 (f j)), rfl, .inl (run_value hr), ?_⟩
  have hp := post_cells (m := listMem ([⟨b, true, 0, tabF n fun j => u64 (g j)⟩, ⟨k, false, kb, tabF m fun j => u64 (f j)⟩].map some)) (w := w) (p := 0) (b := ⟨b, true, 0, tabF n fun j => u64 (g j)⟩) (o0 := i) (cs := (List.range m).map fun j => u64 (f j))
    (c := tabF n fun j => u64 (putU g i m f j)) (fun p b hb => hall b (List.mem_of_getElem? (listMem_some.1 hb))) ha rfl rfl rfl (fun j hj => ⟨_, tabF_in (by rw [hlen] at hj; omega)⟩) (fun j => by
      rw [hlen]
      by_cases hj : j < n
      · rw [tabF_in hj]
        unfold putU
        by_cases h2 : i ≤ j ∧ j < i + m
        · rw [if_pos h2, if_pos h2, List.getElem?_map, List.getElem?_range (by omega)]; rfl
        · rw [if_neg h2, if_neg h2, tabF_in hj]
      · rw [tabF_out hj, if_neg (by omega), tabF_out hj])
  rw [show ([⟨b, true, 0, tabF n fun j => u64 (g j)⟩, ⟨k, false, kb, tabF m fun j => u64 (f j)⟩].map some : List (Option Blk)) = [some ⟨b, true, 0, tabF n fun j => u64 (g j)⟩, some ⟨k, false, kb, tabF m fun j => u64 (f j)⟩] from rfl] at hp ⊢
  rw [listMem_set0] at hp
  simpa using hp
theorem srun_copyA {P : Program} {dT sT ty e : TypeId} (hu : P.underlying dT = some (.slice e)) (hs : sizeB P e = some 1) (b k n m i dc kb sc : Nat) (g f : Nat → UInt64) (hm : i + m ≤ n ∧ i < n ∧ n ≤ dc) :
    SRuns P (copySem dT sT ty (.slice (fromA (some ⟨b, 0, none⟩) dc i 1) (n - i) (dc - i)) (.slice (some ⟨k, kb, none⟩) m sc)) [⟨b, true, 0, tabF n fun j => u64 (g j)⟩, ⟨k, false, kb, tabF m fun j => u64 (f j)⟩] 0 (fun _ => nat m)
      (fun _ => [some ⟨b, true, 0, tabF n fun j => u64 (putU g i m f j)⟩, some ⟨k, false, kb, tabF m fun j => u64 (f j)⟩]) := by
  have e1 : fromA (some ⟨b, 0, none⟩) dc i 1 = some ⟨b, i, none⟩ := by
    unfold fromA; rw [if_neg (by omega)]; simp [add_none]
  rw [e1]
  exact srun_copyP hu hs b k n m i (n - i) (dc - i) kb sc g f ⟨by omega, by omega⟩
def wtF (N : Nat) (G : Nat → UInt64) : Nat → UInt64 := putU (fun _ => 0) (1 * N + 0) N (cutU (fun k => G (1 * N + k)) N)
def lgH (N : Nat) (G : Nat → UInt64) (k : Nat) (i : Int) : UInt64 := if isI N i = true then G (k * N + i.toNat) else 0
structure LgR where
  N : Nat
  pu : Nat
  pr : Nat
  pc : Nat
  G : Nat → UInt64
  z : Bool
  m : Nat
  n : Nat
  c : Nat
  F : Nat → PaR
  b : UInt64
  e : UInt64
  d : UInt64
  L : List PaR
def lgA (X : LgR) : Option Addr := match X.z with
  | true => none
  | false => some ⟨X.m, 0, none⟩
def lb0 (w : Nat) (X : LgR) : Option Blk := some ⟨w, true, 0, .lit [nat X.N, ptr X.pu 0, .slice (lgA X) X.n X.c, u64 X.b, u64 X.e, u64 X.d]⟩
def lb1 (X : LgR) : Option Blk := some ⟨X.pu, true, 0, .lit [.slice (some ⟨X.pr, 0, none⟩) (3 * X.N + 2) X.pc]⟩
def lb2 (X : LgR) : Option Blk := some ⟨X.pr, true, 0, tabF (3 * X.N + 2) fun k => u64 (X.G k)⟩
def lb3 (X : LgR) : Option Blk := match X.z with
  | true => none
  | false => some ⟨X.m, true, 0, tabS X.c X.F⟩
theorem last_step {F : Nat → PaR} {w k : Nat} {l : Int} (h : l = lastP F w k) (b : Bool) (hb : selB (decide ((F k).w = w)) (selB (decide (l < 0)) true (decide (ordP (F l.toNat) (F k) < 0))) false = b) :
    lastP F w (k + 1) = if b = true then (k : Int) else l := by
  subst h
  rw [lastP]
  cases b with
  | true =>
    rw [if_pos (c := true = true) rfl, if_pos]
    simp [selB_and, selB_or] at hb
    exact hb
  | false =>
    rw [if_neg (c := false = true) Bool.false_ne_true, if_neg]
    intro hc
    have : selB (decide ((F k).w = w)) (selB (decide (lastP F w k < 0)) true (decide (ordP (F (lastP F w k).toNat) (F k) < 0))) false = true := by simp [selB_and, selB_or]; exact hc
    rw [this] at hb; cases hb
theorem last_yes {F : Nat → PaR} {w k : Nat} {l : Int} (h : l = lastP F w k) (hb : selB (decide ((F k).w = w)) (selB (decide (l < 0)) true (decide (ordP (F l.toNat) (F k) < 0))) false = true) : (k : Int) = lastP F w (k + 1) := (last_step h true hb).symm
theorem last_no {F : Nat → PaR} {w k : Nat} {l : Int} (h : l = lastP F w k) (hb : selB (decide ((F k).w = w)) (selB (decide (l < 0)) true (decide (ordP (F l.toNat) (F k) < 0))) false = false) : l = lastP F w (k + 1) := (last_step h false hb).symm
structure FlS where
  F : Nat → PaR
  n : Nat
  G : Nat → UInt64
  t : UInt64
def ffT (N : Nat) (G : Nat → UInt64) (p : PaR) (x : UInt64) : UInt64 := takeV (3 * N + 2) G ((2 * N + p.w : Nat) : Int) ((3 * N : Nat) : Int) (minU x p.a)
def ffG (N : Nat) (G : Nat → UInt64) (p : PaR) (x : UInt64) : Nat → UInt64 := moveF (3 * N + 2) G ((2 * N + p.w : Nat) : Int) ((3 * N : Nat) : Int) (takeN (3 * N + 2) G ((2 * N + p.w : Nat) : Int) (minU x p.a))
def ffP (p : PaR) (t : UInt64) : PaR := ⟨p.w, p.a - t, p.e, p.n⟩
def ffS (N : Nat) (S : FlS) (i : Nat) (x : UInt64) : FlS :=
  if (S.F i).a - ffT N S.G (S.F i) x = 0 then ⟨remF ltP (upd S.F i (ffP (S.F i) (ffT N S.G (S.F i) x))) (S.n - 1) i, S.n - 1, ffG N S.G (S.F i) x, S.t + ffT N S.G (S.F i) x⟩
  else ⟨upd S.F i (ffP (S.F i) (ffT N S.G (S.F i) x)), S.n, ffG N S.G (S.F i) x, S.t + ffT N S.G (S.F i) x⟩
def flC (w : Nat) (x : UInt64) (S : FlS) : Bool := selB (decide (lastP S.F w S.n ≥ 0)) (decide (S.t < x)) false
def flI (N w : Nat) (x : UInt64) : Nat → FlS → FlS
  | 0, S => S
  | k + 1, S => if flC w x S = true then flI N w x k (ffS N S (lastP S.F w S.n).toNat (x - S.t)) else S
theorem flI_end {N w : Nat} {x : UInt64} {S : FlS} (h : flC w x S = false) : ∀ k, flI N w x k S = S
  | 0 => rfl
  | k + 1 => by rw [flI, h]; rfl
theorem flI_go {N w : Nat} {x : UInt64} {S : FlS} {k : Nat} (h : flC w x S = true) : flI N w x (k + 1) S = flI N w x k (ffS N S (lastP S.F w S.n).toNat (x - S.t)) := by rw [flI, h]; rfl
end Go.Eng
end
