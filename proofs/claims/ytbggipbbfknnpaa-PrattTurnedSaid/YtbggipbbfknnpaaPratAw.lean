/-
  Layer 4: short lists that one makes oneself.
-/
import Derived.Test.YtbggipbbfknnpaaPratMath
import Derived.KernelRfl
namespace Go.Eng
open Go.RowKit Go.WideShapes Go.ChangeShapes Go.ChangeAt Go.Deep
set_option linter.unusedSimpArgs false
set_option linter.unusedVariables false
set_option maxRecDepth 100000
theorem RunsF.lend {F F' : Blk → Prop} {P : Program} {f : FuncId} {args : List Value} {cs : List Blk} {v : Value} (h : RunsF F P f args [] 0 (fun _ => v) (fun _ => []))
    (hF : ∀ w : World, (∀ b ∈ cs, Holds b w) → ∀ b, F b → F' b ∨ (Holds b w ∧ b.own = false)) (hb : ∀ b ∈ cs, b.own = false) : RunsF F' P f args cs 0 (fun _ => v) (fun _ => noneL cs) := by
  intro w hm ha hF'
  have hno : ∀ k, ¬ Owns (listMem (([] : List Blk).map some)) k := fun k ⟨p, b, h1, h2, _⟩ => by cases h1
  refine Calls.mono (h w (fun b hb' => by cases hb') (fun p q b c _ hpb _ ho => by cases hpb) (fun b hFb => ?_)) ?_
  · rcases hF w hm b hFb with h1 | h1
    · exact ⟨(hF' b h1).1, (hF' b h1).2.1, hno _⟩
    · exact ⟨h1.1, h1.2, hno _⟩
  rintro e w' ⟨ns, hns, he, hp⟩
  refine ⟨ns, hns, he, ⟨fun p b hpb => absurd hpb (noneL_get _ _ _), fun p q b c _ hpb _ _ => absurd hpb (noneL_get _ _ _), ⟨hp.adv.os, hp.adv.output, hp.adv.tape, hp.adv.size, fun k hk _ => hp.adv.heap k hk (hno k), fun k ⟨p, b, h1, _, _⟩ => absurd h1 (noneL_get _ _ _), fun p b hpb _ => absurd hpb (noneL_get _ _ _)⟩⟩⟩
/-- A law whose arguments lie in memory, and hold slices. -/
theorem runsF_law {F : Blk → Prop} {P : Program} {f : FuncId} {args : List Value} {bs : List Blk} {v : Value} {out : List Nat → List (Option Blk)} {W : World} (h : RunsF F P f args bs 0 (fun _ => v) out) (hb : ∀ b ∈ bs, Holds b W) (hro : ∀ b ∈ bs, b.own = false)
    (hF : ∀ b, F b → Holds b W ∧ b.own = false) : Calls P f args.toArray W fun e w' => e = .returned v ∧ Below W.heap.size W w' := by
  have hl : ∀ p b, listMem (bs.map some) p = some b → b.own = false := fun p b hp => hro b (List.mem_of_getElem? (listMem_some.1 hp))
  refine Calls.mono (h W hb (fun p q x y _ hx _ ho => ?_) fun b hb => ⟨(hF b hb).1, (hF b hb).2, fun ⟨p, x, hp, ho, _⟩ => ?_⟩) fun e w' ⟨ns, _, he, hp⟩ => ⟨he, below_of_adv hp.adv hl⟩
  · rw [hl p x hx] at ho; cases ho
  · rw [hl p x hp] at ho; cases ho
def rec1 (n g : N4) (nm : Nat) (x : FacR) : PrfR := ⟨n, g, some ⟨nm, 0, none⟩, 1, 1, nm, 0, frow1 x⟩
def rec2 (n g : N4) (nm : Nat) (x y : FacR) : PrfR := ⟨n, g, some ⟨nm, 0, none⟩, 2, 2, nm, 0, frow2 x y⟩
def lis1 (nm : Nat) (a : PrfR) : PrfL := ⟨some ⟨nm, 0, none⟩, 1, 1, nm, 0, rrow1 a⟩
def lis2 (nm : Nat) (a b : PrfR) : PrfL := ⟨some ⟨nm, 0, none⟩, 2, 2, nm, 0, rrow2 a b⟩
theorem okr_1 {n g : N4} {nm : Nat} {x : FacR} (h : OkF x) : OkR (rec1 n g nm x) := ⟨fun _ => rfl, by simp [rec1, rec2, lis1, lis2], fun _ => h⟩
theorem okr_2 {n g : N4} {nm : Nat} {x y : FacR} (h : OkF x) (h2 : OkF y) : OkR (rec2 n g nm x y) := ⟨fun _ => rfl, by simp [rec1, rec2, lis1, lis2], fun k => by show OkF (if k = 0 then x else y); split <;> assumption⟩
theorem okl_1 {nm : Nat} {a : PrfR} (h : OkR a) : OkL (lis1 nm a) := ⟨Nat.le_refl _, fun _ => rfl, by simp [rec1, rec2, lis1, lis2], fun _ => h⟩
theorem okl_2 {nm : Nat} {a b : PrfR} (h : OkR a) (h2 : OkR b) : OkL (lis2 nm a b) := ⟨Nat.le_refl _, fun _ => rfl, by simp [rec1, rec2, lis1, lis2], fun k => by show OkR (if k = 0 then a else b); split <;> assumption⟩
theorem famR_1 {n g : N4} {nm : Nat} {x : FacR} {w : World} {X : Blk → Prop} (h : Holds ⟨nm, false, 0, .lit (facC x)⟩ w) : ∀ b, famR (rec1 n g nm x) b → X b ∨ (Holds b w ∧ b.own = false) := fun b hb => by
  obtain ⟨_, rfl⟩ := hb
  exact .inr ⟨h.recont (c := tabA 1 (frow1 x)) rfl (to_frow1 x), rfl⟩
theorem famR_2 {n g : N4} {nm : Nat} {x y : FacR} {w : World} {X : Blk → Prop} (h : Holds ⟨nm, false, 0, .lit (facC x ++ facC y)⟩ w) : ∀ b, famR (rec2 n g nm x y) b → X b ∨ (Holds b w ∧ b.own = false) := fun b hb => by
  obtain ⟨_, rfl⟩ := hb
  exact .inr ⟨h.recont (c := tabA 2 (frow2 x y)) rfl (to_frow2 x y), rfl⟩
theorem famL_1 {nm : Nat} {a : PrfR} {w : World} {X : Blk → Prop} (h : Holds ⟨nm, false, 0, .lit (prfC a)⟩ w) (ha : ∀ b, famR a b → X b ∨ (Holds b w ∧ b.own = false)) : ∀ b, famL (lis1 nm a) b → X b ∨ (Holds b w ∧ b.own = false) := fun b hb => by
  rcases hb with ⟨_, rfl⟩ | ⟨k, _, hb⟩
  · exact .inr ⟨h.recont (c := tabR 1 (rrow1 a)) rfl (to_rrow1 a), rfl⟩
  · exact ha b hb
theorem famL_2 {nm : Nat} {a c : PrfR} {w : World} {X : Blk → Prop} (h : Holds ⟨nm, false, 0, .lit (prfC a ++ prfC c)⟩ w) (ha : ∀ b, famR a b → X b ∨ (Holds b w ∧ b.own = false)) (hc : ∀ b, famR c b → X b ∨ (Holds b w ∧ b.own = false)) : ∀ b, famL (lis2 nm a c) b → X b ∨ (Holds b w ∧ b.own = false) := fun b hb => by
  rcases hb with ⟨_, rfl⟩ | ⟨k, _, hb⟩
  · exact .inr ⟨h.recont (c := tabR 2 (rrow2 a c)) rfl (to_rrow2 a c), rfl⟩
  · change famR (if k = 0 then a else c) b at hb
    split at hb
    · exact ha b hb
    · exact hc b hb
theorem short1 {nm : Nat} {a : PrfR} : shortB (lis1 nm a) = !(selB (decide (8 < a.wn)) (decide (a.wn ≤ 40)) false) := by
  show selB true (!(selB (decide (8 < a.wn)) (decide (a.wn ≤ 40)) false)) false = _
  rfl
theorem RunsF.valI {F : Blk → Prop} {P : Program} {f : FuncId} {args : List Value} {bs : List Blk} {k : Nat} {x y : Int} {out : List Nat → List (Option Blk)} (e : x = y) (h : RunsF F P f args bs k (fun _ => int x) out) : RunsF F P f args bs k (fun _ => int y) out := e ▸ h
theorem RunsF.valB {F : Blk → Prop} {P : Program} {f : FuncId} {args : List Value} {bs : List Blk} {k : Nat} {x y : Bool} {out : List Nat → List (Option Blk)} (e : x = y) (h : RunsF F P f args bs k (fun _ => .bool x) out) : RunsF F P f args bs k (fun _ => .bool y) out := e ▸ h
theorem chk1_no {nm : Nat} {a : PrfR} (h : facIn [N4.mk 2 0 0 0] a.wf a.wn = false) : chkE (lis1 nm a) = 20 := by
  have : chkF (rrow1 a) 1 = 20 := by
    rw [chkF, if_neg (by simp [chkF]), if_pos]
    exact h
  exact (if_neg (by simp [lis1])).trans this
theorem chk1 {nm : Nat} {a : PrfR} (h : facIn [N4.mk 2 0 0 0] a.wf a.wn = true) : chkE (lis1 nm a) = stepE a := by
  have : chkF (rrow1 a) 1 = stepE a := chk_fac (f := rrow1 a) (i := 0) rfl rfl h
  exact (if_neg (by simp [lis1])).trans this
theorem chk2 {nm : Nat} {a b : PrfR} (h : facIn [N4.mk 2 0 0 0] a.wf a.wn = true) (ha : stepE a = 0) (h2 : facIn (insK [N4.mk 2 0 0 0] a.n) b.wf b.wn = true) : chkE (lis2 nm a b) = stepE b := by
  have e1 : chkF (rrow2 a b) 1 = 0 := (chk_fac (f := rrow2 a b) (i := 0) rfl rfl h).trans ha
  have e2 : chkF (rrow2 a b) 2 = stepE b := chk_fac (f := rrow2 a b) (i := 1) e1 rfl h2
  exact (if_neg (by simp [lis2])).trans e2
theorem aw3 (nm : Nat) : stepE (rec1 (N4.mk 3 0 0 0) (N4.mk 2 0 0 0) nm (FacR.mk (N4.mk 2 0 0 0) 1)) = 0 := step_ok (by kernel_rfl) ⟨by kernel_rfl, by show 1 < 3; decide⟩ (by kernel_rfl) (by kernel_rfl)
theorem aw7 (nm : Nat) : stepE (rec2 (N4.mk 7 0 0 0) (N4.mk 3 0 0 0) nm (FacR.mk (N4.mk 2 0 0 0) 1) (FacR.mk (N4.mk 3 0 0 0) 1)) = 0 := step_ok (by kernel_rfl) ⟨by kernel_rfl, by show 1 < 7; decide⟩ (by kernel_rfl) (by kernel_rfl)
theorem aw9 (nm : Nat) : stepE (rec1 (N4.mk 9 0 0 0) (N4.mk 2 0 0 0) nm (FacR.mk (N4.mk 2 0 0 0) 3)) = 20 := step_ord (by kernel_rfl) ⟨by kernel_rfl, by show 1 < 9; decide⟩ (by kernel_rfl) (by kernel_rfl)
theorem awL (nm a b : Nat) : chkE (lis2 nm (rec1 (N4.mk 3 0 0 0) (N4.mk 2 0 0 0) a (FacR.mk (N4.mk 2 0 0 0) 1)) (rec2 (N4.mk 7 0 0 0) (N4.mk 3 0 0 0) b (FacR.mk (N4.mk 2 0 0 0) 1) (FacR.mk (N4.mk 3 0 0 0) 1))) = 0 := (chk2 (by kernel_rfl) (aw3 a) (by kernel_rfl)).trans (aw7 b)
theorem awP7 (nm a b : Nat) : prvE (lis2 nm (rec1 (N4.mk 3 0 0 0) (N4.mk 2 0 0 0) a (FacR.mk (N4.mk 2 0 0 0) 1)) (rec2 (N4.mk 7 0 0 0) (N4.mk 3 0 0 0) b (FacR.mk (N4.mk 2 0 0 0) 1) (FacR.mk (N4.mk 3 0 0 0) 1))) (N4.mk 7 0 0 0) = 0 := prv_yes (awL nm a b) (by kernel_rfl)
theorem awP2 (nm a b : Nat) : prvE (lis2 nm (rec1 (N4.mk 3 0 0 0) (N4.mk 2 0 0 0) a (FacR.mk (N4.mk 2 0 0 0) 1)) (rec2 (N4.mk 7 0 0 0) (N4.mk 3 0 0 0) b (FacR.mk (N4.mk 2 0 0 0) 1) (FacR.mk (N4.mk 3 0 0 0) 1))) (N4.mk 2 0 0 0) = 0 := prv_yes (awL nm a b) (by kernel_rfl)
theorem awP5 (nm a b : Nat) : prvE (lis2 nm (rec1 (N4.mk 3 0 0 0) (N4.mk 2 0 0 0) a (FacR.mk (N4.mk 2 0 0 0) 1)) (rec2 (N4.mk 7 0 0 0) (N4.mk 3 0 0 0) b (FacR.mk (N4.mk 2 0 0 0) 1) (FacR.mk (N4.mk 3 0 0 0) 1))) (N4.mk 5 0 0 0) = 20 := prv_no (awL nm a b) (by kernel_rfl)
theorem awC7 (nm b : Nat) : chkE (lis1 nm (rec2 (N4.mk 7 0 0 0) (N4.mk 3 0 0 0) b (FacR.mk (N4.mk 2 0 0 0) 1) (FacR.mk (N4.mk 3 0 0 0) 1))) = 20 := chk1_no (by kernel_rfl)
theorem awC9 (nm b : Nat) : chkE (lis1 nm (rec1 (N4.mk 9 0 0 0) (N4.mk 2 0 0 0) b (FacR.mk (N4.mk 2 0 0 0) 3))) = 20 := (chk1 (by kernel_rfl)).trans (aw9 b)
end Go.Eng
