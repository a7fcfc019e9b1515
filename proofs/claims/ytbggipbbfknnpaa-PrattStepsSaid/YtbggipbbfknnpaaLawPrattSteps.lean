/-
  PrattSteps: for all arguments the law hands back true, and leaves them as they were.
-/
import Derived.Test.YtbggipbbfknnpaaPratBase
namespace Go.Proofs.Ytbggipbbfknnpaa
open Go Go.Eng Go.ChangeShapes Go.WideShapes Go.ChangeAt Go.RowKit
set_option linter.unusedVariables false
set_option linter.unusedSimpArgs false
set_option exponentiation.threshold 600
set_option maxRecDepth 100000
set_option maxHeartbeats 1000000

theorem own : ownKnob Try.prog.godebug = none := by kernel_rfl
theorem laidOut : laidOutB Try.prog = true := by kernel_rfl
theorem natC : Try.prog.cellsOf 24 = 1 := by kernel_rfl
theorem natCt : Try.prog.cellsOf 26 = 4 := by kernel_rfl
theorem u64T : Try.prog.underlying 24 = some (.int .u64) := by kernel_rfl
theorem i64T : Try.prog.underlying 3 = some (.int .i64) := by kernel_rfl
theorem pratT : PratT Try.prog 34 32 22 43 26 24 3 := ⟨by kernel_rfl, by kernel_rfl, by kernel_rfl, by kernel_rfl, by kernel_rfl, by kernel_rfl, by kernel_rfl, by kernel_rfl, by kernel_rfl, by kernel_rfl, by kernel_rfl, by kernel_rfl, by kernel_rfl⟩
theorem prattSteps_runs (r : PrfR) (hr : OkR r) : RunsF (famR r) Try.prog 4 [(Value.agg #[(u64 r.n.a), (u64 r.n.b), (u64 r.n.c), (u64 r.n.d), (u64 r.g.a), (u64 r.g.b), (u64 r.g.c), (u64 r.g.d), (Value.slice r.wa r.wn r.wc)])] [] 0 (fun (_ : List Nat) => Value.bool true) (fun (_ : List Nat) => []) :=
  runsF_of_ev (F := (famR r)) mix Try.func4 rfl rfl 400 (.regn [(0, .new), (1, .g)] (more (fun n1 => fun _ => (.reg [(0, (.call [] 0 0 (fun _ => (Value.bool true)) (fun _ => []))), (1, .g)] (.regn [(0, (.ld 0 (.lit 0))), (1, (.oth [] 1 1 (fun ns => Value.slice (some ⟨ns.getD 0 0, 0, none⟩) 1 1) (fun ns => [some ⟨ns.getD 0 0, true, 0, .lit [(u64 r.n.a), (u64 r.n.b), (u64 r.n.c), (u64 r.n.d), (u64 r.g.a), (u64 r.g.b), (u64 r.g.c), (u64 r.g.d), (Value.slice r.wa r.wn r.wc)]⟩]))), (2, (.callF [(1, true)] 0 0 (fun _ => (Value.bool (!(selB (decide (8 < r.wn)) (decide (r.wn ≤ 40)) false)))) (fun _ => [none]))), (3, .g)] (more (fun n2 => fun _ => (.reg [(0, .g), (1, .g)] (.br (.reg [(0, .g), (1, .g)] .done) (.reg [(0, (.ld 0 (.lit 0))), (1, (.callF [] 0 0 (fun _ => (int (stepE r))) (fun _ => []))), (2, .g)] (.reg [(0, .g), (1, .g), (2, .run .g), (3, .run (.ld 0 (.lit 0))), (4, .run (.callF [] 0 0 (fun _ => (int (stepE r))) (fun _ => []))), (5, .run .g), (6, .pk), (7, .g)] .done))))))))))) [] [] rfl
    (Eq.mp (by kernel_rfl) (fun (n1 : Nat) => And.intro (sk (sk trivial)) (And.intro (And.intro (And.intro trivial awake_pure) (sk trivial)) (fun (n2 : Nat) => And.intro (And.intro (And.intro trivial (ad n1 0)) (And.intro (And.intro trivial (mkE_build (P := Try.prog) (t := 34) (e := 32) (z := (Value.agg #[(u64 0), (u64 0), (u64 0), (u64 0), (u64 0), (u64 0), (u64 0), (u64 0), (Value.slice none 0 0)])) agg32 (by kernel_rfl) 1 #[(0, (Value.agg #[(u64 r.n.a), (u64 r.n.b), (u64 r.n.c), (u64 r.n.d), (u64 r.g.a), (u64 r.g.b), (u64 r.g.c), (u64 r.g.d), (Value.slice r.wa r.wn r.wc)]))] #[(u64 r.n.a), (u64 r.n.b), (u64 r.n.c), (u64 r.n.d), (u64 r.g.a), (u64 r.g.b), (u64 r.g.c), (u64 r.g.d), (Value.slice r.wa r.wn r.wc)] (by kernel_rfl) (by decide) (by kernel_rfl))) (And.intro (And.intro trivial (RunsF.valB short1 (RunsF.lend (F' := (famR r)) (cs := [⟨n2, false, 0, (.lit [(u64 r.n.a), (u64 r.n.b), (u64 r.n.c), (u64 r.n.d), (u64 r.g.a), (u64 r.g.b), (u64 r.g.c), (u64 r.g.d), (Value.slice r.wa r.wn r.wc)])⟩]) (short_fam (lis1 n2 r) (okl_1 hr)) (fun w hm => famL_1 (X := (famR r)) (hm _ (.head _)) (fun b hb => .inl hb)) (by simp)))) (sk trivial)))) (And.intro (sk (sk trivial)) (And.intro trivial (And.intro (fun (h1 : (!(!(selB (decide (8 < r.wn)) (decide (r.wn ≤ 40)) false))) = true) => And.intro (sk (sk trivial)) (And.intro trivial (@Exists.intro (List Nat) (fun (ns : List Nat) => ns.length = 0 ∧ ((Value.bool true) : Value) = (fun (_ : List Nat) => Value.bool true) ns ∧ ([] : List (Option Blk)) = (fun (_ : List Nat) => []) ns) [] (And.intro (@rfl Nat 0) (And.intro ((@rfl Value (.bool true))) (@rfl (List (Option Blk)) [])))))) (fun (h1 : (!(!(selB (decide (8 < r.wn)) (decide (r.wn ≤ 40)) false))) = false) => And.intro (And.intro (And.intro trivial (ad n1 0)) (And.intro (And.intro trivial (RunsF.mono (fun _ h => h) (step_fam r hr))) (sk trivial))) (And.intro (sk (sk (And.intro (And.intro (@rfl Bool true) t2) (And.intro (And.intro (@rfl Bool true) (And.intro trivial (ad n1 0))) (And.intro (And.intro (@rfl Bool true) (And.intro trivial (RunsF.mono (fun _ h => h) (rstep_fam r hr)))) (And.intro (And.intro (@rfl Bool true) t2) (And.intro (And.intro trivial (And.intro (fun (_ : true = true) => trivial) (fun (_ : true = false) => trivial))) (sk trivial)))))))) (And.intro trivial (@Exists.intro (List Nat) (fun (ns : List Nat) => ns.length = 0 ∧ ((Value.bool (selB true (((stepE r) : Int) == (stepE r)) false)) : Value) = (fun (_ : List Nat) => Value.bool true) ns ∧ ([] : List (Option Blk)) = (fun (_ : List Nat) => []) ns) [] (And.intro (@rfl Nat 0) (And.intro ((show (Value.bool (selB true (((stepE r) : Int) == (stepE r)) false)) = Value.bool true from congrArg Value.bool (show (selB true (((stepE r) : Int) == (stepE r)) false) = true from by have f0 : r.wn ≤ 9223372036854775807 := hr.len; have f1 : (selB (decide (8 < r.wn)) (decide (r.wn ≤ 40)) false) = false := (bnot_t (bnot_f h1)); simp [selB]))) (@rfl (List (Option Blk)) []))))))))))))))

set_option maxRecDepth 100000 in
theorem prattSteps_lifted (os : Os) (started : os.Started) (H : Type) (enc : TypeId × Value → H) :
    ReturnsInHanded {} Try.checked os 4 .any (Rows.prattStepsSpec.pre6 enc Try.prog Try.f4 Rows.prattStepsRow.domain false) (Rows.prattStepsSpec.post enc Try.prog Try.f4 false true false false) := by
  refine returnsInHanded_of_change (C := Try.checked) own started (by kernel_rfl) Try.func4
    (ChangeSpec.witness6 (enc := enc) (C := Try.checked) false ⟨#[], #[.agg #[.int .u64 0, .int .u64 0, .int .u64 0, .int .u64 0, .int .u64 0, .int .u64 0, .int .u64 0, .int .u64 0, .slice none 0 0]], []⟩ 8 (by kernel_rfl) (by kernel_rfl) (by kernel_rfl) (by kernel_rfl)) ?_
  intro W base args ds gs before hval0 hW _ _
  have hval : ∀ (j : Nat) t v, Try.f4.params[j]? = some t → args[j]? = some v → Value.okWide Try.prog W .any base t v := hval0
  have hW' := hW
  obtain ⟨p, q, hA0, hV, hpq, hfz, hnd⟩ := hW
  have hA : DataW.TrodAll enc Try.prog W 0 (fun _ => true) true Try.f4.params.toList args.toList ds p := hA0
  rw [Try.params4] at hA hval
  obtain ⟨v0, vs0, d0, ds0, p0, q0, hargs, rfl, hp0, e0, r0⟩ := trodAll_cons hA
  obtain ⟨rfl, rfl, _⟩ := trodAll_nil r0
  obtain rfl : args = #[v0] := by cases args; simp_all
  obtain ⟨rfl, rfl⟩ := trodVars_none hV
  obtain ⟨r, rfl, hr, hF⟩ := open_prf pratT (hval 0 32 v0 rfl rfl) e0
  have key : Calls Try.prog 4 #[.agg (prfC r).toArray] W fun e w' => e = .returned (Value.bool true) ∧ Below W.heap.size W w' := runsF_law (prattSteps_runs r  hr ) (fun b hb => by cases hb) (fun b hb => by cases hb) hF
  refine key.mono fun e W' ⟨he, hb⟩ => ?_
  subst he
  exact ⟨_, rfl, law_post laidOut (by kernel_rfl) rfl boolT rfl hW' ⟨rfl, rfl, rfl⟩ hb⟩

theorem prattSteps_holds : Rows.PrattStepsSaid :=
  OpenClaim.holds_of_wide 4 Try.f4 rfl rfl rfl rfl rfl rfl rfl ⟨rfl, rfl, rfl, rfl, rfl⟩ rfl rfl rfl rfl rfl (by kernel_rfl) Try.func4 (by kernel_rfl)
    (of_decide_eq_true (by kernel_rfl)) (by unfold Func.isWrapper; first | (rw [if_pos (by decide +kernel)]; kernel_rfl) | (rw [if_neg (by decide +kernel)]; exact ⟨rfl, rfl⟩))
    (fun os started H enc _ => prattSteps_lifted os started H enc)

end Go.Proofs.Ytbggipbbfknnpaa
