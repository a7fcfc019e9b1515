/-
  PrattProducts: for all arguments the law hands back true, and leaves them as they were.
-/
import Derived.Test.YtbggipbbfknnpaaPratBase
namespace Go.Proofs.Ytbggipbbfknnpaa
open Go Go.Eng Go.ChangeShapes Go.WideShapes Go.ChangeAt Go.RowKit
set_option linter.unusedVariables false
set_option linter.unusedSimpArgs false
set_option exponentiation.threshold 600
set_option maxRecDepth 100000
set_option maxHeartbeats 1000000

theorem own : ownKnob Try.prog.godebug = none := by kernel_rfl
theorem laidOut : laidOutB Try.prog = true := by kernel_rfl
theorem natC : Try.prog.cellsOf 24 = 1 := by kernel_rfl
theorem natCt : Try.prog.cellsOf 26 = 4 := by kernel_rfl
theorem u64T : Try.prog.underlying 24 = some (.int .u64) := by kernel_rfl
theorem i64T : Try.prog.underlying 3 = some (.int .i64) := by kernel_rfl
theorem pratT : PratT Try.prog 34 32 22 43 26 24 3 := ⟨by kernel_rfl, by kernel_rfl, by kernel_rfl, by kernel_rfl, by kernel_rfl, by kernel_rfl, by kernel_rfl, by kernel_rfl, by kernel_rfl, by kernel_rfl, by kernel_rfl, by kernel_rfl, by kernel_rfl⟩
theorem prattProducts_runs (r : PrfR) (hr : OkR r) : RunsF (famR r) Try.prog 3 [(Value.slice r.wa r.wn r.wc)] [] 0 (fun (_ : List Nat) => Value.bool true) (fun (_ : List Nat) => []) :=
  runsF_of_ev (F := (famR r)) mix Try.func3 rfl rfl 400 (.reg [(0, .g)] (.reg [(0, (.call [] 0 0 (fun _ => (Value.bool true)) (fun _ => []))), (1, .g)] (.reg [(0, .g), (1, (.as (nat r.wn))), (2, (.as (Value.bool (decide (8 < r.wn))))), (3, .g), (4, .opt .g), (5, .opt (.as (nat r.wn))), (6, .opt (.as (Value.bool (decide (r.wn ≤ 40))))), (7, .pk)] (.br (.reg [(0, .g), (1, .g)] .done) (.regn [(0, .g), (1, (.callF [] 0 0 (fun _ => (Value.tuple #[(nat4 (prodV r.wf r.wn)), (int (prodE r.wf r.wn))])) (fun _ => []))), (2, .g), (3, .g), (4, .g), (5, .new), (6, (.st 0 (.lit 0))), (7, .g)] (more (fun n1 => fun _ => (.regn [(0, .g), (1, (.callF [] 0 0 (fun _ => (Value.tuple #[(nat4 (prodV r.wf r.wn)), (int (prodE r.wf r.wn))])) (fun _ => []))), (2, .g), (3, .g), (4, .g), (5, .new), (6, (.st 1 (.lit 0))), (7, .g)] (more (fun n2 => fun _ => (.reg [(0, .g), (1, .g), (2, .run (.ld 0 (.lit 0))), (3, .run (.ld 1 (.lit 0))), (4, .run (.as (Value.bool (eq4 (prodV r.wf r.wn) (prodV r.wf r.wn))))), (5, .pk), (6, .g), (7, .opt .g), (8, .opt .g), (9, .opt .g), (10, .pk), (11, .g)] .done))))))))))) [] [] rfl
    (Eq.mp (by kernel_rfl) (And.intro (sk trivial) (And.intro (And.intro (And.intro trivial awake_pure) (sk trivial)) (And.intro (sk (And.intro (And.intro trivial (@is_len Try.prog 22 43 (.tmp 9) (by kernel_rfl) r.wa r.wn r.wc)) (And.intro (And.intro trivial (@is_gtrn Try.prog 3 3 (.tmp 10) (.const (.int .i64 8))  r.wn 8)) (sk (And.intro (fun (hg : (sameB (decide (8 < r.wn)) true) = true) => t2) (And.intro (fun (hg : (sameB (decide (8 < r.wn)) true) = true) => (And.intro (And.intro hg trivial) (@is_len Try.prog 22 43 (.tmp 13) (by kernel_rfl) r.wa r.wn r.wc))) (And.intro (fun (hg : (sameB (decide (8 < r.wn)) true) = true) => (And.intro (And.intro hg trivial) (@is_leqn Try.prog 3 3 (.tmp 14) (.const (.int .i64 40))  r.wn 40))) (And.intro (And.intro trivial (And.intro (fun (hp : (decide (8 < r.wn)) = true) => (sameB_mk hp)) (fun (_ : (decide (8 < r.wn)) = false) => trivial))) trivial)))))))) (And.intro trivial (And.intro (fun (h1 : (selB (decide (8 < r.wn)) (decide (r.wn ≤ 40)) false) = true) => And.intro (sk (sk trivial)) (And.intro trivial (@Exists.intro (List Nat) (fun (ns : List Nat) => ns.length = 0 ∧ ((Value.bool true) : Value) = (fun (_ : List Nat) => Value.bool true) ns ∧ ([] : List (Option Blk)) = (fun (_ : List Nat) => []) ns) [] (And.intro (@rfl Nat 0) (And.intro ((@rfl Value (.bool true))) (@rfl (List (Option Blk)) [])))))) (fun (h1 : (selB (decide (8 < r.wn)) (decide (r.wn ≤ 40)) false) = false) => fun (n1 : Nat) => And.intro (sk (And.intro (And.intro trivial (RunsF.mono (fun _ h => h) (product_fam r hr))) (sk (sk (sk (sk (And.intro (And.intro trivial (ad n1 0)) (sk trivial)))))))) (fun (n2 : Nat) => And.intro (sk (And.intro (And.intro trivial (RunsF.mono (fun _ h => h) (rproduct_fam r hr))) (sk (sk (sk (sk (And.intro (And.intro trivial (ad n2 0)) (sk trivial)))))))) (And.intro (sk (sk (And.intro (And.intro (@rfl Bool true) (And.intro trivial (ad n1 0))) (And.intro (And.intro (@rfl Bool true) (And.intro trivial (ad n2 0))) (And.intro (And.intro (@rfl Bool true) (And.intro trivial (@is_eql_nat4 Try.prog 26 26 24 (.tmp 30) (.tmp 31) natT natE natS natG (prodV r.wf r.wn) (prodV r.wf r.wn)))) (And.intro (And.intro trivial (And.intro (fun (_ : true = true) => trivial) (fun (_ : true = false) => trivial))) (sk (And.intro (fun (hg : (sameB (selB true (eq4 (prodV r.wf r.wn) (prodV r.wf r.wn)) false) true) = true) => t2) (And.intro (fun (hg : (sameB (selB true (eq4 (prodV r.wf r.wn) (prodV r.wf r.wn)) false) true) = true) => t2) (And.intro (fun (hg : (sameB (selB true (eq4 (prodV r.wf r.wn) (prodV r.wf r.wn)) false) true) = true) => (And.intro (And.intro hg (And.intro hg trivial)) trivial)) (And.intro (And.intro trivial (And.intro (fun (hp : (selB true (eq4 (prodV r.wf r.wn) (prodV r.wf r.wn)) false) = true) => (sameB_mk hp)) (fun (_ : (selB true (eq4 (prodV r.wf r.wn) (prodV r.wf r.wn)) false) = false) => trivial))) (sk trivial)))))))))))) (And.intro trivial (@Exists.intro (List Nat) (fun (ns : List Nat) => ns.length = 0 ∧ ((Value.bool (selB (selB true (eq4 (prodV r.wf r.wn) (prodV r.wf r.wn)) false) (((prodE r.wf r.wn) : Int) == (prodE r.wf r.wn)) false)) : Value) = (fun (_ : List Nat) => Value.bool true) ns ∧ ([] : List (Option Blk)) = (fun (_ : List Nat) => []) ns) [] (And.intro (@rfl Nat 0) (And.intro ((show (Value.bool (selB (selB true (eq4 (prodV r.wf r.wn) (prodV r.wf r.wn)) false) (((prodE r.wf r.wn) : Int) == (prodE r.wf r.wn)) false)) = Value.bool true from congrArg Value.bool (show (selB (selB true (eq4 (prodV r.wf r.wn) (prodV r.wf r.wn)) false) (((prodE r.wf r.wn) : Int) == (prodE r.wf r.wn)) false) = true from by have f0 : r.wn ≤ 9223372036854775807 := hr.len; have f1 : (¬ (8 < r.wn)) ∨ (¬ (r.wn ≤ 40)) := (Or.imp (fun h => (of_decide_eq_false h)) (fun h => (of_decide_eq_false h)) (sband_f h1)); rw [(eq4_iff _ _).2 rfl]; simp [selB]))) (@rfl (List (Option Blk)) []))))))))))))))

set_option maxRecDepth 100000 in
theorem prattProducts_lifted (os : Os) (started : os.Started) (H : Type) (enc : TypeId × Value → H) :
    ReturnsInHanded {} Try.checked os 3 .any (Rows.prattProductsSpec.pre6 enc Try.prog Try.f3 Rows.prattProductsRow.domain false) (Rows.prattProductsSpec.post enc Try.prog Try.f3 false true false false) := by
  refine returnsInHanded_of_change (C := Try.checked) own started (by kernel_rfl) Try.func3
    (ChangeSpec.witness6 (enc := enc) (C := Try.checked) false ⟨#[], #[.slice none 0 0], []⟩ 8 (by kernel_rfl) (by kernel_rfl) (by kernel_rfl) (by kernel_rfl)) ?_
  intro W base args ds gs before hval0 hW _ _
  have hval : ∀ (j : Nat) t v, Try.f3.params[j]? = some t → args[j]? = some v → Value.okWide Try.prog W .any base t v := hval0
  have hW' := hW
  obtain ⟨p, q, hA0, hV, hpq, hfz, hnd⟩ := hW
  have hA : DataW.TrodAll enc Try.prog W 0 (fun _ => true) true Try.f3.params.toList args.toList ds p := hA0
  rw [Try.params3] at hA hval
  obtain ⟨v0, vs0, d0, ds0, p0, q0, hargs, rfl, hp0, e0, r0⟩ := trodAll_cons hA
  obtain ⟨rfl, rfl, _⟩ := trodAll_nil r0
  obtain rfl : args = #[v0] := by cases args; simp_all
  obtain ⟨rfl, rfl⟩ := trodVars_none hV
  obtain ⟨r, rfl, hr, hF⟩ := open_facs pratT (hval 0 22 v0 rfl rfl) e0
  have key : Calls Try.prog 3 #[.slice r.wa r.wn r.wc] W fun e w' => e = .returned (Value.bool true) ∧ Below W.heap.size W w' := runsF_law (prattProducts_runs r  hr ) (fun b hb => by cases hb) (fun b hb => by cases hb) hF
  refine key.mono fun e W' ⟨he, hb⟩ => ?_
  subst he
  exact ⟨_, rfl, law_post laidOut (by kernel_rfl) rfl boolT rfl hW' ⟨rfl, rfl, rfl⟩ hb⟩

theorem prattProducts_holds : Rows.PrattProductsSaid :=
  OpenClaim.holds_of_wide 3 Try.f3 rfl rfl rfl rfl rfl rfl rfl ⟨rfl, rfl, rfl, rfl, rfl⟩ rfl rfl rfl rfl rfl (by kernel_rfl) Try.func3 (by kernel_rfl)
    (of_decide_eq_true (by kernel_rfl)) (by unfold Func.isWrapper; first | (rw [if_pos (by decide +kernel)]; kernel_rfl) | (rw [if_neg (by decide +kernel)]; exact ⟨rfl, rfl⟩))
    (fun os started H enc _ => prattProducts_lifted os started H enc)

end Go.Proofs.Ytbggipbbfknnpaa
