/-
  PrattChecks: for all arguments the law hands back true, and leaves them as they were.
-/
import Derived.Test.YtbggipbbfknnpaaPratBase
namespace Go.Proofs.Ytbggipbbfknnpaa
open Go Go.Eng Go.ChangeShapes Go.WideShapes Go.ChangeAt Go.RowKit
set_option linter.unusedVariables false
set_option linter.unusedSimpArgs false
set_option exponentiation.threshold 600
set_option maxRecDepth 100000
set_option maxHeartbeats 1000000

theorem own : ownKnob Try.prog.godebug = none := by kernel_rfl
theorem laidOut : laidOutB Try.prog = true := by kernel_rfl
theorem natC : Try.prog.cellsOf 24 = 1 := by kernel_rfl
theorem natCt : Try.prog.cellsOf 26 = 4 := by kernel_rfl
theorem u64T : Try.prog.underlying 24 = some (.int .u64) := by kernel_rfl
theorem i64T : Try.prog.underlying 3 = some (.int .i64) := by kernel_rfl
theorem pratT : PratT Try.prog 34 32 22 43 26 24 3 := ⟨by kernel_rfl, by kernel_rfl, by kernel_rfl, by kernel_rfl, by kernel_rfl, by kernel_rfl, by kernel_rfl, by kernel_rfl, by kernel_rfl, by kernel_rfl, by kernel_rfl, by kernel_rfl, by kernel_rfl⟩
theorem prattChecks_runs (q : PrfL) (n : N4) (hq : OkL q) : RunsF (famL q) Try.prog 5 [(Value.slice q.la q.ln q.lc), (nat4 n)] [] 0 (fun (_ : List Nat) => Value.bool true) (fun (_ : List Nat) => []) :=
  runsF_of_ev (F := (famL q)) mix Try.func5 rfl rfl 400 (.regn [(0, .new), (1, .g)] (more (fun n1 => fun _ => (.reg [(0, (.call [] 0 0 (fun _ => (Value.bool true)) (fun _ => []))), (1, .g)] (.reg [(0, .g), (1, (.callF [] 0 0 (fun _ => (Value.bool (shortB q))) (fun _ => []))), (2, .g)] (.reg [(0, .g), (1, .g)] (.br (.reg [(0, .g), (1, .g)] .done) (.reg [(0, .g), (1, (.callF [] 0 0 (fun _ => (int (chkE q))) (fun _ => []))), (2, .g)] (.reg [(0, .g), (1, (.ld 0 (.lit 0))), (2, (.callF [] 0 0 (fun _ => (int (prvE q n))) (fun _ => []))), (3, .g)] (.reg [(0, .g), (1, .g), (2, .run .g), (3, .run .g), (4, .run (.callF [] 0 0 (fun _ => (int (chkE q))) (fun _ => []))), (5, .run .g), (6, .pk), (7, .g), (8, .opt .g), (9, .opt .g), (10, .opt (.ld 0 (.lit 0))), (11, .opt (.callF [] 0 0 (fun _ => (int (prvE q n))) (fun _ => []))), (12, .opt .g), (13, .pk), (14, .g)] .done)))))))))) [] [] rfl
    (Eq.mp (by kernel_rfl) (fun (n1 : Nat) => And.intro (sk (sk trivial)) (And.intro (And.intro (And.intro trivial awake_pure) (sk trivial)) (And.intro (sk (And.intro (And.intro trivial (short_fam q hq)) (sk trivial))) (And.intro (sk (sk trivial)) (And.intro trivial (And.intro (fun (h1 : (!(shortB q)) = true) => And.intro (sk (sk trivial)) (And.intro trivial (@Exists.intro (List Nat) (fun (ns : List Nat) => ns.length = 0 ∧ ((Value.bool true) : Value) = (fun (_ : List Nat) => Value.bool true) ns ∧ ([] : List (Option Blk)) = (fun (_ : List Nat) => []) ns) [] (And.intro (@rfl Nat 0) (And.intro ((@rfl Value (.bool true))) (@rfl (List (Option Blk)) [])))))) (fun (h1 : (!(shortB q)) = false) => And.intro (sk (And.intro (And.intro trivial (check_fam q hq)) (sk trivial))) (And.intro (sk (And.intro (And.intro trivial (ad n1 0)) (And.intro (And.intro trivial (proves_fam q n hq)) (sk trivial)))) (And.intro (sk (sk (And.intro (And.intro (@rfl Bool true) t2) (And.intro (And.intro (@rfl Bool true) t2) (And.intro (And.intro (@rfl Bool true) (And.intro trivial (rcheck_fam q hq))) (And.intro (And.intro (@rfl Bool true) t2) (And.intro (And.intro trivial (And.intro (fun (_ : true = true) => trivial) (fun (_ : true = false) => trivial))) (sk (And.intro (fun (hg : (sameB (selB true (((chkE q) : Int) == (chkE q)) false) true) = true) => t2) (And.intro (fun (hg : (sameB (selB true (((chkE q) : Int) == (chkE q)) false) true) = true) => t2) (And.intro (fun (hg : (sameB (selB true (((chkE q) : Int) == (chkE q)) false) true) = true) => (And.intro trivial (ad n1 0))) (And.intro (fun (hg : (sameB (selB true (((chkE q) : Int) == (chkE q)) false) true) = true) => (And.intro (And.intro hg (And.intro hg trivial)) (rproves_fam q n hq))) (And.intro (fun (hg : (sameB (selB true (((chkE q) : Int) == (chkE q)) false) true) = true) => (And.intro (And.intro hg (And.intro hg trivial)) trivial)) (And.intro (And.intro trivial (And.intro (fun (hp : (selB true (((chkE q) : Int) == (chkE q)) false) = true) => (sameB_mk hp)) (fun (_ : (selB true (((chkE q) : Int) == (chkE q)) false) = false) => trivial))) (sk trivial))))))))))))))) (And.intro trivial (@Exists.intro (List Nat) (fun (ns : List Nat) => ns.length = 0 ∧ ((Value.bool (selB (selB true (((chkE q) : Int) == (chkE q)) false) (((prvE q n) : Int) == (prvE q n)) false)) : Value) = (fun (_ : List Nat) => Value.bool true) ns ∧ ([] : List (Option Blk)) = (fun (_ : List Nat) => []) ns) [] (And.intro (@rfl Nat 0) (And.intro ((show (Value.bool (selB (selB true (((chkE q) : Int) == (chkE q)) false) (((prvE q n) : Int) == (prvE q n)) false)) = Value.bool true from congrArg Value.bool (show (selB (selB true (((chkE q) : Int) == (chkE q)) false) (((prvE q n) : Int) == (prvE q n)) false) = true from by have f0 : q.ln ≤ 9223372036854775807 := hq.len; have f1 : (shortB q) = true := (bnot_f h1); simp [selB]))) (@rfl (List (Option Blk)) [])))))))))))))))

set_option maxRecDepth 100000 in
theorem prattChecks_lifted (os : Os) (started : os.Started) (H : Type) (enc : TypeId × Value → H) :
    ReturnsInHanded {} Try.checked os 5 .any (Rows.prattChecksSpec.pre6 enc Try.prog Try.f5 Rows.prattChecksRow.domain false) (Rows.prattChecksSpec.post enc Try.prog Try.f5 false true false false) := by
  refine returnsInHanded_of_change (C := Try.checked) own started (by kernel_rfl) Try.func5
    (ChangeSpec.witness6 (enc := enc) (C := Try.checked) false ⟨#[], #[.slice none 0 0, .agg #[.int .u64 0, .int .u64 0, .int .u64 0, .int .u64 0]], []⟩ 8 (by kernel_rfl) (by kernel_rfl) (by kernel_rfl) (by kernel_rfl)) ?_
  intro W base args ds gs before hval0 hW _ _
  have hval : ∀ (j : Nat) t v, Try.f5.params[j]? = some t → args[j]? = some v → Value.okWide Try.prog W .any base t v := hval0
  have hW' := hW
  obtain ⟨p, q, hA0, hV, hpq, hfz, hnd⟩ := hW
  have hA : DataW.TrodAll enc Try.prog W 0 (fun _ => true) true Try.f5.params.toList args.toList ds p := hA0
  rw [Try.params5] at hA hval
  obtain ⟨v0, vs0, d0, ds0, p0, q0, hargs, rfl, hp0, e0, r0⟩ := trodAll_cons hA
  obtain ⟨v1, vs1, d1, ds1, p1, q1, rfl, rfl, hp1, e1, r1⟩ := trodAll_cons r0
  obtain ⟨rfl, rfl, _⟩ := trodAll_nil r1
  obtain rfl : args = #[v0, v1] := by cases args; simp_all
  obtain ⟨n, rfl⟩ := open_nat4 natT natE natC natCt (hval 1 26 v1 rfl rfl) e1
  obtain ⟨rfl, rfl⟩ := trodVars_none hV
  obtain ⟨q, rfl, hr, hF⟩ := open_prfs pratT (hval 0 34 v0 rfl rfl) e0
  have key : Calls Try.prog 5 #[.slice q.la q.ln q.lc, nat4 n] W fun e w' => e = .returned (Value.bool true) ∧ Below W.heap.size W w' := runsF_law (prattChecks_runs q n hr ) (fun b hb => by cases hb) (fun b hb => by cases hb) hF
  refine key.mono fun e W' ⟨he, hb⟩ => ?_
  subst he
  exact ⟨_, rfl, law_post laidOut (by kernel_rfl) rfl boolT rfl hW' ⟨rfl, rfl, rfl⟩ hb⟩

theorem prattChecks_holds : Rows.PrattChecksSaid :=
  OpenClaim.holds_of_wide 5 Try.f5 rfl rfl rfl rfl rfl rfl rfl ⟨rfl, rfl, rfl, rfl, rfl⟩ rfl rfl rfl rfl rfl (by kernel_rfl) Try.func5 (by kernel_rfl)
    (of_decide_eq_true (by kernel_rfl)) (by unfold Func.isWrapper; first | (rw [if_pos (by decide +kernel)]; kernel_rfl) | (rw [if_neg (by decide +kernel)]; exact ⟨rfl, rfl⟩))
    (fun os started H enc _ => prattChecks_lifted os started H enc)

end Go.Proofs.Ytbggipbbfknnpaa
