/-
  LimbDivides: for any wide number and any two numbers the law hands back true, and leaves its arguments as they were.
-/
import Derived.Test.YtghjbfkbmbnjkaaLimbRefFns
import Derived.Test.YtghjbfkbmbnjkaaLimbFns
import Derived.Test.YtghjbfkbmbnjkaaLimbLaws
namespace Go.Proofs.Ytghjbfkbmbnjkaa
open Go Go.Eng Go.ChangeShapes Go.WideShapes Go.ChangeAt Go.RowKit
set_option linter.unusedVariables false
set_option linter.unusedSimpArgs false
set_option exponentiation.threshold 600

theorem own : ownKnob Try.prog.godebug = none := by kernel_rfl
theorem laidOut : laidOutB Try.prog = true := by kernel_rfl
theorem natC : Try.prog.cellsOf 22 = 1 := by kernel_rfl
theorem natCt : Try.prog.cellsOf 24 = 4 := by kernel_rfl
theorem u64T : Try.prog.underlying 22 = some (.int .u64) := by kernel_rfl
theorem i64T : Try.prog.underlying 3 = some (.int .i64) := by kernel_rfl
theorem wideCt : Try.prog.cellsOf 29 = 8 := by kernel_rfl

theorem limbDivides_p1 (w : N8) (a : N4) (m : N4)  : (((((eq4 (remN w m) (remN w m)) && (((remE m) : Int) == (remE m))) && (eq4 (divQ a m) (divQ a m))) && (eq4 (divR a m) (divR a m))) && (((remE m) : Int) == (remE m))) = true := by
  have e4 : ∀ z : N4, eq4 z z = true := fun z => (eq4_iff z z).2 rfl
  simp [e4]

theorem limbDivides_pure (w : N8) (a : N4) (m : N4) : Pure Try.prog 5 [(wide8 w), (nat4 a), (nat4 m)] (Value.bool true) :=
  pure_of_ev mix Try.func5 rfl rfl 400 (.regn [(0, .new), (1, .new), (2, .new), (3, .g)] (more (fun n1 => more (fun n2 => more (fun n3 => fun _ => (.reg [(0, (.call [] 0 0 (fun _ => (Value.bool true)) (fun _ => []))), (1, .g)] (.regn [(0, (.ld 0 (.lit 0))), (1, (.ld 2 (.lit 0))), (2, (.call [] 0 0 (fun _ => (Value.tuple #[(nat4 (remN w m)), (int (remE m))])) (fun _ => []))), (3, .g), (4, .g), (5, .g), (6, .new), (7, (.st 3 (.lit 0))), (8, .g)] (more (fun n4 => fun _ => (.regn [(0, (.ld 0 (.lit 0))), (1, (.ld 2 (.lit 0))), (2, (.call [] 0 0 (fun _ => (Value.tuple #[(nat4 (remN w m)), (int (remE m))])) (fun _ => []))), (3, .g), (4, .g), (5, .g), (6, .new), (7, (.st 4 (.lit 0))), (8, .g)] (more (fun n5 => fun _ => (.regn [(0, (.ld 1 (.lit 0))), (1, (.ld 2 (.lit 0))), (2, (.call [] 0 0 (fun _ => (Value.tuple #[(nat4 (divQ a m)), (nat4 (divR a m)), (int (remE m))])) (fun _ => []))), (3, .g), (4, .g), (5, .g), (6, .g), (7, .new), (8, .new), (9, (.st 5 (.lit 0))), (10, (.st 6 (.lit 0))), (11, .g)] (more (fun n6 => more (fun n7 => fun _ => (.regn [(0, (.ld 1 (.lit 0))), (1, (.ld 2 (.lit 0))), (2, (.call [] 0 0 (fun _ => (Value.tuple #[(nat4 (divQ a m)), (nat4 (divR a m)), (int (remE m))])) (fun _ => []))), (3, .g), (4, .g), (5, .g), (6, .g), (7, .new), (8, .new), (9, (.st 7 (.lit 0))), (10, (.st 8 (.lit 0))), (11, .g)] (more (fun n8 => more (fun n9 => fun _ => (.reg [(0, .g), (1, .g), (2, .run (.ld 3 (.lit 0))), (3, .run (.ld 4 (.lit 0))), (4, .run (.as (Value.bool (eq4 (remN w m) (remN w m))))), (5, .pk), (6, .g), (7, .opt .g), (8, .opt .g), (9, .opt .g), (10, .pk), (11, .g), (12, .opt (.ld 5 (.lit 0))), (13, .opt (.ld 7 (.lit 0))), (14, .opt (.as (Value.bool (eq4 (divQ a m) (divQ a m))))), (15, .pk), (16, .g), (17, .opt (.ld 6 (.lit 0))), (18, .opt (.ld 8 (.lit 0))), (19, .opt (.as (Value.bool (eq4 (divR a m) (divR a m))))), (20, .pk), (21, .g), (22, .opt .g), (23, .opt .g), (24, .opt .g), (25, .pk), (26, .g)] .done))))))))))))))))))))) []
    (Eq.mp (by kernel_rfl) (fun (n1 n2 n3 : Nat) => And.intro (sk (sk (sk (sk trivial)))) (And.intro (And.intro (And.intro trivial awake_pure) (sk trivial)) (fun (n4 : Nat) => And.intro (And.intro (And.intro trivial (ad n1 0)) (And.intro (And.intro trivial (ad n3 0)) (And.intro (And.intro trivial (remV_two (rem_pure w m))) (sk (sk (sk (sk (And.intro (And.intro trivial (ad n4 0)) (sk trivial))))))))) (fun (n5 : Nat) => And.intro (And.intro (And.intro trivial (ad n1 0)) (And.intro (And.intro trivial (ad n3 0)) (And.intro (And.intro trivial (remV_two (refRem_pure w m))) (sk (sk (sk (sk (And.intro (And.intro trivial (ad n5 0)) (sk trivial))))))))) (fun (n6 n7 : Nat) => And.intro (And.intro (And.intro trivial (ad n2 0)) (And.intro (And.intro trivial (ad n3 0)) (And.intro (And.intro trivial (divV_two (div_pure a m))) (sk (sk (sk (sk (sk (sk (And.intro (And.intro trivial (ad n6 0)) (And.intro (And.intro trivial (ad n7 0)) (sk trivial)))))))))))) (fun (n8 n9 : Nat) => And.intro (And.intro (And.intro trivial (ad n2 0)) (And.intro (And.intro trivial (ad n3 0)) (And.intro (And.intro trivial (divV_two (refDiv_pure a m))) (sk (sk (sk (sk (sk (sk (And.intro (And.intro trivial (ad n8 0)) (And.intro (And.intro trivial (ad n9 0)) (sk trivial)))))))))))) (And.intro (sk (sk (And.intro (And.intro (@rfl Bool true) (And.intro trivial (ad n4 0))) (And.intro (And.intro (@rfl Bool true) (And.intro trivial (ad n5 0))) (And.intro (And.intro (@rfl Bool true) (And.intro trivial (@is_eql_nat4 Try.prog 24 24 22 (.tmp 47) (.tmp 48) natT natE natS natG (remN w m) (remN w m)))) (And.intro (And.intro trivial (And.intro (fun (_ : true = true) => trivial) (fun (_ : true = false) => trivial))) (sk (And.intro (fun (hg : (eq4 (remN w m) (remN w m)) = true) => t2) (And.intro (fun (hg : (eq4 (remN w m) (remN w m)) = true) => t2) (And.intro (fun (hg : (eq4 (remN w m) (remN w m)) = true) => (And.intro (And.intro hg (And.intro hg trivial)) trivial)) (And.intro (And.intro trivial (And.intro (fun (hp : (eq4 (remN w m) (remN w m)) = true) => hp) (fun (_ : (eq4 (remN w m) (remN w m)) = false) => trivial))) (sk (And.intro (fun (hg : ((eq4 (remN w m) (remN w m)) && (((remE m) : Int) == (remE m))) = true) => (And.intro trivial (ad n6 0))) (And.intro (fun (hg : ((eq4 (remN w m) (remN w m)) && (((remE m) : Int) == (remE m))) = true) => (And.intro trivial (ad n8 0))) (And.intro (fun (hg : ((eq4 (remN w m) (remN w m)) && (((remE m) : Int) == (remE m))) = true) => (And.intro (And.intro hg (And.intro hg trivial)) (@is_eql_nat4 Try.prog 24 24 22 (.tmp 57) (.tmp 58) natT natE natS natG (divQ a m) (divQ a m)))) (And.intro (And.intro trivial (And.intro (fun (hp : ((eq4 (remN w m) (remN w m)) && (((remE m) : Int) == (remE m))) = true) => hp) (fun (_ : ((eq4 (remN w m) (remN w m)) && (((remE m) : Int) == (remE m))) = false) => trivial))) (sk (And.intro (fun (hg : (((eq4 (remN w m) (remN w m)) && (((remE m) : Int) == (remE m))) && (eq4 (divQ a m) (divQ a m))) = true) => (And.intro trivial (ad n7 0))) (And.intro (fun (hg : (((eq4 (remN w m) (remN w m)) && (((remE m) : Int) == (remE m))) && (eq4 (divQ a m) (divQ a m))) = true) => (And.intro trivial (ad n9 0))) (And.intro (fun (hg : (((eq4 (remN w m) (remN w m)) && (((remE m) : Int) == (remE m))) && (eq4 (divQ a m) (divQ a m))) = true) => (And.intro (And.intro hg (And.intro hg trivial)) (@is_eql_nat4 Try.prog 24 24 22 (.tmp 62) (.tmp 63) natT natE natS natG (divR a m) (divR a m)))) (And.intro (And.intro trivial (And.intro (fun (hp : (((eq4 (remN w m) (remN w m)) && (((remE m) : Int) == (remE m))) && (eq4 (divQ a m) (divQ a m))) = true) => hp) (fun (_ : (((eq4 (remN w m) (remN w m)) && (((remE m) : Int) == (remE m))) && (eq4 (divQ a m) (divQ a m))) = false) => trivial))) (sk (And.intro (fun (hg : ((((eq4 (remN w m) (remN w m)) && (((remE m) : Int) == (remE m))) && (eq4 (divQ a m) (divQ a m))) && (eq4 (divR a m) (divR a m))) = true) => t2) (And.intro (fun (hg : ((((eq4 (remN w m) (remN w m)) && (((remE m) : Int) == (remE m))) && (eq4 (divQ a m) (divQ a m))) && (eq4 (divR a m) (divR a m))) = true) => t2) (And.intro (fun (hg : ((((eq4 (remN w m) (remN w m)) && (((remE m) : Int) == (remE m))) && (eq4 (divQ a m) (divQ a m))) && (eq4 (divR a m) (divR a m))) = true) => (And.intro (And.intro hg (And.intro hg trivial)) trivial)) (And.intro (And.intro trivial (And.intro (fun (hp : ((((eq4 (remN w m) (remN w m)) && (((remE m) : Int) == (remE m))) && (eq4 (divQ a m) (divQ a m))) && (eq4 (divR a m) (divR a m))) = true) => hp) (fun (_ : ((((eq4 (remN w m) (remN w m)) && (((remE m) : Int) == (remE m))) && (eq4 (divQ a m) (divQ a m))) && (eq4 (divR a m) (divR a m))) = false) => trivial))) (sk trivial))))))))))))))))))))))))))) (And.intro trivial ((congrArg Value.bool (limbDivides_p1 w a m ))))))))))))



set_option maxRecDepth 100000 in
theorem limbDivides_lifted (os : Os) (started : os.Started) (H : Type) (enc : TypeId × Value → H) :
    ReturnsInHanded {} Try.checked os 5 .any (Rows.limbDividesSpec.pre6 enc Try.prog Try.f5 Rows.limbDividesRow.domain false) (Rows.limbDividesSpec.post enc Try.prog Try.f5 false true false false) := by
  refine returnsInHanded_of_change (C := Try.checked) own started (by kernel_rfl) Try.func5
    (ChangeSpec.witness6 (enc := enc) (C := Try.checked) false ⟨#[], #[.agg #[.int .u64 0, .int .u64 0, .int .u64 0, .int .u64 0, .int .u64 0, .int .u64 0, .int .u64 0, .int .u64 0], .agg #[.int .u64 0, .int .u64 0, .int .u64 0, .int .u64 0], .agg #[.int .u64 0, .int .u64 0, .int .u64 0, .int .u64 0]], []⟩ 8 (by kernel_rfl) (by kernel_rfl) (by kernel_rfl) (by kernel_rfl)) ?_
  intro W base args ds gs before hval0 hW _ _
  have hval : ∀ (j : Nat) t v, Try.f5.params[j]? = some t → args[j]? = some v → Value.okWide Try.prog W .any base t v := hval0
  have hW' := hW
  obtain ⟨p, q, hA0, hV, hpq, hfz, hnd⟩ := hW
  have hA : DataW.TrodAll enc Try.prog W 0 (fun _ => true) true Try.f5.params.toList args.toList ds p := hA0
  rw [Try.params5] at hA hval
  obtain ⟨v0, vs0, d0, ds0, p0, q0, hargs, rfl, hp0, e0, r0⟩ := trodAll_cons hA
  obtain ⟨v1, vs1, d1, ds1, p1, q1, rfl, rfl, hp1, e1, r1⟩ := trodAll_cons r0
  obtain ⟨v2, vs2, d2, ds2, p2, q2, rfl, rfl, hp2, e2, r2⟩ := trodAll_cons r1
  obtain ⟨rfl, rfl, _⟩ := trodAll_nil r2
  obtain rfl : args = #[v0, v1, v2] := by cases args; simp_all
  obtain ⟨w, rfl⟩ := open_wide8 wideT natE natC wideCt (hval 0 29 v0 rfl rfl) e0
  obtain ⟨a, rfl⟩ := open_nat4 natT natE natC natCt (hval 1 24 v1 rfl rfl) e1
  obtain ⟨m, rfl⟩ := open_nat4 natT natE natC natCt (hval 2 24 v2 rfl rfl) e2
  obtain ⟨rfl, rfl⟩ := trodVars_none hV
  have key := limbDivides_pure w a m
  refine (pure_below key W).mono fun e W' ⟨he, hb⟩ => ?_
  subst he
  exact ⟨_, rfl, law_post laidOut (by kernel_rfl) rfl boolT rfl hW' ⟨rfl, rfl, rfl⟩ hb⟩

theorem limbDivides_holds : Rows.LimbDividesSaid :=
  OpenClaim.holds_of_wide 5 Try.f5 rfl rfl rfl rfl rfl rfl rfl ⟨rfl, rfl, rfl, rfl, rfl⟩ rfl rfl rfl rfl rfl (by kernel_rfl) Try.func5 (by kernel_rfl)
    (of_decide_eq_true (by kernel_rfl)) (by unfold Func.isWrapper; first | (rw [if_pos (by decide +kernel)]; kernel_rfl) | (rw [if_neg (by decide +kernel)]; exact ⟨rfl, rfl⟩))
    (fun os started H enc _ => limbDivides_lifted os started H enc)

end Go.Proofs.Ytghjbfkbmbnjkaa
