/-
  ModqOne: for all arguments the law hands back true, and leaves them as they were.
-/
import Derived.Test.YtmaejpooanenpaaEngA
import Derived.Test.YtmaejpooanenpaaNat4
import Derived.Test.YtmaejpooanenpaaLimbFns
import Derived.Test.YtmaejpooanenpaaLimbRefFns
import Derived.Test.YtmaejpooanenpaaEngR
import Derived.Test.YtmaejpooanenpaaMontMath
import Derived.Test.YtmaejpooanenpaaMontFnsA
import Derived.Test.YtmaejpooanenpaaMontOnce
import Derived.Test.YtmaejpooanenpaaMontFnsB
import Derived.Test.YtmaejpooanenpaaModqFns
import Derived.Test.YtmaejpooanenpaaModqRefFns
import Derived.Test.YtmaejpooanenpaaModqBack
import Derived.Test.YtmaejpooanenpaaModqEv
import Derived.Test.YtmaejpooanenpaaModqEval
import Derived.Test.YtmaejpooanenpaaModqWts
import Derived.Test.YtmaejpooanenpaaModqAw
namespace Go.Proofs.Ytmaejpooanenpaa
open Go Go.Eng Go.ChangeShapes Go.WideShapes Go.ChangeAt Go.RowKit
set_option linter.unusedVariables false
set_option linter.unusedSimpArgs false
set_option exponentiation.threshold 600
set_option maxRecDepth 100000
set_option maxHeartbeats 1000000

theorem own : ownKnob Try.prog.godebug = none := by kernel_rfl
theorem laidOut : laidOutB Try.prog = true := by kernel_rfl
theorem natC : Try.prog.cellsOf 22 = 1 := by kernel_rfl
theorem natCt : Try.prog.cellsOf 24 = 4 := by kernel_rfl
theorem u64T : Try.prog.underlying 22 = some (.int .u64) := by kernel_rfl
theorem i64T : Try.prog.underlying 3 = some (.int .i64) := by kernel_rfl
theorem modqOne_G (m : N4) (a : N4) (hm : OddM m) : Runs Try.prog 6 [(nat4 m), (nat4 a)] [] 0 (fun (_ : List Nat) => Value.bool true) (fun (_ : List Nat) => []) :=
  runs_of_ev mix Try.func6 rfl rfl 400 (.regn [(0, .new), (1, .new), (2, .g)] (more (fun n1 => more (fun n2 => fun _ => (.reg [(0, (.call [] 0 0 (fun _ => (Value.bool true)) (fun _ => []))), (1, .g)] (.regn [(0, (.ld 0 (.lit 0))), (1, (.call [] 1 1 (fun ns => (ptr (ns.getD 0 0) 0)) (fun ns => [some ⟨(ns.getD 0 0), true, 0, .lit [(u64 m.a), (u64 m.b), (u64 m.c), (u64 m.d), (u32 (doneS false)), (Value.int .i32 0), (u32 0), (u64 ((lackS m false).a)), (u64 ((lackS m false).b)), (u64 ((lackS m false).c)), (u64 ((lackS m false).d)), (u64 ((oneS m false).a)), (u64 ((oneS m false).b)), (u64 ((oneS m false).c)), (u64 ((oneS m false).d)), (u64 ((twoS m false).a)), (u64 ((twoS m false).b)), (u64 ((twoS m false).c)), (u64 ((twoS m false).d))]⟩]))), (2, .g)] (more (fun n3 => fun _ => (.reg [(0, .g), (1, .g)] (.no (.regn [(0, .g), (1, (.ld 1 (.lit 0))), (2, (.call [(2, true)] 0 0 (fun _ => (Value.tuple #[(nat4 (invT m a)), (int (invE m a))])) (fun _ => [none]))), (3, .g), (4, .g), (5, .g), (6, .new), (7, (.st 3 (.lit 0))), (8, .g)] (more (fun n4 => fun _ => (.regn [(0, .g), (1, (.ld 1 (.lit 0))), (2, (.ld 3 (.lit 0))), (3, (.call [(2, false)] 0 0 (fun _ => (nat4 (timesM m a (invT m a)))) (fun _ => [some ⟨n3, true, 0, (.lit [(u64 m.a), (u64 m.b), (u64 m.c), (u64 m.d), (u32 (doneS true)), (Value.int .i32 0), (u32 0), (u64 ((lackS m true).a)), (u64 ((lackS m true).b)), (u64 ((lackS m true).c)), (u64 ((lackS m true).d)), (u64 ((oneS m true).a)), (u64 ((oneS m true).b)), (u64 ((oneS m true).c)), (u64 ((oneS m true).d)), (u64 ((twoS m true).a)), (u64 ((twoS m true).b)), (u64 ((twoS m true).c)), (u64 ((twoS m true).d))])⟩]))), (4, .new), (5, (.st 4 (.lit 0)))] (more (fun n5 => fun _ => (.reg [(0, (.ld 1 (.lit 0))), (1, (.ld 0 (.lit 0))), (2, (.call [] 0 0 (fun _ => (nat4 (gcdN a m))) (fun _ => []))), (3, .g), (4, (.as (Value.bool (!(eq4 (gcdN a m) (N4.mk 1 0 0 0)))))), (5, .g)] (.reg [(0, .g), (1, .g), (2, .run .g), (3, .run .g), (4, .run .g), (5, .run (.as (Value.bool ((((invE m a) : Int) == 11) == (!(eq4 (gcdN a m) (N4.mk 1 0 0 0))))))), (6, .pk), (7, .g), (8, .opt .g), (9, .opt .g), (10, .opt .g), (11, .opt .g), (12, .opt .g), (13, .opt (.ld 4 (.lit 0))), (14, .opt .g), (15, .opt (.as (Value.bool (eq4 (timesM m a (invT m a)) (N4.mk 1 0 0 0))))), (16, .opt .pk), (17, .opt .pk), (18, .pk), (19, .g)] .done)))))))))))))))))) [] [] rfl
    (Eq.mp (by kernel_rfl) (fun (n1 n2 : Nat) => And.intro (sk (sk (sk trivial))) (And.intro (And.intro (And.intro trivial awake_pure) (sk trivial)) (fun (n3 : Nat) => And.intro (And.intro (And.intro trivial (ad n1 0)) (And.intro (And.intro trivial (of_runs m hm)) (sk trivial))) (And.intro (sk (sk trivial)) (And.intro trivial (And.intro (@rfl Bool false) (fun (n4 : Nat) => And.intro (sk (And.intro (And.intro trivial (ad n2 0)) (And.intro (And.intro trivial (Runs.dark [true] (inverse_runs n3 m false hm a))) (sk (sk (sk (sk (And.intro (And.intro trivial (ad n4 0)) (sk trivial))))))))) (fun (n5 : Nat) => And.intro (sk (And.intro (And.intro trivial (ad n2 0)) (And.intro (And.intro trivial (ad n4 0)) (And.intro (And.intro trivial (Runs.dark [false] (times_runs n3 m false hm a (invT m a)))) (sk (And.intro (And.intro trivial (ad n5 0)) trivial)))))) (And.intro (And.intro (And.intro trivial (ad n2 0)) (And.intro (And.intro trivial (ad n1 0)) (And.intro (And.intro trivial (common_pure a m)) (sk (And.intro (And.intro trivial (@is_neq_nat4 Try.prog 24 24 22 (.tmp 34) (.tmp 35) natT natE natS natG (gcdN a m) (N4.mk 1 0 0 0))) (sk trivial)))))) (And.intro (sk (sk (And.intro (And.intro (@rfl Bool true) t2) (And.intro (And.intro (@rfl Bool true) t2) (And.intro (And.intro (@rfl Bool true) t2) (And.intro (And.intro (@rfl Bool true) (And.intro trivial (@is_eqlB Try.prog 4 4 (.tmp 40) (.tmp 41)  boolT (((invE m a) : Int) == 11) (!(eq4 (gcdN a m) (N4.mk 1 0 0 0)))))) (And.intro (And.intro trivial (And.intro (fun (_ : true = true) => trivial) (fun (_ : true = false) => trivial))) (sk (And.intro (fun (hg : (sameB (selB true ((((invE m a) : Int) == 11) == (!(eq4 (gcdN a m) (N4.mk 1 0 0 0)))) false) true) = true) => t2) (And.intro (fun (hg : (sameB (selB true ((((invE m a) : Int) == 11) == (!(eq4 (gcdN a m) (N4.mk 1 0 0 0)))) false) true) = true) => (And.intro (And.intro hg trivial) trivial)) (And.intro (fun (hg : (selB (sameB (selB true ((((invE m a) : Int) == 11) == (!(eq4 (gcdN a m) (N4.mk 1 0 0 0)))) false) true) (sameB (!(eq4 (gcdN a m) (N4.mk 1 0 0 0))) false) false) = true) => t2) (And.intro (fun (hg : (selB (sameB (selB true ((((invE m a) : Int) == 11) == (!(eq4 (gcdN a m) (N4.mk 1 0 0 0)))) false) true) (sameB (!(eq4 (gcdN a m) (N4.mk 1 0 0 0))) false) false) = true) => (And.intro (And.intro hg trivial) trivial)) (And.intro (fun (hg : (selB (sameB (selB true ((((invE m a) : Int) == 11) == (!(eq4 (gcdN a m) (N4.mk 1 0 0 0)))) false) true) (sameB (!(eq4 (gcdN a m) (N4.mk 1 0 0 0))) false) false) = true) => (And.intro (And.intro hg trivial) trivial)) (And.intro (fun (hg : (selB (selB (sameB (selB true ((((invE m a) : Int) == 11) == (!(eq4 (gcdN a m) (N4.mk 1 0 0 0)))) false) true) (sameB (!(eq4 (gcdN a m) (N4.mk 1 0 0 0))) false) false) (sameB (((invE m a) : Int) == 0) true) false) = true) => (And.intro trivial (ad n5 0))) (And.intro (fun (hg : (selB (selB (sameB (selB true ((((invE m a) : Int) == 11) == (!(eq4 (gcdN a m) (N4.mk 1 0 0 0)))) false) true) (sameB (!(eq4 (gcdN a m) (N4.mk 1 0 0 0))) false) false) (sameB (((invE m a) : Int) == 0) true) false) = true) => t2) (And.intro (fun (hg : (selB (selB (sameB (selB true ((((invE m a) : Int) == 11) == (!(eq4 (gcdN a m) (N4.mk 1 0 0 0)))) false) true) (sameB (!(eq4 (gcdN a m) (N4.mk 1 0 0 0))) false) false) (sameB (((invE m a) : Int) == 0) true) false) = true) => (And.intro (And.intro hg (And.intro hg trivial)) (@is_eql_nat4 Try.prog 24 24 22 (.tmp 50) (.tmp 51) natT natE natS natG (timesM m a (invT m a)) (N4.mk 1 0 0 0)))) (And.intro (fun (hg : (selB (sameB (selB true ((((invE m a) : Int) == 11) == (!(eq4 (gcdN a m) (N4.mk 1 0 0 0)))) false) true) (sameB (!(eq4 (gcdN a m) (N4.mk 1 0 0 0))) false) false) = true) => (And.intro hg (And.intro (fun (hp : (((invE m a) : Int) == 0) = true) => (pickm hg (sameB_mk hp))) (fun (_ : (((invE m a) : Int) == 0) = false) => trivial)))) (And.intro (fun (hg : (sameB (selB true ((((invE m a) : Int) == 11) == (!(eq4 (gcdN a m) (N4.mk 1 0 0 0)))) false) true) = true) => (And.intro hg (And.intro (fun (_ : (!(eq4 (gcdN a m) (N4.mk 1 0 0 0))) = true) => trivial) (fun (hp : (!(eq4 (gcdN a m) (N4.mk 1 0 0 0))) = false) => (pickm hg (sameB_mkf hp)))))) (And.intro (And.intro trivial (And.intro (fun (hp : (selB true ((((invE m a) : Int) == 11) == (!(eq4 (gcdN a m) (N4.mk 1 0 0 0)))) false) = true) => (sameB_mk hp)) (fun (_ : (selB true ((((invE m a) : Int) == 11) == (!(eq4 (gcdN a m) (N4.mk 1 0 0 0)))) false) = false) => trivial))) (sk trivial)))))))))))))))))))) (And.intro trivial (@Exists.intro (List Nat) (fun (ns : List Nat) => ns.length = 0 ∧ ((Value.bool (selB (selB true ((((invE m a) : Int) == 11) == (!(eq4 (gcdN a m) (N4.mk 1 0 0 0)))) false) (selB (!(eq4 (gcdN a m) (N4.mk 1 0 0 0))) true (selB (((invE m a) : Int) == 0) (eq4 (timesM m a (invT m a)) (N4.mk 1 0 0 0)) false)) false)) : Value) = (fun (_ : List Nat) => Value.bool true) ns ∧ ([] : List (Option Blk)) = (fun (_ : List Nat) => []) ns) [] (And.intro (@rfl Nat 0) (And.intro ((show (Value.bool (selB (selB true ((((invE m a) : Int) == 11) == (!(eq4 (gcdN a m) (N4.mk 1 0 0 0)))) false) (selB (!(eq4 (gcdN a m) (N4.mk 1 0 0 0))) true (selB (((invE m a) : Int) == 0) (eq4 (timesM m a (invT m a)) (N4.mk 1 0 0 0)) false)) false)) = Value.bool true from congrArg Value.bool (show (selB (selB true ((((invE m a) : Int) == 11) == (!(eq4 (gcdN a m) (N4.mk 1 0 0 0)))) false) (selB (!(eq4 (gcdN a m) (N4.mk 1 0 0 0))) true (selB (((invE m a) : Int) == 0) (eq4 (timesM m a (invT m a)) (N4.mk 1 0 0 0)) false)) false) = true from by simp [selB_and, selB_or, e4]; exact one_law hm))) (@rfl (List (Option Blk)) []))))))))))))))))

theorem modqOne_B (m : N4) (a : N4) (hm : ¬ OddM m) : Runs Try.prog 6 [(nat4 m), (nat4 a)] [] 0 (fun (_ : List Nat) => Value.bool true) (fun (_ : List Nat) => []) :=
  runs_of_ev mix Try.func6 rfl rfl 400 (.regn [(0, .new), (1, .new), (2, .g)] (more (fun n1 => more (fun n2 => fun _ => (.reg [(0, (.call [] 0 0 (fun _ => (Value.bool true)) (fun _ => []))), (1, .g)] (.reg [(0, (.ld 0 (.lit 0))), (1, (.call [] 0 0 (fun _ => (Value.pointer none)) (fun _ => []))), (2, .g)] (.reg [(0, .g), (1, .g)] (.yes (.reg [(0, .g), (1, .g), (2, .run (.ld 0 (.lit 0))), (3, .run (.call [] 0 0 (fun _ => (int (checkE m))) (fun _ => []))), (4, .run .g), (5, .pk), (6, .g)] .done))))))))) [] [] rfl
    (Eq.mp (by kernel_rfl) (fun (n1 n2 : Nat) => And.intro (sk (sk (sk trivial))) (And.intro (And.intro (And.intro trivial awake_pure) (sk trivial)) (And.intro (And.intro (And.intro trivial (ad n1 0)) (And.intro (And.intro trivial (of_none m hm)) (sk trivial))) (And.intro (sk (sk trivial)) (And.intro trivial (And.intro (@rfl Bool true) (And.intro (sk (sk (And.intro (And.intro (@rfl Bool true) (And.intro trivial (ad n1 0))) (And.intro (And.intro (@rfl Bool true) (And.intro trivial (check_bad m hm))) (And.intro (And.intro (@rfl Bool true) t2) (And.intro (And.intro trivial (And.intro (fun (_ : true = true) => trivial) (fun (_ : true = false) => trivial))) (sk trivial))))))) (And.intro trivial (@Exists.intro (List Nat) (fun (ns : List Nat) => ns.length = 0 ∧ ((Value.bool (selB true (((checkE m) : Int) != 0) false)) : Value) = (fun (_ : List Nat) => Value.bool true) ns ∧ ([] : List (Option Blk)) = (fun (_ : List Nat) => []) ns) [] (And.intro (@rfl Nat 0) (And.intro ((show (Value.bool (selB true (((checkE m) : Int) != 0) false)) = Value.bool true from congrArg Value.bool (show (selB true (((checkE m) : Int) != 0) false) = true from by simp [selB_and, selB_or, checkE_ne, checkE_ne']))) (@rfl (List (Option Blk)) [])))))))))))))

set_option maxRecDepth 100000 in
theorem modqOne_lifted (os : Os) (started : os.Started) (H : Type) (enc : TypeId × Value → H) :
    ReturnsInHanded {} Try.checked os 6 .any (Rows.modqOneSpec.pre6 enc Try.prog Try.f6 Rows.modqOneRow.domain false) (Rows.modqOneSpec.post enc Try.prog Try.f6 false true false false) := by
  refine returnsInHanded_of_change (C := Try.checked) own started (by kernel_rfl) Try.func6
    (ChangeSpec.witness6 (enc := enc) (C := Try.checked) false ⟨#[], #[.agg #[.int .u64 0, .int .u64 0, .int .u64 0, .int .u64 0], .agg #[.int .u64 0, .int .u64 0, .int .u64 0, .int .u64 0]], []⟩ 8 (by kernel_rfl) (by kernel_rfl) (by kernel_rfl) (by kernel_rfl)) ?_
  intro W base args ds gs before hval0 hW _ _
  have hval : ∀ (j : Nat) t v, Try.f6.params[j]? = some t → args[j]? = some v → Value.okWide Try.prog W .any base t v := hval0
  have hW' := hW
  obtain ⟨p, q, hA0, hV, hpq, hfz, hnd⟩ := hW
  have hA : DataW.TrodAll enc Try.prog W 0 (fun _ => true) true Try.f6.params.toList args.toList ds p := hA0
  rw [Try.params6] at hA hval
  obtain ⟨v0, vs0, d0, ds0, p0, q0, hargs, rfl, hp0, e0, r0⟩ := trodAll_cons hA
  obtain ⟨v1, vs1, d1, ds1, p1, q1, rfl, rfl, hp1, e1, r1⟩ := trodAll_cons r0
  obtain ⟨rfl, rfl, _⟩ := trodAll_nil r1
  obtain rfl : args = #[v0, v1] := by cases args; simp_all
  obtain ⟨m, rfl⟩ := open_nat4 natT natE natC natCt (hval 0 24 v0 rfl rfl) e0
  obtain ⟨a, rfl⟩ := open_nat4 natT natE natC natCt (hval 1 24 v1 rfl rfl) e1
  obtain ⟨rfl, rfl⟩ := trodVars_none hV
  have key : Calls Try.prog 6 #[nat4 m, nat4 a] W fun e w' => e = .returned (Value.bool true) ∧ Below W.heap.size W w' := by
    · by_cases hm : OddM m
      · exact runs_law (modqOne_G m a hm) (fun b hb => by cases hb) (fun b hb => by cases hb)
      · exact runs_law (modqOne_B m a hm) (fun b hb => by cases hb) (fun b hb => by cases hb)
  refine key.mono fun e W' ⟨he, hb⟩ => ?_
  subst he
  exact ⟨_, rfl, law_post laidOut (by kernel_rfl) rfl boolT rfl hW' ⟨rfl, rfl, rfl⟩ hb⟩

theorem modqOne_holds : Rows.ModqOneSaid :=
  OpenClaim.holds_of_wide 6 Try.f6 rfl rfl rfl rfl rfl rfl rfl ⟨rfl, rfl, rfl, rfl, rfl⟩ rfl rfl rfl rfl rfl (by kernel_rfl) Try.func6 (by kernel_rfl)
    (of_decide_eq_true (by kernel_rfl)) (by unfold Func.isWrapper; first | (rw [if_pos (by decide +kernel)]; kernel_rfl) | (rw [if_neg (by decide +kernel)]; exact ⟨rfl, rfl⟩))
    (fun os started H enc _ => modqOne_lifted os started H enc)

end Go.Proofs.Ytmaejpooanenpaa
