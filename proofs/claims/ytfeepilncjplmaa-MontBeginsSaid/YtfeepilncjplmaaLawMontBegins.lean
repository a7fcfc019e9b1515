/-
  MontBegins: for all arguments the law hands back true, and leaves them as they were.
-/
import Derived.Test.YtfeepilncjplmaaMontFnsB
import Derived.Test.YtfeepilncjplmaaMontLaws
namespace Go.Proofs.Ytfeepilncjplmaa
open Go Go.Eng Go.ChangeShapes Go.WideShapes Go.ChangeAt Go.RowKit
set_option linter.unusedVariables false
set_option linter.unusedSimpArgs false
set_option maxRecDepth 100000

theorem own : ownKnob Try.prog.godebug = none := by kernel_rfl
theorem laidOut : laidOutB Try.prog = true := by kernel_rfl
theorem natC : Try.prog.cellsOf 22 = 1 := by kernel_rfl
theorem natCt : Try.prog.cellsOf 24 = 4 := by kernel_rfl
theorem u64T : Try.prog.underlying 22 = some (.int .u64) := by kernel_rfl
theorem i64T : Try.prog.underlying 3 = some (.int .i64) := by kernel_rfl

theorem montBegins_G (m : N4) (hm : OddM m) : Pure Try.prog 3 [(nat4 m)] (Value.bool true) :=
  pure_of_ev mix Try.func3 rfl rfl 400 (.regn [(0, .new), (1, .g)] (more (fun n1 => fun _ => (.reg [(0, (.call [] 0 0 (fun _ => (Value.bool true)) (fun _ => []))), (1, .g)] (.regn [(0, (.ld 0 (.lit 0))), (1, (.call [] 1 1 (fun ns => (Value.tuple #[(ptr (ns.getD 0 0) 0), (int 0)])) (fun ns => [some ⟨(ns.getD 0 0), true, 0, .lit [(u64 m.a), (u64 m.b), (u64 m.c), (u64 m.d), (u32 (doneS false)), (Value.int .i32 0), (u32 0), (u64 ((lackS m false).a)), (u64 ((lackS m false).b)), (u64 ((lackS m false).c)), (u64 ((lackS m false).d)), (u64 ((oneS m false).a)), (u64 ((oneS m false).b)), (u64 ((oneS m false).c)), (u64 ((oneS m false).d)), (u64 ((twoS m false).a)), (u64 ((twoS m false).b)), (u64 ((twoS m false).c)), (u64 ((twoS m false).d))]⟩]))), (2, .g), (3, .g), (4, .g), (5, .g), (6, .g)] (more (fun n2 => fun _ => (.reg [(0, .g), (1, .g)] (.no (.reg [(0, .g), (1, .g), (2, .run .g), (3, .run .g), (4, .pk), (5, .g), (6, .run .g), (7, .run (.ld 0 (.lit 0))), (8, .run (.call [] 0 0 (fun _ => (int 0)) (fun _ => []))), (9, .run .g), (10, .pk), (11, .g), (12, .run .g), (13, .run (.call [(1, true)] 0 0 (fun _ => (nat4 m)) (fun _ => [some ⟨n2, false, 0, .lit [(u64 m.a), (u64 m.b), (u64 m.c), (u64 m.d), (u32 (doneS false)), (Value.int .i32 0), (u32 0), (u64 ((lackS m false).a)), (u64 ((lackS m false).b)), (u64 ((lackS m false).c)), (u64 ((lackS m false).d)), (u64 ((oneS m false).a)), (u64 ((oneS m false).b)), (u64 ((oneS m false).c)), (u64 ((oneS m false).d)), (u64 ((twoS m false).a)), (u64 ((twoS m false).b)), (u64 ((twoS m false).c)), (u64 ((twoS m false).d))]⟩]))), (14, .run (.ld 0 (.lit 0))), (15, .run (.as (Value.bool (eq4 m m)))), (16, .pk), (17, .g)] .done)))))))))) []
    (Eq.mp (by kernel_rfl) (fun (n1 : Nat) => And.intro (sk (sk trivial)) (And.intro (And.intro (And.intro trivial awake_pure) (sk trivial)) (fun (n2 : Nat) => And.intro (And.intro (And.intro trivial (ad n1 0)) (And.intro (And.intro trivial (new_runs m hm)) (sk (sk (sk (sk (sk trivial))))))) (And.intro (sk (sk trivial)) (And.intro trivial (And.intro (@rfl Bool false) (And.intro (sk (sk (And.intro (And.intro (@rfl Bool true) t2) (And.intro (And.intro (@rfl Bool true) t2) (And.intro (And.intro trivial (And.intro (fun (_ : true = true) => trivial) (fun (_ : true = false) => trivial))) (sk (And.intro (And.intro (@rfl Bool true) t2) (And.intro (And.intro (@rfl Bool true) (And.intro trivial (ad n1 0))) (And.intro (And.intro (@rfl Bool true) (And.intro trivial (check_good m hm))) (And.intro (And.intro (@rfl Bool true) t2) (And.intro (And.intro trivial (And.intro (fun (_ : true = true) => trivial) (fun (_ : true = false) => trivial))) (sk (And.intro (And.intro (@rfl Bool true) t2) (And.intro (And.intro (@rfl Bool true) (And.intro trivial (m_runs n2 m false))) (And.intro (And.intro (@rfl Bool true) (And.intro trivial (ad n1 0))) (And.intro (And.intro (@rfl Bool true) (And.intro trivial (@is_eql_nat4 Try.prog 24 24 22 (.tmp 38) (.tmp 39) natT natE natS natG m m))) (And.intro (And.intro trivial (And.intro (fun (_ : true = true) => trivial) (fun (_ : true = false) => trivial))) (sk trivial)))))))))))))))))) (And.intro trivial ((show (Value.bool (eq4 m m)) = Value.bool true from congrArg Value.bool (show (eq4 m m) = true from by simp [e4]))))))))))))

theorem montBegins_B (m : N4) (hm : ¬ OddM m) : Pure Try.prog 3 [(nat4 m)] (Value.bool true) :=
  pure_of_ev mix Try.func3 rfl rfl 400 (.regn [(0, .new), (1, .g)] (more (fun n1 => fun _ => (.reg [(0, (.call [] 0 0 (fun _ => (Value.bool true)) (fun _ => []))), (1, .g)] (.reg [(0, (.ld 0 (.lit 0))), (1, (.call [] 0 0 (fun _ => (Value.tuple #[(Value.pointer none), (int (checkE m))])) (fun _ => []))), (2, .g), (3, .g), (4, .g), (5, .g), (6, .g)] (.reg [(0, .g), (1, .g)] (.yes (.reg [(0, .g), (1, .g), (2, .run .g), (3, .run (.ld 0 (.lit 0))), (4, .run (.call [] 0 0 (fun _ => (int (checkE m))) (fun _ => []))), (5, .run .g), (6, .pk), (7, .g), (8, .opt .g), (9, .opt .g), (10, .pk), (11, .g)] .done)))))))) []
    (Eq.mp (by kernel_rfl) (fun (n1 : Nat) => And.intro (sk (sk trivial)) (And.intro (And.intro (And.intro trivial awake_pure) (sk trivial)) (And.intro (And.intro (And.intro trivial (ad n1 0)) (And.intro (And.intro trivial (new_pure m hm)) (sk (sk (sk (sk (sk trivial))))))) (And.intro (sk (sk trivial)) (And.intro trivial (And.intro (@rfl Bool true) (And.intro (sk (sk (And.intro (And.intro (@rfl Bool true) t2) (And.intro (And.intro (@rfl Bool true) (And.intro trivial (ad n1 0))) (And.intro (And.intro (@rfl Bool true) (And.intro trivial (check_bad m hm))) (And.intro (And.intro (@rfl Bool true) t2) (And.intro (And.intro trivial (And.intro (fun (_ : true = true) => trivial) (fun (_ : true = false) => trivial))) (sk (And.intro (fun (hg : (((checkE m) : Int) == (checkE m)) = true) => t2) (And.intro (fun (hg : (((checkE m) : Int) == (checkE m)) = true) => (And.intro (And.intro hg trivial) trivial)) (And.intro (And.intro trivial (And.intro (fun (hp : (((checkE m) : Int) == (checkE m)) = true) => hp) (fun (_ : (((checkE m) : Int) == (checkE m)) = false) => trivial))) (sk trivial)))))))))))) (And.intro trivial ((show (Value.bool ((((checkE m) : Int) == (checkE m)) && (((checkE m) : Int) != 0))) = Value.bool true from congrArg Value.bool (show ((((checkE m) : Int) == (checkE m)) && (((checkE m) : Int) != 0)) = true from by simp [checkE_ne, checkE_ne']))))))))))))

theorem montBegins_all (m : N4) : Pure Try.prog 3 [(nat4 m)] (Value.bool true) := by
  by_cases hm : OddM m
  · exact montBegins_G m hm
  · exact montBegins_B m hm
set_option maxRecDepth 100000 in
theorem montBegins_lifted (os : Os) (started : os.Started) (H : Type) (enc : TypeId × Value → H) :
    ReturnsInHanded {} Try.checked os 3 .any (Rows.montBeginsSpec.pre6 enc Try.prog Try.f3 Rows.montBeginsRow.domain false) (Rows.montBeginsSpec.post enc Try.prog Try.f3 false true false false) := by
  refine returnsInHanded_of_change (C := Try.checked) own started (by kernel_rfl) Try.func3
    (ChangeSpec.witness6 (enc := enc) (C := Try.checked) false ⟨#[], #[.agg #[.int .u64 0, .int .u64 0, .int .u64 0, .int .u64 0]], []⟩ 8 (by kernel_rfl) (by kernel_rfl) (by kernel_rfl) (by kernel_rfl)) ?_
  intro W base args ds gs before hval0 hW _ _
  have hval : ∀ (j : Nat) t v, Try.f3.params[j]? = some t → args[j]? = some v → Value.okWide Try.prog W .any base t v := hval0
  have hW' := hW
  obtain ⟨p, q, hA0, hV, hpq, hfz, hnd⟩ := hW
  have hA : DataW.TrodAll enc Try.prog W 0 (fun _ => true) true Try.f3.params.toList args.toList ds p := hA0
  rw [Try.params3] at hA hval
  obtain ⟨v0, vs0, d0, ds0, p0, q0, hargs, rfl, hp0, e0, r0⟩ := trodAll_cons hA
  obtain ⟨rfl, rfl, _⟩ := trodAll_nil r0
  obtain rfl : args = #[v0] := by cases args; simp_all
  obtain ⟨m, rfl⟩ := open_nat4 natT natE natC natCt (hval 0 24 v0 rfl rfl) e0
  obtain ⟨rfl, rfl⟩ := trodVars_none hV
  have key := montBegins_all m
  refine (pure_below key W).mono fun e W' ⟨he, hb⟩ => ?_
  subst he
  exact ⟨_, rfl, law_post laidOut (by kernel_rfl) rfl boolT rfl hW' ⟨rfl, rfl, rfl⟩ hb⟩

theorem montBegins_holds : Rows.MontBeginsSaid :=
  OpenClaim.holds_of_wide 3 Try.f3 rfl rfl rfl rfl rfl rfl rfl ⟨rfl, rfl, rfl, rfl, rfl⟩ rfl rfl rfl rfl rfl (by kernel_rfl) Try.func3 (by kernel_rfl)
    (of_decide_eq_true (by kernel_rfl)) (by unfold Func.isWrapper; first | (rw [if_pos (by decide +kernel)]; kernel_rfl) | (rw [if_neg (by decide +kernel)]; exact ⟨rfl, rfl⟩))
    (fun os started H enc _ => montBegins_lifted os started H enc)

end Go.Proofs.Ytfeepilncjplmaa
