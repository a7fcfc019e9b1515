/-
  MontPowers: for all arguments the law hands back true, and leaves them as they were.
-/
import Derived.Test.YtfeepilncjplmaaMontRefFns
import Derived.Test.YtfeepilncjplmaaMontLaws
namespace Go.Proofs.Ytfeepilncjplmaa
open Go Go.Eng Go.ChangeShapes Go.WideShapes Go.ChangeAt Go.RowKit
set_option linter.unusedVariables false
set_option linter.unusedSimpArgs false
set_option maxRecDepth 100000

theorem own : ownKnob Try.prog.godebug = none := by kernel_rfl
theorem laidOut : laidOutB Try.prog = true := by kernel_rfl
theorem natC : Try.prog.cellsOf 22 = 1 := by kernel_rfl
theorem natCt : Try.prog.cellsOf 24 = 4 := by kernel_rfl
theorem u64T : Try.prog.underlying 22 = some (.int .u64) := by kernel_rfl
theorem i64T : Try.prog.underlying 3 = some (.int .i64) := by kernel_rfl

theorem montPowers_G (m : N4) (a : N4) (n : UInt64) (hm : OddM m) : Pure Try.prog 6 [(nat4 m), (nat4 a), (u64 n)] (Value.bool true) :=
  pure_of_ev mix Try.func6 rfl rfl 400 (.regn [(0, .new), (1, .new), (2, .g)] (more (fun n1 => more (fun n2 => fun _ => (.reg [(0, (.call [] 0 0 (fun _ => (Value.bool true)) (fun _ => []))), (1, .g)] (.regn [(0, (.ld 0 (.lit 0))), (1, (.call [] 1 1 (fun ns => (Value.tuple #[(ptr (ns.getD 0 0) 0), (int 0)])) (fun ns => [some ⟨(ns.getD 0 0), true, 0, .lit [(u64 m.a), (u64 m.b), (u64 m.c), (u64 m.d), (u32 (doneS false)), (Value.int .i32 0), (u32 0), (u64 ((lackS m false).a)), (u64 ((lackS m false).b)), (u64 ((lackS m false).c)), (u64 ((lackS m false).d)), (u64 ((oneS m false).a)), (u64 ((oneS m false).b)), (u64 ((oneS m false).c)), (u64 ((oneS m false).d)), (u64 ((twoS m false).a)), (u64 ((twoS m false).b)), (u64 ((twoS m false).c)), (u64 ((twoS m false).d))]⟩]))), (2, .g), (3, .g), (4, .g), (5, .g), (6, .g)] (more (fun n3 => fun _ => (.reg [(0, .g), (1, .g), (2, .g), (3, .run .g), (4, .run .g), (5, .pk)] (.no (.regn [(0, .g), (1, (.ld 1 (.lit 0))), (2, .g), (3, .g), (4, (.call [(2, false)] 0 0 (fun _ => (nat4 (powM m a (N4.mk n 0 0 0)))) (fun _ => [some ⟨n3, true, 0, .lit [(u64 m.a), (u64 m.b), (u64 m.c), (u64 m.d), (u32 (doneS true)), (Value.int .i32 0), (u32 0), (u64 ((lackS m true).a)), (u64 ((lackS m true).b)), (u64 ((lackS m true).c)), (u64 ((lackS m true).d)), (u64 ((oneS m true).a)), (u64 ((oneS m true).b)), (u64 ((oneS m true).c)), (u64 ((oneS m true).d)), (u64 ((twoS m true).a)), (u64 ((twoS m true).b)), (u64 ((twoS m true).c)), (u64 ((twoS m true).d))]⟩]))), (5, .new), (6, (.st 3 (.lit 0)))] (more (fun n4 => fun _ => (.reg [(0, .g), (1, .g), (2, .run (.ld 3 (.lit 0))), (3, .run (.ld 0 (.lit 0))), (4, .run (.ld 1 (.lit 0))), (5, .run .g), (6, .run .g), (7, .run (.call [] 0 0 (fun _ => (nat4 (powM m a (N4.mk n 0 0 0)))) (fun _ => []))), (8, .run (.as (Value.bool (eq4 (powM m a (N4.mk n 0 0 0)) (powM m a (N4.mk n 0 0 0)))))), (9, .pk), (10, .g)] .done)))))))))))))) []
    (Eq.mp (by kernel_rfl) (fun (n1 n2 : Nat) => And.intro (sk (sk (sk trivial))) (And.intro (And.intro (And.intro trivial awake_pure) (sk trivial)) (fun (n3 : Nat) => And.intro (And.intro (And.intro trivial (ad n1 0)) (And.intro (And.intro trivial (new_runs m hm)) (sk (sk (sk (sk (sk trivial))))))) (And.intro (sk (sk (sk (And.intro (And.intro (@rfl Bool true) t2) (And.intro (And.intro (@rfl Bool true) t2) (And.intro (And.intro trivial (And.intro (fun (_ : false = true) => trivial) (fun (_ : false = false) => trivial))) trivial)))))) (And.intro trivial (And.intro (@rfl Bool false) (fun (n4 : Nat) => And.intro (sk (And.intro (And.intro trivial (ad n2 0)) (sk (sk (And.intro (And.intro trivial (pow_runs n3 m false hm a (N4.mk n 0 0 0))) (sk (And.intro (And.intro trivial (ad n4 0)) trivial))))))) (And.intro (sk (sk (And.intro (And.intro (@rfl Bool true) (And.intro trivial (ad n4 0))) (And.intro (And.intro (@rfl Bool true) (And.intro trivial (ad n1 0))) (And.intro (And.intro (@rfl Bool true) (And.intro trivial (ad n2 0))) (And.intro (And.intro (@rfl Bool true) t2) (And.intro (And.intro (@rfl Bool true) t2) (And.intro (And.intro (@rfl Bool true) (And.intro trivial (r_pow m hm a (N4.mk n 0 0 0)))) (And.intro (And.intro (@rfl Bool true) (And.intro trivial (@is_eql_nat4 Try.prog 24 24 22 (.tmp 36) (.tmp 41) natT natE natS natG (powM m a (N4.mk n 0 0 0)) (powM m a (N4.mk n 0 0 0))))) (And.intro (And.intro trivial (And.intro (fun (_ : true = true) => trivial) (fun (_ : true = false) => trivial))) (sk trivial))))))))))) (And.intro trivial ((show (Value.bool (selB true (eq4 (powM m a (N4.mk n 0 0 0)) (powM m a (N4.mk n 0 0 0))) false)) = Value.bool true from congrArg Value.bool (show (selB true (eq4 (powM m a (N4.mk n 0 0 0)) (powM m a (N4.mk n 0 0 0))) false) = true from by simp [selB_and, selB_or, e4])))))))))))))

theorem montPowers_B (m : N4) (a : N4) (n : UInt64) (hm : ¬ OddM m) : Pure Try.prog 6 [(nat4 m), (nat4 a), (u64 n)] (Value.bool true) :=
  pure_of_ev mix Try.func6 rfl rfl 400 (.regn [(0, .new), (1, .new), (2, .g)] (more (fun n1 => more (fun n2 => fun _ => (.reg [(0, (.call [] 0 0 (fun _ => (Value.bool true)) (fun _ => []))), (1, .g)] (.reg [(0, (.ld 0 (.lit 0))), (1, (.call [] 0 0 (fun _ => (Value.tuple #[(Value.pointer none), (int (checkE m))])) (fun _ => []))), (2, .g), (3, .g), (4, .g), (5, .g), (6, .g)] (.reg [(0, .g), (1, .g), (2, .g), (3, .skip), (4, .skip), (5, .pk)] (.yes (.reg [(0, .g), (1, .g), (2, .run (.ld 0 (.lit 0))), (3, .run (.call [] 0 0 (fun _ => (int (checkE m))) (fun _ => []))), (4, .run .g), (5, .pk), (6, .g)] .done))))))))) []
    (Eq.mp (by kernel_rfl) (fun (n1 n2 : Nat) => And.intro (sk (sk (sk trivial))) (And.intro (And.intro (And.intro trivial awake_pure) (sk trivial)) (And.intro (And.intro (And.intro trivial (ad n1 0)) (And.intro (And.intro trivial (new_pure m hm)) (sk (sk (sk (sk (sk trivial))))))) (And.intro (sk (sk (sk (And.intro (@rfl Bool false) (And.intro (@rfl Bool false) (And.intro (And.intro trivial (And.intro (fun (_ : true = true) => trivial) (fun (_ : true = false) => trivial))) trivial)))))) (And.intro trivial (And.intro (@rfl Bool true) (And.intro (sk (sk (And.intro (And.intro (@rfl Bool true) (And.intro trivial (ad n1 0))) (And.intro (And.intro (@rfl Bool true) (And.intro trivial (check_bad m hm))) (And.intro (And.intro (@rfl Bool true) t2) (And.intro (And.intro trivial (And.intro (fun (_ : true = true) => trivial) (fun (_ : true = false) => trivial))) (sk trivial))))))) (And.intro trivial ((show (Value.bool (selB true (((checkE m) : Int) != 0) false)) = Value.bool true from congrArg Value.bool (show (selB true (((checkE m) : Int) != 0) false) = true from by simp [selB_and, selB_or, checkE_ne, checkE_ne']))))))))))))

theorem montPowers_all (m : N4) (a : N4) (n : UInt64) : Pure Try.prog 6 [(nat4 m), (nat4 a), (u64 n)] (Value.bool true) := by
  by_cases hm : OddM m
  · exact montPowers_G m a n hm
  · exact montPowers_B m a n hm
set_option maxRecDepth 100000 in
theorem montPowers_lifted (os : Os) (started : os.Started) (H : Type) (enc : TypeId × Value → H) :
    ReturnsInHanded {} Try.checked os 6 .any (Rows.montPowersSpec.pre6 enc Try.prog Try.f6 Rows.montPowersRow.domain false) (Rows.montPowersSpec.post enc Try.prog Try.f6 false true false false) := by
  refine returnsInHanded_of_change (C := Try.checked) own started (by kernel_rfl) Try.func6
    (ChangeSpec.witness6 (enc := enc) (C := Try.checked) false ⟨#[], #[.agg #[.int .u64 0, .int .u64 0, .int .u64 0, .int .u64 0], .agg #[.int .u64 0, .int .u64 0, .int .u64 0, .int .u64 0], .int .u64 0], []⟩ 8 (by kernel_rfl) (by kernel_rfl) (by kernel_rfl) (by kernel_rfl)) ?_
  intro W base args ds gs before hval0 hW _ _
  have hval : ∀ (j : Nat) t v, Try.f6.params[j]? = some t → args[j]? = some v → Value.okWide Try.prog W .any base t v := hval0
  have hW' := hW
  obtain ⟨p, q, hA0, hV, hpq, hfz, hnd⟩ := hW
  have hA : DataW.TrodAll enc Try.prog W 0 (fun _ => true) true Try.f6.params.toList args.toList ds p := hA0
  rw [Try.params6] at hA hval
  obtain ⟨v0, vs0, d0, ds0, p0, q0, hargs, rfl, hp0, e0, r0⟩ := trodAll_cons hA
  obtain ⟨v1, vs1, d1, ds1, p1, q1, rfl, rfl, hp1, e1, r1⟩ := trodAll_cons r0
  obtain ⟨v2, vs2, d2, ds2, p2, q2, rfl, rfl, hp2, e2, r2⟩ := trodAll_cons r1
  obtain ⟨rfl, rfl, _⟩ := trodAll_nil r2
  obtain rfl : args = #[v0, v1, v2] := by cases args; simp_all
  obtain ⟨m, rfl⟩ := open_nat4 natT natE natC natCt (hval 0 24 v0 rfl rfl) e0
  obtain ⟨a, rfl⟩ := open_nat4 natT natE natC natCt (hval 1 24 v1 rfl rfl) e1
  obtain ⟨n, rfl⟩ := open_u64 u64T (hval 2 22 v2 rfl rfl) e2
  obtain ⟨rfl, rfl⟩ := trodVars_none hV
  have key := montPowers_all m a n
  refine (pure_below key W).mono fun e W' ⟨he, hb⟩ => ?_
  subst he
  exact ⟨_, rfl, law_post laidOut (by kernel_rfl) rfl boolT rfl hW' ⟨rfl, rfl, rfl⟩ hb⟩

theorem montPowers_holds : Rows.MontPowersSaid :=
  OpenClaim.holds_of_wide 6 Try.f6 rfl rfl rfl rfl rfl rfl rfl ⟨rfl, rfl, rfl, rfl, rfl⟩ rfl rfl rfl rfl rfl (by kernel_rfl) Try.func6 (by kernel_rfl)
    (of_decide_eq_true (by kernel_rfl)) (by unfold Func.isWrapper; first | (rw [if_pos (by decide +kernel)]; kernel_rfl) | (rw [if_neg (by decide +kernel)]; exact ⟨rfl, rfl⟩))
    (fun os started H enc _ => montPowers_lifted os started H enc)

end Go.Proofs.Ytfeepilncjplmaa
