/-
  LimbOrder: for any three numbers the law hands back true, and leaves its arguments as they were.
-/
import Derived.Test.YtghjbfkbmbnjkaaLimbFns
namespace Go.Proofs.Ytghjbfkbmbnjkaa
open Go Go.Eng Go.ChangeShapes Go.WideShapes Go.ChangeAt Go.RowKit
set_option linter.unusedVariables false

theorem own : ownKnob Try.prog.godebug = none := by kernel_rfl
theorem laidOut : laidOutB Try.prog = true := by kernel_rfl
theorem natC : Try.prog.cellsOf 22 = 1 := by kernel_rfl
theorem natCt : Try.prog.cellsOf 24 = 4 := by kernel_rfl
theorem u64T : Try.prog.underlying 22 = some (.int .u64) := by kernel_rfl
theorem i64T : Try.prog.underlying 3 = some (.int .i64) := by kernel_rfl

theorem limbOrder_p1 (x : N4) (y : N4) (z : N4) (h1 : (((decide (((cmp4 x y) : Int) ≤ 0)) && (decide (((cmp4 y z) : Int) ≤ 0))) && (decide (((cmp4 x z) : Int) > 0))) = true) : false = true := by
  exact (limbOrder_no x y z h1).elim

theorem limbOrder_p2 (x : N4) (y : N4) (z : N4) (h1 : (((decide (((cmp4 x y) : Int) ≤ 0)) && (decide (((cmp4 y z) : Int) ≤ 0))) && (decide (((cmp4 x z) : Int) > 0))) = false) : ((((b2u (add4c x z)) == 1) || ((b2u (add4c y z)) == 1)) || (((cmp4 (add4 x z) (add4 y z)) : Int) == (cmp4 x y))) = true := by
  exact limbOrder_yes x y z


theorem limbOrder_pure (x : N4) (y : N4) (z : N4) : Pure Try.prog 11 [(nat4 x), (nat4 y), (nat4 z)] (Value.bool true) :=
  pure_of_ev mix Try.func11 rfl rfl 400 (.reg [(0, .new), (1, .new), (2, .new), (3, .g)] (.reg [(0, (.call [] 0 0 (fun _ => (Value.bool true)) (fun _ => []))), (1, .g)] (.reg [(0, (.ld 0 (.lit 0))), (1, (.ld 1 (.lit 0))), (2, (.call [] 0 0 (fun _ => (int (cmp4 x y))) (fun _ => []))), (3, .g)] (.reg [(0, (.ld 1 (.lit 0))), (1, (.ld 2 (.lit 0))), (2, (.call [] 0 0 (fun _ => (int (cmp4 y z))) (fun _ => []))), (3, .g)] (.reg [(0, (.ld 0 (.lit 0))), (1, (.ld 2 (.lit 0))), (2, (.call [] 0 0 (fun _ => (int (cmp4 x z))) (fun _ => []))), (3, .g)] (.reg [(0, (.ld 0 (.lit 0))), (1, (.ld 2 (.lit 0))), (2, (.call [] 0 0 (fun _ => (Value.tuple #[(nat4 (add4 x z)), (u64 (b2u (add4c x z)))])) (fun _ => []))), (3, .g), (4, .g), (5, .g), (6, .new), (7, (.st 3 (.lit 0))), (8, .g)] (.reg [(0, (.ld 1 (.lit 0))), (1, (.ld 2 (.lit 0))), (2, (.call [] 0 0 (fun _ => (Value.tuple #[(nat4 (add4 y z)), (u64 (b2u (add4c y z)))])) (fun _ => []))), (3, .g), (4, .g), (5, .g), (6, .new), (7, (.st 4 (.lit 0))), (8, .g)] (.reg [(0, .g), (1, .g), (2, .g), (3, .opt .g), (4, .opt .g), (5, .pk), (6, .g), (7, .opt .g), (8, .opt .g), (9, .pk)] (.br (.reg [(0, .g)] .done) (.reg [(0, .g), (1, .g), (2, .run .g), (3, .run (.as (Value.bool ((b2u (add4c x z)) == 1)))), (4, .run .g), (5, .opt .g), (6, .opt (.as (Value.bool ((b2u (add4c y z)) == 1)))), (7, .run .pk), (8, .run .g), (9, .opt (.ld 3 (.lit 0))), (10, .opt (.ld 4 (.lit 0))), (11, .opt (.call [] 0 0 (fun _ => (int (cmp4 (add4 x z) (add4 y z)))) (fun _ => []))), (12, .opt .g), (13, .opt .g), (14, .run .pk), (15, .pk), (16, .g)] .done)))))))))) []
    (Eq.mp (by kernel_rfl) (fun (n1 n2 n3 : Nat) => And.intro (sk (sk (sk (sk trivial)))) (And.intro (And.intro (And.intro trivial awake_pure) (sk trivial)) (And.intro (And.intro (And.intro trivial (ad n1 0)) (And.intro (And.intro trivial (ad n2 0)) (And.intro (And.intro trivial (cmp_pure x y)) (sk trivial)))) (And.intro (And.intro (And.intro trivial (ad n2 0)) (And.intro (And.intro trivial (ad n3 0)) (And.intro (And.intro trivial (cmp_pure y z)) (sk trivial)))) (And.intro (And.intro (And.intro trivial (ad n1 0)) (And.intro (And.intro trivial (ad n3 0)) (And.intro (And.intro trivial (cmp_pure x z)) (sk trivial)))) (fun (n4 : Nat) => And.intro (And.intro (And.intro trivial (ad n1 0)) (And.intro (And.intro trivial (ad n3 0)) (And.intro (And.intro trivial (add_pure x z)) (sk (sk (sk (sk (And.intro (And.intro trivial (ad n4 0)) (sk trivial))))))))) (fun (n5 : Nat) => And.intro (And.intro (And.intro trivial (ad n2 0)) (And.intro (And.intro trivial (ad n3 0)) (And.intro (And.intro trivial (add_pure y z)) (sk (sk (sk (sk (And.intro (And.intro trivial (ad n5 0)) (sk trivial))))))))) (And.intro (sk (sk (sk (And.intro (fun (hg : (decide (((cmp4 x y) : Int) ≤ 0)) = true) => t2) (And.intro (fun (hg : (decide (((cmp4 x y) : Int) ≤ 0)) = true) => (And.intro (And.intro hg trivial) trivial)) (And.intro (And.intro trivial (And.intro (fun (hp : (decide (((cmp4 x y) : Int) ≤ 0)) = true) => hp) (fun (_ : (decide (((cmp4 x y) : Int) ≤ 0)) = false) => trivial))) (sk (And.intro (fun (hg : ((decide (((cmp4 x y) : Int) ≤ 0)) && (decide (((cmp4 y z) : Int) ≤ 0))) = true) => t2) (And.intro (fun (hg : ((decide (((cmp4 x y) : Int) ≤ 0)) && (decide (((cmp4 y z) : Int) ≤ 0))) = true) => (And.intro (And.intro hg trivial) trivial)) (And.intro (And.intro trivial (And.intro (fun (hp : ((decide (((cmp4 x y) : Int) ≤ 0)) && (decide (((cmp4 y z) : Int) ≤ 0))) = true) => hp) (fun (_ : ((decide (((cmp4 x y) : Int) ≤ 0)) && (decide (((cmp4 y z) : Int) ≤ 0))) = false) => trivial))) trivial)))))))))) (And.intro trivial (And.intro (fun (h1 : (((decide (((cmp4 x y) : Int) ≤ 0)) && (decide (((cmp4 y z) : Int) ≤ 0))) && (decide (((cmp4 x z) : Int) > 0))) = true) => And.intro (sk trivial) (And.intro trivial ((congrArg Value.bool (limbOrder_p1 x y z h1))))) (fun (h1 : (((decide (((cmp4 x y) : Int) ≤ 0)) && (decide (((cmp4 y z) : Int) ≤ 0))) && (decide (((cmp4 x z) : Int) > 0))) = false) => And.intro (sk (sk (And.intro (And.intro (@rfl Bool true) t2) (And.intro (And.intro (@rfl Bool true) (And.intro trivial (@is_eql64 Try.prog 22 22 (.tmp 49) (.const (.int .u64 1)) (b2u (add4c x z)) 1))) (And.intro (And.intro (@rfl Bool true) t2) (And.intro (fun (hg : (!((b2u (add4c x z)) == 1)) = true) => t2) (And.intro (fun (hg : (!((b2u (add4c x z)) == 1)) = true) => (And.intro (And.intro hg trivial) (@is_eql64 Try.prog 22 22 (.tmp 52) (.const (.int .u64 1)) (b2u (add4c y z)) 1))) (And.intro (And.intro (@rfl Bool true) (And.intro trivial (And.intro (fun (_ : ((b2u (add4c x z)) == 1) = true) => trivial) (fun (hp : ((b2u (add4c x z)) == 1) = false) => (pickn hp))))) (And.intro (And.intro (@rfl Bool true) t2) (And.intro (fun (hg : (!(((b2u (add4c x z)) == 1) || ((b2u (add4c y z)) == 1))) = true) => (And.intro trivial (ad n4 0))) (And.intro (fun (hg : (!(((b2u (add4c x z)) == 1) || ((b2u (add4c y z)) == 1))) = true) => (And.intro trivial (ad n5 0))) (And.intro (fun (hg : (!(((b2u (add4c x z)) == 1) || ((b2u (add4c y z)) == 1))) = true) => (And.intro (And.intro hg (And.intro hg trivial)) (cmp_pure (add4 x z) (add4 y z)))) (And.intro (fun (hg : (!(((b2u (add4c x z)) == 1) || ((b2u (add4c y z)) == 1))) = true) => t2) (And.intro (fun (hg : (!(((b2u (add4c x z)) == 1) || ((b2u (add4c y z)) == 1))) = true) => (And.intro (And.intro hg (And.intro hg trivial)) trivial)) (And.intro (And.intro (@rfl Bool true) (And.intro trivial (And.intro (fun (_ : (((b2u (add4c x z)) == 1) || ((b2u (add4c y z)) == 1)) = true) => trivial) (fun (hp : (((b2u (add4c x z)) == 1) || ((b2u (add4c y z)) == 1)) = false) => (pickn hp))))) (And.intro (And.intro trivial (And.intro (fun (_ : true = true) => trivial) (fun (_ : true = false) => trivial))) (sk trivial))))))))))))))))) (And.intro trivial ((congrArg Value.bool (limbOrder_p2 x y z h1))))))))))))))))

set_option maxRecDepth 100000 in
theorem limbOrder_lifted (os : Os) (started : os.Started) (H : Type) (enc : TypeId × Value → H) :
    ReturnsInHanded {} Try.checked os 11 .any (Rows.limbOrderSpec.pre6 enc Try.prog Try.f11 Rows.limbOrderRow.domain false) (Rows.limbOrderSpec.post enc Try.prog Try.f11 false true false false) := by
  refine returnsInHanded_of_change (C := Try.checked) own started (by kernel_rfl) Try.func11
    (ChangeSpec.witness6 (enc := enc) (C := Try.checked) false ⟨#[], #[.agg #[.int .u64 0, .int .u64 0, .int .u64 0, .int .u64 0], .agg #[.int .u64 0, .int .u64 0, .int .u64 0, .int .u64 0], .agg #[.int .u64 0, .int .u64 0, .int .u64 0, .int .u64 0]], []⟩ 8 (by kernel_rfl) (by kernel_rfl) (by kernel_rfl) (by kernel_rfl)) ?_
  intro W base args ds gs before hval0 hW _ _
  have hval : ∀ (j : Nat) t v, Try.f11.params[j]? = some t → args[j]? = some v → Value.okWide Try.prog W .any base t v := hval0
  have hW' := hW
  obtain ⟨p, q, hA0, hV, hpq, hfz, hnd⟩ := hW
  have hA : DataW.TrodAll enc Try.prog W 0 (fun _ => true) true Try.f11.params.toList args.toList ds p := hA0
  rw [Try.params11] at hA hval
  obtain ⟨v0, vs0, d0, ds0, p0, q0, hargs, rfl, hp0, e0, r0⟩ := trodAll_cons hA
  obtain ⟨v1, vs1, d1, ds1, p1, q1, rfl, rfl, hp1, e1, r1⟩ := trodAll_cons r0
  obtain ⟨v2, vs2, d2, ds2, p2, q2, rfl, rfl, hp2, e2, r2⟩ := trodAll_cons r1
  obtain ⟨rfl, rfl, _⟩ := trodAll_nil r2
  obtain rfl : args = #[v0, v1, v2] := by cases args; simp_all
  obtain ⟨x, rfl⟩ := open_nat4 natT natE natC natCt (hval 0 24 v0 rfl rfl) e0
  obtain ⟨y, rfl⟩ := open_nat4 natT natE natC natCt (hval 1 24 v1 rfl rfl) e1
  obtain ⟨z, rfl⟩ := open_nat4 natT natE natC natCt (hval 2 24 v2 rfl rfl) e2
  obtain ⟨rfl, rfl⟩ := trodVars_none hV
  have key := limbOrder_pure x y z
  refine (pure_below key W).mono fun e W' ⟨he, hb⟩ => ?_
  subst he
  exact ⟨_, rfl, law_post laidOut (by kernel_rfl) rfl boolT rfl hW' ⟨rfl, rfl, rfl⟩ hb⟩

theorem limbOrder_holds : Rows.LimbOrderSaid :=
  OpenClaim.holds_of_wide 11 Try.f11 rfl rfl rfl rfl rfl rfl rfl ⟨rfl, rfl, rfl, rfl, rfl⟩ rfl rfl rfl rfl rfl (by kernel_rfl) Try.func11 (by kernel_rfl)
    (of_decide_eq_true (by kernel_rfl)) (by unfold Func.isWrapper; first | (rw [if_pos (by decide +kernel)]; kernel_rfl) | (rw [if_neg (by decide +kernel)]; exact ⟨rfl, rfl⟩))
    (fun os started H enc _ => limbOrder_lifted os started H enc)

end Go.Proofs.Ytghjbfkbmbnjkaa
