/-
  PrattPrime: for all arguments the law hands back true, and leaves them as they were.
-/
import Derived.Test.YtbggipbbfknnpaaPratBase
namespace Go.Proofs.Ytbggipbbfknnpaa
open Go Go.Eng Go.ChangeShapes Go.WideShapes Go.ChangeAt Go.RowKit
set_option linter.unusedVariables false
set_option linter.unusedSimpArgs false
set_option exponentiation.threshold 600
set_option maxRecDepth 100000
set_option maxHeartbeats 1000000

theorem own : ownKnob Try.prog.godebug = none := by kernel_rfl
theorem laidOut : laidOutB Try.prog = true := by kernel_rfl
theorem natC : Try.prog.cellsOf 24 = 1 := by kernel_rfl
theorem natCt : Try.prog.cellsOf 26 = 4 := by kernel_rfl
theorem u64T : Try.prog.underlying 24 = some (.int .u64) := by kernel_rfl
theorem i64T : Try.prog.underlying 3 = some (.int .i64) := by kernel_rfl
theorem pratT : PratT Try.prog 34 32 22 43 26 24 3 := ⟨by kernel_rfl, by kernel_rfl, by kernel_rfl, by kernel_rfl, by kernel_rfl, by kernel_rfl, by kernel_rfl, by kernel_rfl, by kernel_rfl, by kernel_rfl, by kernel_rfl, by kernel_rfl, by kernel_rfl⟩
theorem prattPrime_runs (q : PrfL) (n : N4) (hq : OkL q) : RunsF (famL q) Try.prog 6 [(Value.slice q.la q.ln q.lc), (nat4 n)] [] 0 (fun (_ : List Nat) => Value.bool true) (fun (_ : List Nat) => []) :=
  runsF_of_ev (F := (famL q)) mix Try.func6 rfl rfl 400 (.regn [(0, .new), (1, .g)] (more (fun n1 => fun _ => (.reg [(0, (.call [] 0 0 (fun _ => (Value.bool true)) (fun _ => []))), (1, .g)] (.reg [(0, .g), (1, (.callF [] 0 0 (fun _ => (Value.bool (shortB q))) (fun _ => []))), (2, .g)] (.reg [(0, .g), (1, .g)] (.br (.reg [(0, .g), (1, .g)] .done) (.reg [(0, .g), (1, (.ld 0 (.lit 0))), (2, (.callF [] 0 0 (fun _ => (int (prvE q n))) (fun _ => []))), (3, .g)] (.reg [(0, .g), (1, .g), (2, .g), (3, .opt .g), (4, .opt (.ld 0 (.lit 1))), (5, .opt (.as (Value.bool (decide (0 < n.b))))), (6, .pk), (7, .g), (8, .opt .g), (9, .opt (.ld 0 (.lit 2))), (10, .opt (.as (Value.bool (decide (0 < n.c))))), (11, .pk), (12, .g), (13, .opt .g), (14, .opt (.ld 0 (.lit 3))), (15, .opt (.as (Value.bool (decide (0 < n.d))))), (16, .pk), (17, .g), (18, .opt .g), (19, .opt (.ld 0 (.lit 0))), (20, .opt (.as (Value.bool (decide (1048576 ≤ n.a))))), (21, .pk)] (.br (.reg [(0, .g), (1, .g)] .done) (.reg [(0, .g), (1, .g), (2, .run .g), (3, .run (.ld 0 (.lit 0))), (4, .run (.call [] 0 0 (fun _ => (Value.bool true)) (fun _ => []))), (5, .pk), (6, .g)] .done))))))))))) [] [] rfl
    (Eq.mp (by kernel_rfl) (fun (n1 : Nat) => And.intro (sk (sk trivial)) (And.intro (And.intro (And.intro trivial awake_pure) (sk trivial)) (And.intro (sk (And.intro (And.intro trivial (short_fam q hq)) (sk trivial))) (And.intro (sk (sk trivial)) (And.intro trivial (And.intro (fun (h1 : (!(shortB q)) = true) => And.intro (sk (sk trivial)) (And.intro trivial (@Exists.intro (List Nat) (fun (ns : List Nat) => ns.length = 0 ∧ ((Value.bool true) : Value) = (fun (_ : List Nat) => Value.bool true) ns ∧ ([] : List (Option Blk)) = (fun (_ : List Nat) => []) ns) [] (And.intro (@rfl Nat 0) (And.intro ((@rfl Value (.bool true))) (@rfl (List (Option Blk)) [])))))) (fun (h1 : (!(shortB q)) = false) => And.intro (sk (And.intro (And.intro trivial (ad n1 0)) (And.intro (And.intro trivial (proves_fam q n hq)) (sk trivial)))) (And.intro (sk (sk (sk (And.intro (fun (hg : (sameB (((prvE q n) : Int) != 0) false) = true) => t2) (And.intro (fun (hg : (sameB (((prvE q n) : Int) != 0) false) = true) => (And.intro (And.intro hg trivial) (ad n1 1))) (And.intro (fun (hg : (sameB (((prvE q n) : Int) != 0) false) = true) => (And.intro (And.intro hg trivial) (@is_gtr64 Try.prog 24 24 (.tmp 21) (.const (.int .u64 0)) n.b 0))) (And.intro (And.intro trivial (And.intro (fun (_ : (((prvE q n) : Int) != 0) = true) => trivial) (fun (hp : (((prvE q n) : Int) != 0) = false) => (sameB_mkf hp)))) (sk (And.intro (fun (hg : (sameB (selB (((prvE q n) : Int) != 0) true (decide (0 < n.b))) false) = true) => t2) (And.intro (fun (hg : (sameB (selB (((prvE q n) : Int) != 0) true (decide (0 < n.b))) false) = true) => (And.intro (And.intro hg trivial) (ad n1 2))) (And.intro (fun (hg : (sameB (selB (((prvE q n) : Int) != 0) true (decide (0 < n.b))) false) = true) => (And.intro (And.intro hg trivial) (@is_gtr64 Try.prog 24 24 (.tmp 26) (.const (.int .u64 0)) n.c 0))) (And.intro (And.intro trivial (And.intro (fun (_ : (selB (((prvE q n) : Int) != 0) true (decide (0 < n.b))) = true) => trivial) (fun (hp : (selB (((prvE q n) : Int) != 0) true (decide (0 < n.b))) = false) => (sameB_mkf hp)))) (sk (And.intro (fun (hg : (sameB (selB (selB (((prvE q n) : Int) != 0) true (decide (0 < n.b))) true (decide (0 < n.c))) false) = true) => t2) (And.intro (fun (hg : (sameB (selB (selB (((prvE q n) : Int) != 0) true (decide (0 < n.b))) true (decide (0 < n.c))) false) = true) => (And.intro (And.intro hg trivial) (ad n1 3))) (And.intro (fun (hg : (sameB (selB (selB (((prvE q n) : Int) != 0) true (decide (0 < n.b))) true (decide (0 < n.c))) false) = true) => (And.intro (And.intro hg trivial) (@is_gtr64 Try.prog 24 24 (.tmp 31) (.const (.int .u64 0)) n.d 0))) (And.intro (And.intro trivial (And.intro (fun (_ : (selB (selB (((prvE q n) : Int) != 0) true (decide (0 < n.b))) true (decide (0 < n.c))) = true) => trivial) (fun (hp : (selB (selB (((prvE q n) : Int) != 0) true (decide (0 < n.b))) true (decide (0 < n.c))) = false) => (sameB_mkf hp)))) (sk (And.intro (fun (hg : (sameB (selB (selB (selB (((prvE q n) : Int) != 0) true (decide (0 < n.b))) true (decide (0 < n.c))) true (decide (0 < n.d))) false) = true) => t2) (And.intro (fun (hg : (sameB (selB (selB (selB (((prvE q n) : Int) != 0) true (decide (0 < n.b))) true (decide (0 < n.c))) true (decide (0 < n.d))) false) = true) => (And.intro (And.intro hg trivial) (ad n1 0))) (And.intro (fun (hg : (sameB (selB (selB (selB (((prvE q n) : Int) != 0) true (decide (0 < n.b))) true (decide (0 < n.c))) true (decide (0 < n.d))) false) = true) => (And.intro (And.intro hg trivial) (@is_geq64 Try.prog 24 24 (.tmp 36) (.const (.int .u64 1048576)) n.a 1048576))) (And.intro (And.intro trivial (And.intro (fun (_ : (selB (selB (selB (((prvE q n) : Int) != 0) true (decide (0 < n.b))) true (decide (0 < n.c))) true (decide (0 < n.d))) = true) => trivial) (fun (hp : (selB (selB (selB (((prvE q n) : Int) != 0) true (decide (0 < n.b))) true (decide (0 < n.c))) true (decide (0 < n.d))) = false) => (sameB_mkf hp)))) trivial)))))))))))))))))))))) (And.intro trivial (And.intro (fun (h2 : (selB (selB (selB (selB (((prvE q n) : Int) != 0) true (decide (0 < n.b))) true (decide (0 < n.c))) true (decide (0 < n.d))) true (decide (1048576 ≤ n.a))) = true) => And.intro (sk (sk trivial)) (And.intro trivial (@Exists.intro (List Nat) (fun (ns : List Nat) => ns.length = 0 ∧ ((Value.bool true) : Value) = (fun (_ : List Nat) => Value.bool true) ns ∧ ([] : List (Option Blk)) = (fun (_ : List Nat) => []) ns) [] (And.intro (@rfl Nat 0) (And.intro ((@rfl Value (.bool true))) (@rfl (List (Option Blk)) [])))))) (fun (h2 : (selB (selB (selB (selB (((prvE q n) : Int) != 0) true (decide (0 < n.b))) true (decide (0 < n.c))) true (decide (0 < n.d))) true (decide (1048576 ≤ n.a))) = false) => And.intro (sk (sk (And.intro (And.intro (@rfl Bool true) t2) (And.intro (And.intro (@rfl Bool true) (And.intro trivial (ad n1 0))) (And.intro (And.intro (@rfl Bool true) (And.intro trivial (prime_pure n.a (prime_pre h2).1 (prime_pre h2).2))) (And.intro (And.intro trivial (And.intro (fun (_ : true = true) => trivial) (fun (_ : true = false) => trivial))) (sk trivial))))))) (And.intro trivial (@Exists.intro (List Nat) (fun (ns : List Nat) => ns.length = 0 ∧ ((Value.bool true) : Value) = (fun (_ : List Nat) => Value.bool true) ns ∧ ([] : List (Option Blk)) = (fun (_ : List Nat) => []) ns) [] (And.intro (@rfl Nat 0) (And.intro ((@rfl Value (.bool true))) (@rfl (List (Option Blk)) [])))))))))))))))))

set_option maxRecDepth 100000 in
theorem prattPrime_lifted (os : Os) (started : os.Started) (H : Type) (enc : TypeId × Value → H) :
    ReturnsInHanded {} Try.checked os 6 .any (Rows.prattPrimeSpec.pre6 enc Try.prog Try.f6 Rows.prattPrimeRow.domain false) (Rows.prattPrimeSpec.post enc Try.prog Try.f6 false true false false) := by
  refine returnsInHanded_of_change (C := Try.checked) own started (by kernel_rfl) Try.func6
    (ChangeSpec.witness6 (enc := enc) (C := Try.checked) false ⟨#[], #[.slice none 0 0, .agg #[.int .u64 0, .int .u64 0, .int .u64 0, .int .u64 0]], []⟩ 8 (by kernel_rfl) (by kernel_rfl) (by kernel_rfl) (by kernel_rfl)) ?_
  intro W base args ds gs before hval0 hW _ _
  have hval : ∀ (j : Nat) t v, Try.f6.params[j]? = some t → args[j]? = some v → Value.okWide Try.prog W .any base t v := hval0
  have hW' := hW
  obtain ⟨p, q, hA0, hV, hpq, hfz, hnd⟩ := hW
  have hA : DataW.TrodAll enc Try.prog W 0 (fun _ => true) true Try.f6.params.toList args.toList ds p := hA0
  rw [Try.params6] at hA hval
  obtain ⟨v0, vs0, d0, ds0, p0, q0, hargs, rfl, hp0, e0, r0⟩ := trodAll_cons hA
  obtain ⟨v1, vs1, d1, ds1, p1, q1, rfl, rfl, hp1, e1, r1⟩ := trodAll_cons r0
  obtain ⟨rfl, rfl, _⟩ := trodAll_nil r1
  obtain rfl : args = #[v0, v1] := by cases args; simp_all
  obtain ⟨n, rfl⟩ := open_nat4 natT natE natC natCt (hval 1 26 v1 rfl rfl) e1
  obtain ⟨rfl, rfl⟩ := trodVars_none hV
  obtain ⟨q, rfl, hr, hF⟩ := open_prfs pratT (hval 0 34 v0 rfl rfl) e0
  have key : Calls Try.prog 6 #[.slice q.la q.ln q.lc, nat4 n] W fun e w' => e = .returned (Value.bool true) ∧ Below W.heap.size W w' := runsF_law (prattPrime_runs q n hr ) (fun b hb => by cases hb) (fun b hb => by cases hb) hF
  refine key.mono fun e W' ⟨he, hb⟩ => ?_
  subst he
  exact ⟨_, rfl, law_post laidOut (by kernel_rfl) rfl boolT rfl hW' ⟨rfl, rfl, rfl⟩ hb⟩

theorem prattPrime_holds : Rows.PrattPrimeSaid :=
  OpenClaim.holds_of_wide 6 Try.f6 rfl rfl rfl rfl rfl rfl rfl ⟨rfl, rfl, rfl, rfl, rfl⟩ rfl rfl rfl rfl rfl (by kernel_rfl) Try.func6 (by kernel_rfl)
    (of_decide_eq_true (by kernel_rfl)) (by unfold Func.isWrapper; first | (rw [if_pos (by decide +kernel)]; kernel_rfl) | (rw [if_neg (by decide +kernel)]; exact ⟨rfl, rfl⟩))
    (fun os started H enc _ => prattPrime_lifted os started H enc)

end Go.Proofs.Ytbggipbbfknnpaa
