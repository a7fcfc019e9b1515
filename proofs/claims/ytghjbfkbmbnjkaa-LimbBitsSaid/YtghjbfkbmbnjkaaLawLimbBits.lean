/-
  LimbBits: for any number, any place and any count of places the law hands back true, and leaves its arguments as they were.
-/
import Derived.Test.YtghjbfkbmbnjkaaLimbRefFns
import Derived.Test.YtghjbfkbmbnjkaaLimbFns
import Derived.Test.YtghjbfkbmbnjkaaLimbLaws
namespace Go.Proofs.Ytghjbfkbmbnjkaa
open Go Go.Eng Go.ChangeShapes Go.WideShapes Go.ChangeAt Go.RowKit
set_option linter.unusedVariables false
set_option linter.unusedSimpArgs false
set_option exponentiation.threshold 600

theorem own : ownKnob Try.prog.godebug = none := by kernel_rfl
theorem laidOut : laidOutB Try.prog = true := by kernel_rfl
theorem natC : Try.prog.cellsOf 22 = 1 := by kernel_rfl
theorem natCt : Try.prog.cellsOf 24 = 4 := by kernel_rfl
theorem u64T : Try.prog.underlying 22 = some (.int .u64) := by kernel_rfl
theorem i64T : Try.prog.underlying 3 = some (.int .i64) := by kernel_rfl


theorem limbBits_p1 (x : N4) (i : Int) (m : Int)  : ((((bitI x i) == (bitI x i)) && (decide ((len4 x) = (Eng.bitLen x.val)))) && (eq4 (N4.ofNat (shN x m)) (N4.ofNat (shN x m)))) = true := by
  have e4 : ∀ z : N4, eq4 z z = true := fun z => (eq4_iff z z).2 rfl
  simp [e4, len4_val]

theorem limbBits_pure (x : N4) (i : Int) (m : Int) : Pure Try.prog 4 [(nat4 x), (int i), (int m)] (Value.bool true) :=
  pure_of_ev mix Try.func4 rfl rfl 400 (.regn [(0, .new), (1, .g)] (more (fun n1 => fun _ => (.reg [(0, (.call [] 0 0 (fun _ => (Value.bool true)) (fun _ => []))), (1, .g)] (.reg [(0, (.ld 0 (.lit 0))), (1, .g), (2, (.call [] 0 0 (fun _ => (u64 (bitI x i))) (fun _ => []))), (3, .g)] (.reg [(0, (.ld 0 (.lit 0))), (1, (.call [] 0 0 (fun _ => (nat (len4 x))) (fun _ => []))), (2, .g)] (.regn [(0, (.ld 0 (.lit 0))), (1, .g), (2, (.call [] 0 0 (fun _ => (nat4 (N4.ofNat (shN x m)))) (fun _ => []))), (3, .new), (4, (.st 1 (.lit 0)))] (more (fun n2 => fun _ => (.reg [(0, .g), (1, .g), (2, .run .g), (3, .run (.ld 0 (.lit 0))), (4, .run .g), (5, .run (.call [] 0 0 (fun _ => (u64 (bitI x i))) (fun _ => []))), (6, .run (.as (Value.bool ((bitI x i) == (bitI x i))))), (7, .pk), (8, .g), (9, .opt .g), (10, .opt (.ld 0 (.lit 0))), (11, .opt (.call [] 0 0 (fun _ => (nat (Eng.bitLen x.val))) (fun _ => []))), (12, .opt (.as (Value.bool (decide ((len4 x) = (Eng.bitLen x.val)))))), (13, .pk), (14, .g), (15, .opt (.ld 1 (.lit 0))), (16, .opt (.ld 0 (.lit 0))), (17, .opt .g), (18, .opt (.call [] 0 0 (fun _ => (nat4 (N4.ofNat (shN x m)))) (fun _ => []))), (19, .opt (.as (Value.bool (eq4 (N4.ofNat (shN x m)) (N4.ofNat (shN x m)))))), (20, .pk), (21, .g)] .done)))))))))) []
    (Eq.mp (by kernel_rfl) (fun (n1 : Nat) => And.intro (sk (sk trivial)) (And.intro (And.intro (And.intro trivial awake_pure) (sk trivial)) (And.intro (And.intro (And.intro trivial (ad n1 0)) (sk (And.intro (And.intro trivial (bit_pure x i)) (sk trivial)))) (And.intro (And.intro (And.intro trivial (ad n1 0)) (And.intro (And.intro trivial (len_pure x)) (sk trivial))) (fun (n2 : Nat) => And.intro (And.intro (And.intro trivial (ad n1 0)) (sk (And.intro (And.intro trivial (shift_pure x m)) (sk (And.intro (And.intro trivial (ad n2 0)) trivial))))) (And.intro (sk (sk (And.intro (And.intro (@rfl Bool true) t2) (And.intro (And.intro (@rfl Bool true) (And.intro trivial (ad n1 0))) (And.intro (And.intro (@rfl Bool true) t2) (And.intro (And.intro (@rfl Bool true) (And.intro trivial (refBit_pure x i))) (And.intro (And.intro (@rfl Bool true) (And.intro trivial (@is_eql64 Try.prog 22 22 (.tmp 22) (.tmp 25) (bitI x i) (bitI x i)))) (And.intro (And.intro trivial (And.intro (fun (_ : true = true) => trivial) (fun (_ : true = false) => trivial))) (sk (And.intro (fun (hg : ((bitI x i) == (bitI x i)) = true) => t2) (And.intro (fun (hg : ((bitI x i) == (bitI x i)) = true) => (And.intro trivial (ad n1 0))) (And.intro (fun (hg : ((bitI x i) == (bitI x i)) = true) => (And.intro (And.intro hg trivial) (refLen_pure x))) (And.intro (fun (hg : ((bitI x i) == (bitI x i)) = true) => (And.intro (And.intro hg (And.intro hg trivial)) (@is_eqln Try.prog 3 3 (.tmp 29) (.tmp 31)  (len4 x) (Eng.bitLen x.val)))) (And.intro (And.intro trivial (And.intro (fun (hp : ((bitI x i) == (bitI x i)) = true) => hp) (fun (_ : ((bitI x i) == (bitI x i)) = false) => trivial))) (sk (And.intro (fun (hg : (((bitI x i) == (bitI x i)) && (decide ((len4 x) = (Eng.bitLen x.val)))) = true) => (And.intro trivial (ad n2 0))) (And.intro (fun (hg : (((bitI x i) == (bitI x i)) && (decide ((len4 x) = (Eng.bitLen x.val)))) = true) => (And.intro trivial (ad n1 0))) (And.intro (fun (hg : (((bitI x i) == (bitI x i)) && (decide ((len4 x) = (Eng.bitLen x.val)))) = true) => t2) (And.intro (fun (hg : (((bitI x i) == (bitI x i)) && (decide ((len4 x) = (Eng.bitLen x.val)))) = true) => (And.intro (And.intro hg (And.intro hg trivial)) (refShift_pure x m))) (And.intro (fun (hg : (((bitI x i) == (bitI x i)) && (decide ((len4 x) = (Eng.bitLen x.val)))) = true) => (And.intro (And.intro hg (And.intro hg trivial)) (@is_eql_nat4 Try.prog 24 24 22 (.tmp 35) (.tmp 38) natT natE natS natG (N4.ofNat (shN x m)) (N4.ofNat (shN x m))))) (And.intro (And.intro trivial (And.intro (fun (hp : (((bitI x i) == (bitI x i)) && (decide ((len4 x) = (Eng.bitLen x.val)))) = true) => hp) (fun (_ : (((bitI x i) == (bitI x i)) && (decide ((len4 x) = (Eng.bitLen x.val)))) = false) => trivial))) (sk trivial)))))))))))))))))))))) (And.intro trivial ((congrArg Value.bool (limbBits_p1 x i m )))))))))))



set_option maxRecDepth 100000 in
theorem limbBits_lifted (os : Os) (started : os.Started) (H : Type) (enc : TypeId × Value → H) :
    ReturnsInHanded {} Try.checked os 4 .any (Rows.limbBitsSpec.pre6 enc Try.prog Try.f4 Rows.limbBitsRow.domain false) (Rows.limbBitsSpec.post enc Try.prog Try.f4 false true false false) := by
  refine returnsInHanded_of_change (C := Try.checked) own started (by kernel_rfl) Try.func4
    (ChangeSpec.witness6 (enc := enc) (C := Try.checked) false ⟨#[], #[.agg #[.int .u64 0, .int .u64 0, .int .u64 0, .int .u64 0], .int .i64 0, .int .i64 0], []⟩ 8 (by kernel_rfl) (by kernel_rfl) (by kernel_rfl) (by kernel_rfl)) ?_
  intro W base args ds gs before hval0 hW _ _
  have hval : ∀ (j : Nat) t v, Try.f4.params[j]? = some t → args[j]? = some v → Value.okWide Try.prog W .any base t v := hval0
  have hW' := hW
  obtain ⟨p, q, hA0, hV, hpq, hfz, hnd⟩ := hW
  have hA : DataW.TrodAll enc Try.prog W 0 (fun _ => true) true Try.f4.params.toList args.toList ds p := hA0
  rw [Try.params4] at hA hval
  obtain ⟨v0, vs0, d0, ds0, p0, q0, hargs, rfl, hp0, e0, r0⟩ := trodAll_cons hA
  obtain ⟨v1, vs1, d1, ds1, p1, q1, rfl, rfl, hp1, e1, r1⟩ := trodAll_cons r0
  obtain ⟨v2, vs2, d2, ds2, p2, q2, rfl, rfl, hp2, e2, r2⟩ := trodAll_cons r1
  obtain ⟨rfl, rfl, _⟩ := trodAll_nil r2
  obtain rfl : args = #[v0, v1, v2] := by cases args; simp_all
  obtain ⟨x, rfl⟩ := open_nat4 natT natE natC natCt (hval 0 24 v0 rfl rfl) e0
  obtain ⟨i, rfl, hil, hih⟩ := open_i64 i64T (hval 1 3 v1 rfl rfl) e1
  obtain ⟨m, rfl, hml, hmh⟩ := open_i64 i64T (hval 2 3 v2 rfl rfl) e2
  obtain ⟨rfl, rfl⟩ := trodVars_none hV
  have key := limbBits_pure x i m
  refine (pure_below key W).mono fun e W' ⟨he, hb⟩ => ?_
  subst he
  exact ⟨_, rfl, law_post laidOut (by kernel_rfl) rfl boolT rfl hW' ⟨rfl, rfl, rfl⟩ hb⟩

theorem limbBits_holds : Rows.LimbBitsSaid :=
  OpenClaim.holds_of_wide 4 Try.f4 rfl rfl rfl rfl rfl rfl rfl ⟨rfl, rfl, rfl, rfl, rfl⟩ rfl rfl rfl rfl rfl (by kernel_rfl) Try.func4 (by kernel_rfl)
    (of_decide_eq_true (by kernel_rfl)) (by unfold Func.isWrapper; first | (rw [if_pos (by decide +kernel)]; kernel_rfl) | (rw [if_neg (by decide +kernel)]; exact ⟨rfl, rfl⟩))
    (fun os started H enc _ => limbBits_lifted os started H enc)

end Go.Proofs.Ytghjbfkbmbnjkaa
