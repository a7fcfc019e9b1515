/-
  GroupTurned: for all arguments the law hands back true, and leaves them as they were.
-/
import Derived.Test.YtikfnopccneijaaEngA
import Derived.Test.YtikfnopccneijaaEngB
import Derived.Test.YtikfnopccneijaaEngC
import Derived.Test.YtikfnopccneijaaEngD
import Derived.Test.YtikfnopccneijaaEngE
import Derived.Test.YtikfnopccneijaaEngF
import Derived.Test.YtikfnopccneijaaEngG
import Derived.Test.YtikfnopccneijaaEngH
import Derived.Test.YtikfnopccneijaaEngI
import Derived.Test.YtikfnopccneijaaEngJ
import Derived.Test.YtikfnopccneijaaEngK
import Derived.Test.YtikfnopccneijaaEngL
import Derived.Test.YtikfnopccneijaaNat4
import Derived.Test.YtikfnopccneijaaEngM
import Derived.Test.YtikfnopccneijaaLimbDefs
import Derived.Test.YtikfnopccneijaaLimbMath
import Derived.Test.YtikfnopccneijaaEngN
import Derived.Test.YtikfnopccneijaaEngO
import Derived.Test.YtikfnopccneijaaLimbDiv
import Derived.Test.YtikfnopccneijaaLimbLaws
import Derived.Test.YtikfnopccneijaaLimbFns
import Derived.Test.YtikfnopccneijaaLimbDigits
import Derived.Test.YtikfnopccneijaaLimbRef
import Derived.Test.YtikfnopccneijaaEngP
import Derived.Test.YtikfnopccneijaaLimbRef2
import Derived.Test.YtikfnopccneijaaLimbRefFns
import Derived.Test.YtikfnopccneijaaMontMath
import Derived.Test.YtikfnopccneijaaMontDefs
import Derived.Test.YtikfnopccneijaaEngQ
import Derived.Test.YtikfnopccneijaaEngR
import Derived.Test.YtikfnopccneijaaEngS
import Derived.Test.YtikfnopccneijaaLimbByt
import Derived.Test.YtikfnopccneijaaEngT
import Derived.Test.YtikfnopccneijaaMontFnsA
import Derived.Test.YtikfnopccneijaaMontOnce
import Derived.Test.YtikfnopccneijaaMontFnsB
import Derived.Test.YtikfnopccneijaaMontLaws
import Derived.Test.YtikfnopccneijaaEngU
import Derived.Test.YtikfnopccneijaaEngV
import Derived.Test.YtikfnopccneijaaEngY
import Derived.Test.YtikfnopccneijaaMaps
import Derived.Test.YtikfnopccneijaaPratFnsA
import Derived.Test.YtikfnopccneijaaPratFnsB
import Derived.Test.YtikfnopccneijaaGroupFns
import Derived.Test.YtikfnopccneijaaGroupNew
import Derived.Test.YtikfnopccneijaaGroupBase
import Derived.Test.YtikfnopccneijaaGroupFew
import Derived.Test.YtikfnopccneijaaGroupTurn
import Derived.Test.YtikfnopccneijaaGroupTurnA
import Derived.Test.YtikfnopccneijaaGroupTurnB
namespace Go.Proofs.Ytikfnopccneijaa
open Go Go.Eng Go.ChangeShapes Go.WideShapes Go.ChangeAt Go.RowKit
set_option linter.unusedVariables false
set_option linter.unusedSimpArgs false
set_option exponentiation.threshold 600
set_option maxRecDepth 100000
set_option maxHeartbeats 1000000

theorem groupTurned_all (which : Int) (x y : NumL) (pl : Int) (hx : OkN x) (hy : OkN y) : RunsF (fam2 x y) Try.prog 8 [int which, .slice x.la x.ln x.lc, .slice y.la y.ln y.lc, int pl] [] 0 (fun _ => .bool true) (fun _ => []) := by
  by_cases h : x.ln ≤ 6 ∧ y.ln = x.ln ∧ 0 ≤ pl ∧ pl ≤ x.ln
  · obtain ⟨h6, hn, h0, hk⟩ := h
    obtain ⟨k, rfl⟩ := Int.eq_ofNat_of_zero_le h0
    have hk : k ≤ x.ln := by omega
    by_cases h1 : which = 1
    · exact groupTurned_1i which x y k h1 hx hy hk h6 hn
    by_cases h2 : which = 2
    · exact groupTurned_2i which x y k h2 hx hy hk h6 hn
    by_cases h3 : which = 3
    · exact groupTurned_3i which x y k h3 hx hy hk h6 hn
    exact groupTurned_0i which x y k ⟨h1, h2, h3⟩ hx hy hk h6 hn
  · have hb : 6 < x.ln ∨ y.ln ≠ x.ln ∨ pl < 0 ∨ (x.ln : Int) < pl := by omega
    by_cases h1 : which = 1
    · exact groupTurned_1o which x y pl h1 hx hy hb
    by_cases h2 : which = 2
    · exact groupTurned_2o which x y pl h2 hx hy hb
    by_cases h3 : which = 3
    · exact groupTurned_3o which x y pl h3 hx hy hb
    exact groupTurned_0o which x y pl ⟨h1, h2, h3⟩ hx hy hb

set_option maxRecDepth 100000 in
theorem groupTurned_lifted (os : Os) (started : os.Started) (H : Type) (enc : TypeId × Value → H) :
    ReturnsInHanded {} Try.checked os 8 .any (Rows.groupTurnedSpec.pre6 enc Try.prog Try.f8 Rows.groupTurnedRow.domain false) (Rows.groupTurnedSpec.post enc Try.prog Try.f8 false true false false) := by
  refine returnsInHanded_of_change (C := Try.checked) own started (by kernel_rfl) Try.func8
    (ChangeSpec.witness6 (enc := enc) (C := Try.checked) false ⟨#[], #[.int .i64 0, .slice none 0 0, .slice none 0 0, .int .i64 0], []⟩ 8 (by kernel_rfl) (by kernel_rfl) (by kernel_rfl) (by kernel_rfl)) ?_
  intro W base args ds gs before hval0 hW _ _
  have hval : ∀ (j : Nat) t v, Try.f8.params[j]? = some t → args[j]? = some v → Value.okWide Try.prog W .any base t v := hval0
  have hW' := hW
  obtain ⟨p, q, hA0, hV, hpq, hfz, hnd⟩ := hW
  have hA : DataW.TrodAll enc Try.prog W 0 (fun _ => true) true Try.f8.params.toList args.toList ds p := hA0
  rw [Try.params8] at hA hval
  obtain ⟨v0, vs0, d0, ds0, p0, q0, hargs, rfl, hp0, e0, r0⟩ := trodAll_cons hA
  obtain ⟨v1, vs1, d1, ds1, p1, q1, rfl, rfl, hp1, e1, r1⟩ := trodAll_cons r0
  obtain ⟨v2, vs2, d2, ds2, p2, q2, rfl, rfl, hp2, e2, r2⟩ := trodAll_cons r1
  obtain ⟨v3, vs3, d3, ds3, p3, q3, rfl, rfl, hp3, e3, r3⟩ := trodAll_cons r2
  obtain ⟨rfl, rfl, _⟩ := trodAll_nil r3
  obtain rfl : args = #[v0, v1, v2, v3] := by cases args; simp_all
  obtain ⟨which, rfl, hwhichl, hwhichh⟩ := open_i64 i64T (hval 0 3 v0 rfl rfl) e0
  obtain ⟨pl, rfl, hpll, hplh⟩ := open_i64 i64T (hval 3 3 v3 rfl rfl) e3
  obtain ⟨rfl, rfl⟩ := trodVars_none hV
  obtain ⟨x, rfl, hx, hFx⟩ := open_nums (P := Try.prog) (t := 42) (e := 24) (by kernel_rfl) natT natE natC natCt (hval 1 42 v1 rfl rfl) e1
  obtain ⟨y, rfl, hy, hFy⟩ := open_nums (P := Try.prog) (t := 42) (e := 24) (by kernel_rfl) natT natE natC natCt (hval 2 42 v2 rfl rfl) e2
  have key : Calls Try.prog 8 #[int which, .slice x.la x.ln x.lc, .slice y.la y.ln y.lc, int pl] W fun e w' => e = .returned (Value.bool true) ∧ Below W.heap.size W w' := runsF_law (groupTurned_all which x y pl hx hy) (fun b hb => by cases hb) (fun b hb => by cases hb) (fun b hb => hb.elim (hFx b) (hFy b))
  refine key.mono fun e W' ⟨he, hb⟩ => ?_
  subst he
  exact ⟨_, rfl, law_post laidOut (by kernel_rfl) rfl boolT rfl hW' ⟨rfl, rfl, rfl⟩ hb⟩

theorem groupTurned_holds : Rows.GroupTurnedSaid :=
  OpenClaim.holds_of_wide 8 Try.f8 rfl rfl rfl rfl rfl rfl rfl ⟨rfl, rfl, rfl, rfl, rfl⟩ rfl rfl rfl rfl rfl (by kernel_rfl) Try.func8 (by kernel_rfl)
    (of_decide_eq_true (by kernel_rfl)) (by unfold Func.isWrapper; first | (rw [if_pos (by decide +kernel)]; kernel_rfl) | (rw [if_neg (by decide +kernel)]; exact ⟨rfl, rfl⟩))
    (fun os started H enc _ => groupTurned_lifted os started H enc)

end Go.Proofs.Ytikfnopccneijaa
