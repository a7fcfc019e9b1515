/-
  CodecWrites: for all arguments the law hands back true, and leaves them as they were.
-/
import Derived.Test.YtelpmalmknpogaaZCodecWrites11
namespace Go.Proofs.Ytelpmalmknpogaa
open Go Go.Eng Go.ChangeShapes Go.WideShapes Go.ChangeAt Go.RowKit
set_option linter.unusedVariables false
set_option linter.unusedSimpArgs false
set_option maxRecDepth 100000
set_option maxHeartbeats 1000000
theorem own : ownKnob Try.prog.godebug = none := by kernel_rfl
theorem laidOut : laidOutB Try.prog = true := by kernel_rfl
theorem natC : Try.prog.cellsOf 31 = 1 := by kernel_rfl
theorem natCt : Try.prog.cellsOf 33 = 4 := by kernel_rfl
theorem u64T : Try.prog.underlying 31 = some (.int .u64) := by kernel_rfl
theorem i64T : Try.prog.underlying 3 = some (.int .i64) := by kernel_rfl
theorem same_pt {F : Blk → Prop} {f : Nat → PutR} {i a r b c : Nat} (hl : ptN f i ≤ 9223372036854775807) : RunsO F Try.prog 11 [gsV (ptG f i a r), gsV (ptG f i b c)] [roO (gsE u8C [u8 0] 1 (ptG f i a r)), roO (gsE u8C [u8 0] 1 (ptG f i b c))] 0 (fun _ => Value.bool true) (fun _ => [none, none]) := by
  have h := same_G (F := F) (P := Try.prog) (k := 11) (A := ptG f i a r) (B := ptG f i b c) ptG_ok ptG_ok hl hl (fun x y hx hy => same_fam x y hx hy)
  have e : sameS (ptG f i a r).f (ptG f i a r).n (ptG f i b c).f (ptG f i b c).n = true := same_all (ptF f i) (ptN f i)
  rw [e] at h
  exact h
theorem codecWrites_run (x : PutL) (hx : OkPt x) : RunsO (famPt x) Try.prog 3 [(Value.slice x.wa x.wn x.wc)] [] 0 (fun (_ : List Nat) => Value.bool true) (fun (_ : List Nat) => []) :=
  runsO_of_ev mix Try.func3 rfl rfl 400 (.reg [(0, .g)] (.reg [(0, (.call [] 0 0 (fun _ => (Value.bool true)) (fun _ => []))), (1, .g)] (.reg [(0, .g), (1, (.callO [] 0 0 (fun _ => Value.bool (fewB x)) (fun _ => []))), (2, .g)] (.reg [(0, .g), (1, .g)] (.br (.reg [(0, .g), (1, .g)] .done) (.regn [(0, .g), (1, (.callO [] 4 2 (fun ns => Value.tuple #[gsV (ptG x.wf x.wn (ns.getD 0 0) (ns.getD 1 0)), gsV (ptG x.wf x.wn (ns.getD 2 0) (ns.getD 3 0))]) (fun ns => [(gsE u8C [u8 0] 1 (ptG x.wf x.wn (ns.getD 0 0) (ns.getD 1 0))), (gsE u8C [u8 0] 1 (ptG x.wf x.wn (ns.getD 2 0) (ns.getD 3 0)))]))), (2, .g), (3, .g), (4, .g), (5, .g), (6, .g)] (more (fun n1 => more (fun n2 => more (fun n3 => more (fun n4 => fun _ => (.reg [(0, .g), (1, .g), (2, .run .g), (3, .run .g), (4, .run (.callO [(0, true), (1, true)] 0 0 (fun _ => Value.bool true) (fun _ => [none, none]))), (5, .pk), (6, .g)] .done)))))))))))) [] [] rfl
    (have f0 : x.wn ≤ 9223372036854775807 := hx.len; Eq.mp (by kernel_rfl) (And.intro (sk trivial) (And.intro (And.intro (And.intro trivial awake_pure) (sk trivial)) (And.intro (sk (And.intro (And.intro trivial (short_run x hx)) (sk trivial))) (And.intro (sk (sk trivial)) (And.intro trivial (And.intro (fun (h1 : (!(fewB x)) = true) => have f1 : (fewB x) = false := (bnot_t h1); And.intro (sk (sk trivial)) (And.intro trivial (@Exists.intro (List Nat) (fun (ns : List Nat) => ns.length = 0 ∧ ((Value.bool true) : Value) = (fun (_ : List Nat) => Value.bool true) ns ∧ ([] : List (Option Blk)) = (fun (_ : List Nat) => []) ns) [] (And.intro (@rfl Nat 0) (And.intro (@rfl Value (Value.bool true)) (@rfl (List (Option Blk)) [])))))) (fun (h1 : (!(fewB x)) = false) => have f1 : (fewB x) = true := (bnot_f h1); fun (n1 n2 n3 n4 : Nat) => And.intro (sk (And.intro (And.intro trivial (written_run x hx (fewB_t (bnot_f h1)))) (sk (sk (sk (sk (sk trivial))))))) (And.intro (sk (sk (And.intro (And.intro (@rfl Bool true) t2) (And.intro (And.intro (@rfl Bool true) t2) (And.intro (And.intro (@rfl Bool true) (And.intro trivial (same_pt (F := famPt x) (f := x.wf) (i := x.wn) (a := n1) (r := n2) (b := n3) (c := n4) (show ptN x.wf x.wn ≤ 9223372036854775807 from by have hw := (fewB_t (bnot_f h1)); have := ptN_le hw x.wn (Nat.le_refl _); have := hw.1; omega)))) (And.intro (And.intro trivial (And.intro (fun (_ : true = true) => trivial) (fun (_ : true = false) => trivial))) (sk trivial))))))) (And.intro trivial (@Exists.intro (List Nat) (fun (ns : List Nat) => ns.length = 0 ∧ ((Value.bool true) : Value) = (fun (_ : List Nat) => Value.bool true) ns ∧ ([] : List (Option Blk)) = (fun (_ : List Nat) => []) ns) [] (And.intro (@rfl Nat 0) (And.intro (@rfl Value (Value.bool true)) (@rfl (List (Option Blk)) []))))))))))))))
set_option maxRecDepth 100000 in
theorem codecWrites_lifted (os : Os) (started : os.Started) (H : Type) (enc : TypeId × Value → H) :
    ReturnsInHanded {} Try.checked os 3 .any (Rows.codecWritesSpec.pre6 enc Try.prog Try.f3 Rows.codecWritesRow.domain false) (Rows.codecWritesSpec.post enc Try.prog Try.f3 false true false false) := by
  refine returnsInHanded_of_change (C := Try.checked) own started (by kernel_rfl) Try.func3
    (ChangeSpec.witness6 (enc := enc) (C := Try.checked) false ⟨#[], #[.slice none 0 0], []⟩ 8 (by kernel_rfl) (by kernel_rfl) (by kernel_rfl) (by kernel_rfl)) ?_
  intro W base args ds gs before hval0 hW _ _
  have hval : ∀ (j : Nat) t v, Try.f3.params[j]? = some t → args[j]? = some v → Value.okWide Try.prog W .any base t v := hval0
  have hW' := hW
  obtain ⟨p, q, hA0, hV, hpq, hfz, hnd⟩ := hW
  have hA : DataW.TrodAll enc Try.prog W 0 (fun _ => true) true Try.f3.params.toList args.toList ds p := hA0
  rw [Try.params3] at hA hval
  obtain ⟨v0, vs0, d0, ds0, p0, q0, hargs, rfl, hp0, e0, r0⟩ := trodAll_cons hA
  obtain ⟨rfl, rfl, _⟩ := trodAll_nil r0
  obtain rfl : args = #[v0] := by cases args; simp_all
  obtain ⟨rfl, rfl⟩ := trodVars_none hV
  obtain ⟨x, rfl, hx, hFx⟩ := open_puts (P := Try.prog) (t := 22) (e := 36) (i := 3) (u := 31) (a := 33) (s := 25) (l := 34) (c := 5) (by kernel_rfl) (by kernel_rfl) (by kernel_rfl) (by kernel_rfl) (by kernel_rfl) (by kernel_rfl) (by kernel_rfl) (by kernel_rfl) (by kernel_rfl) (by kernel_rfl) (by kernel_rfl) (by kernel_rfl) (by kernel_rfl) (by kernel_rfl) (by kernel_rfl) (hval 0 22 v0 rfl rfl) e0
  have key : Calls Try.prog 3 #[.slice x.wa x.wn x.wc] W fun e w' => e = .returned (Value.bool true) ∧ Below W.heap.size W w' := (runsF_law (RunsO.toF (bs := []) (codecWrites_run x hx)) (fun b hb => by cases hb) (fun b hb => by cases hb) hFx)
  refine key.mono fun e W' ⟨he, hb⟩ => ?_
  subst he
  exact ⟨_, rfl, law_post laidOut (by kernel_rfl) rfl boolT rfl hW' ⟨rfl, rfl, rfl⟩ hb⟩
theorem codecWrites_holds : Rows.CodecWritesSaid :=
  OpenClaim.holds_of_wide 3 Try.f3 rfl rfl rfl rfl rfl rfl rfl ⟨rfl, rfl, rfl, rfl, rfl⟩ rfl rfl rfl rfl rfl (by kernel_rfl) Try.func3 (by kernel_rfl)
    (of_decide_eq_true (by kernel_rfl)) (by unfold Func.isWrapper; first | (rw [if_pos (by decide +kernel)]; kernel_rfl) | (rw [if_neg (by decide +kernel)]; exact ⟨rfl, rfl⟩))
    (fun os started H enc _ => codecWrites_lifted os started H enc)
end Go.Proofs.Ytelpmalmknpogaa
