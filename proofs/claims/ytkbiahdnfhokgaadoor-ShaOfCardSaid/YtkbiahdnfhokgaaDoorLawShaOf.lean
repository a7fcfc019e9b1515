/-
  ShaOf: for all arguments the law hands back true, and leaves them as they were, if the two tables hold what the program lays in them.
-/
import Derived.Test.YtkbiahdnfhokgaaDoorShaAw
import Derived.Test.YtkbiahdnfhokgaaDoorCards
import Derived.Test.YtkbiahdnfhokgaaDoorTie
import Derived.ProofKit
import Derived.OpenShut
import Derived.LaidMore
import Derived.Lay
import Derived.SevenTiedAt
import Derived.Stop.Joined
namespace Go.Proofs.YtkbiahdnfhokgaaDoor
open Go Go.Eng Go.ChangeShapes Go.WideShapes Go.ChangeAt Go.RowKit
set_option linter.unusedVariables false
set_option linter.unusedSimpArgs false
set_option maxRecDepth 100000
set_option maxHeartbeats 1000000

theorem own : ownKnob Tryd.prog.godebug = none := by kernel_rfl
theorem laidOut : laidOutB Tryd.prog = true := by kernel_rfl
theorem boolT : Tryd.prog.underlying 4 = some .bool := by kernel_rfl
theorem i64T : Tryd.prog.underlying 3 = some (.int .i64) := by kernel_rfl
theorem famT_of_laid {W : World} (h : laidMetH Tryd.prog Rows.shaOfRow.laid W) : FamH famT W := by
  rw [MakeChecks.laidMetH_plain _ _ _ (by kernel_rfl)] at h
  obtain ⟨ps, ⟨g, t, cs, fuel, p, q, hg, ht, hv, hd, ⟨g2, t2, cs2, fuel2, p2, q2, hg2, ht2, hv2, hd2, _, _⟩, _⟩, _, _⟩ := h
  have h0 : ∀ r, r < 8 → W.cell? ⟨0, r, none⟩ = some (.int .u32 ((begK.map fun z : Nat => (z : Int)).getD r 0)) := fun r hr => tab_cell (P := Tryd.prog) (t := 33) (e := 32) (n := 8) (name := "sortition/sha.begin") (zs := begK.map fun z : Nat => (z : Int)) (by kernel_rfl) (by kernel_rfl) (by kernel_rfl) (by kernel_rfl) (by kernel_rfl) rfl ⟨g, t, cs, fuel, p, hg, ht, hv, hd⟩ r hr
  have h1 : ∀ r, r < 64 → W.cell? ⟨1, r, none⟩ = some (.int .u32 ((rndK.map fun z : Nat => (z : Int)).getD r 0)) := fun r hr => tab_cell (P := Tryd.prog) (t := 48) (e := 32) (n := 64) (name := "sortition/sha.rounds") (zs := rndK.map fun z : Nat => (z : Int)) (by kernel_rfl) (by kernel_rfl) (by kernel_rfl) (by kernel_rfl) (by kernel_rfl) rfl ⟨g2, t2, cs2, fuel2, p2, hg2, ht2, hv2, hd2⟩ r hr
  exact famT_cells h0 h1
theorem shaOf_run (b : BytL) (hb : OkB b) : RunsF (famTB b) Tryd.prog 3 [(Value.slice b.wa b.wn b.wc)] [] 0 (fun (_ : List Nat) => Value.bool true) (fun (_ : List Nat) => []) :=
  runsF_of_ev (F := (famTB b)) mix Tryd.func3 rfl rfl 400 (.reg [(0, .g)] (.reg [(0, (.callF [] 0 0 (fun _ => (Value.bool true)) (fun _ => []))), (1, .g)] (.reg [(0, .g), (1, (.as (nat b.wn))), (2, (.as (Value.bool (decide (1000 < b.wn)))))] (.br (.reg [(0, .g), (1, .g)] .done) (.regn [(0, .g), (1, (.oth [] 1 1 (fun ns => Value.slice (some ⟨ns.getD 0 0, 0, none⟩) 1 1) (fun ns => [some ⟨ns.getD 0 0, true, 0, .lit [(Value.slice b.wa b.wn b.wc)]⟩]))), (2, (.callF [(0, true)] 0 0 (fun _ => (vecV 32 (fun k => u8 (sumD (wrS newH (brow [b]) 1) k)))) (fun _ => [none]))), (3, .new), (4, (.st 1 (.lit 0)))] (more (fun n1 => more (fun n2 => fun _ => (.reg [(0, .g), (1, .g), (2, .run (.ld 1 (.lit 0))), (3, .run .g), (4, .run (.callF [] 0 0 (fun _ => (vecV 32 (fun k => u8 (digOf b.wf b.wn k)))) (fun _ => []))), (5, .run (.as (Value.bool (sameS (sumD (wrS newH (brow [b]) 1)) 32 (digOf b.wf b.wn) 32)))), (6, .pk), (7, .g)] .done))))))))) [] [] rfl
    (Eq.mp (by kernel_rfl) (And.intro (sk trivial) (And.intro (And.intro (And.intro trivial (RunsF.mono (fun (x : Blk) (h : famT x) => (Or.inl h : famTB b x)) awake_fam)) (sk trivial)) (And.intro (sk (And.intro (And.intro trivial (@is_len Tryd.prog 22 5 (.tmp 6) (by kernel_rfl) b.wa b.wn b.wc)) (And.intro (And.intro trivial (@is_gtrn Tryd.prog 3 3 (.tmp 7) (.const (.int .i64 1000))  b.wn 1000)) trivial))) (And.intro trivial (And.intro (fun (h1 : (decide (1000 < b.wn)) = true) => And.intro (sk (sk trivial)) (And.intro trivial (@Exists.intro (List Nat) (fun (ns : List Nat) => ns.length = 0 ∧ ((Value.bool true) : Value) = (fun (_ : List Nat) => Value.bool true) ns ∧ ([] : List (Option Blk)) = (fun (_ : List Nat) => []) ns) [] (And.intro (@rfl Nat 0) (And.intro ((@rfl Value (.bool true))) (@rfl (List (Option Blk)) [])))))) (fun (h1 : (decide (1000 < b.wn)) = false) => fun (n1 n2 : Nat) => And.intro (sk (And.intro (And.intro trivial (mk_build (P := Tryd.prog) (t := 29) (e := 22) one22 1 #[(0, (Value.slice b.wa b.wn b.wc))] #[(Value.slice b.wa b.wn b.wc)] (by kernel_rfl) (by decide) (by kernel_rfl))) (And.intro (And.intro trivial (RunsF.lendS (F' := (famTB b)) (cs := [⟨n1, false, 0, (.lit [(Value.slice b.wa b.wn b.wc)])⟩]) (of_fam (bysO n1 1 1 (brow [b])) (oks_own (by decide) (by decide) (fun k hk => (match k, hk with | 0, _ => hb | (k + 1), hk => absurd hk (by omega))))) (holds_own (fun (x : Blk) (h : famT x) => (Or.inl h : famTB b x)) rfl (fun k hk => (match k, hk with | 0, _ => (fun w hF => (fun x hx => hF x (Or.inr hx))) | (k + 1), hk => absurd hk (by omega)))) (by simp))) (sk (And.intro (And.intro trivial (ad n2 0)) trivial))))) (And.intro (sk (sk (And.intro (And.intro (@rfl Bool true) (And.intro trivial (ad n2 0))) (And.intro (And.intro (@rfl Bool true) t2) (And.intro (And.intro (@rfl Bool true) (And.intro trivial (RunsF.mono (fun (x : Blk) (hx : famB b x) => (Or.inr hx : famTB b x)) (rof_fam b hb (show b.wn ≤ 1000000 from by have f0 : b.wn ≤ 9223372036854775807 := hb.len; have f1 : ¬ (1000 < b.wn) := (of_decide_eq_false h1); omega))))) (And.intro (And.intro (@rfl Bool true) (And.intro trivial (is_eqlV8 (P := Tryd.prog) (t := 25) (e := 5) (t' := 25) (x := (.tmp 15)) (y := (.tmp 17)) (n := 32) (by kernel_rfl) (by kernel_rfl) (by kernel_rfl) (by kernel_rfl) (sumD (wrS newH (brow [b]) 1)) (digOf b.wf b.wn)))) (And.intro (And.intro trivial (And.intro (fun (_ : true = true) => trivial) (fun (_ : true = false) => trivial))) (sk trivial)))))))) (And.intro trivial (@Exists.intro (List Nat) (fun (ns : List Nat) => ns.length = 0 ∧ ((Value.bool (selB true (sameS (sumD (wrS newH (brow [b]) 1)) 32 (digOf b.wf b.wn) 32) false)) : Value) = (fun (_ : List Nat) => Value.bool true) ns ∧ ([] : List (Option Blk)) = (fun (_ : List Nat) => []) ns) [] (And.intro (@rfl Nat 0) (And.intro ((show (Value.bool (selB true (sameS (sumD (wrS newH (brow [b]) 1)) 32 (digOf b.wf b.wn) 32) false)) = Value.bool true from congrArg Value.bool (show (selB true (sameS (sumD (wrS newH (brow [b]) 1)) 32 (digOf b.wf b.wn) 32) false) = true from by have f0 : b.wn ≤ 9223372036854775807 := hb.len; have f1 : ¬ (1000 < b.wn) := (of_decide_eq_false h1); exact same_of (of_one (by omega))))) (@rfl (List (Option Blk)) [])))))))))))))

theorem shaOf_lifted (os : Os) (started : os.Started) (H : Type) (enc : TypeId × Value → H) :
    ReturnsInHanded {} Tryd.checked os 3 .any (fun w args => (Rows.shaOfSpec.pre enc Tryd.prog Tryd.f3 Rows.shaOfRow.domain false w args ∧ laidMetH Tryd.prog Rows.shaOfRow.laid w) ∧ sizedMet enc Tryd.prog Tryd.f3 (OpenSpec.ofChange Rows.shaOfSpec) false w args) (Rows.shaOfSpec.post enc Tryd.prog Tryd.f3 false true false false) := by
  refine returnsInHanded_of_change_and (C := Tryd.checked) (X := fun w _ => laidMetH Tryd.prog Rows.shaOfRow.laid w) (fun _ _ _ hh h => h.of_heap hh) own started (by kernel_rfl) Tryd.func3
    (ChangeSpec.witness_shaped (enc := enc) (C := Tryd.checked) (os := os) (X := fun w _ => laidMetH Tryd.prog Rows.shaOfRow.laid w) false (World.laidAll Tryd.prog os Rows.shaOfRow.laid) #[.slice none 0 0] 8 (World.laidAll_os _ _ _)
      (World.shaped_of_ZipB (by kernel_rfl) (by kernel_rfl)) (by kernel_rfl) (by kernel_rfl) (by kernel_rfl)
      (by rw [MakeChecks.laidMetH_plain _ _ _ (by kernel_rfl)]; exact laidMet_laidAll _ (by kernel_rfl) (by kernel_rfl))) ?_
  intro W base args ds gs before hval0 hW _ _ hL _
  have hval : ∀ (j : Nat) t v, Tryd.f3.params[j]? = some t → args[j]? = some v → Value.okWide Tryd.prog W .any base t v := hval0
  have hW' := hW
  obtain ⟨p, q, hA0, hV, hpq, hfz, hnd⟩ := hW
  have hA : DataW.TrodAll enc Tryd.prog W 0 (fun _ => true) true Tryd.f3.params.toList args.toList ds p := hA0
  rw [Tryd.params3] at hA hval
  obtain ⟨v0, vs0, d0, ds0, p0, q0, hargs, rfl, hp0, e0, r0⟩ := trodAll_cons hA
  obtain ⟨rfl, rfl, _⟩ := trodAll_nil r0
  obtain rfl : args = #[v0] := by cases args; simp_all
  obtain ⟨b, rfl, hb, hFb⟩ := open_bytes (P := Tryd.prog) (t := 22) (e := 5) (by kernel_rfl) (by kernel_rfl) (by kernel_rfl) (hval 0 22 v0 rfl rfl) e0
  obtain ⟨rfl, rfl⟩ := trodVars_none hV
  have hT := famT_of_laid hL
  have key : Calls Tryd.prog 3 #[.slice b.wa b.wn b.wc] W fun e w' => e = .returned (Value.bool true) ∧ Below W.heap.size W w' := runsF_law (shaOf_run b hb) (fun b hb => by cases hb) (fun b hb => by cases hb) (famTB_holds hT hFb)
  refine key.mono fun e W' ⟨he, hb⟩ => ?_
  subst he
  exact ⟨_, rfl, law_post laidOut (by kernel_rfl) rfl boolT rfl hW' ⟨rfl, rfl, rfl⟩ hb⟩
theorem shaOf_holds : Rows.ShaOfSaid :=
  OpenClaim.holds_of_wide 3 Tryd.f3 rfl rfl rfl rfl rfl rfl rfl ⟨rfl, rfl, rfl, rfl, rfl⟩ rfl rfl rfl rfl rfl (by kernel_rfl) Tryd.func3 (by kernel_rfl)
    (of_decide_eq_true (by kernel_rfl)) (by unfold Func.isWrapper; first | (rw [if_pos (by decide +kernel)]; kernel_rfl) | (rw [if_neg (by decide +kernel)]; exact ⟨rfl, rfl⟩))
    (fun os started H enc _ => shaOf_lifted os started H enc)
theorem shaOf_card : Rows.ShaOfCardSaid :=
  Claim7.holds_tied_plain_at .later [] [.data, .data] true (true, "fc69f54cebd75695343271d59401caeb1a7ca7e3898e370688121cce7cf53c3e") false shaOf_holds (fun _ h => by cases h) (by kernel_rfl) (fun _ h => by cases h) shaOf_row_tie rfl ⟨rfl, rfl⟩ (by kernel_rfl) rfl
    (fun f fn hf hfn => by
      obtain rfl : f = 3 := Option.some.inj ((show Tryd.prog.funcNamed "sortition/sortitionlaw06.ShaOf" = some 3 by kernel_rfl).symm.trans hf) |>.symm
      obtain rfl : fn = Tryd.f3 := (Option.some.inj (Tryd.func3.symm.trans hfn)).symm
      exact ⟨by kernel_rfl, fun j t ht => by
        rw [Tryd.params3] at ht
        have hm : t ∈ [22] := by simpa using Array.mem_of_getElem? ht
        have hall : ([22].all fun u => !Tryd.prog.wantsStandIn u) = true := by kernel_rfl
        exact (show Tryd.prog.wantsStandIn t = false by simpa using List.all_eq_true.1 hall t hm)⟩)
    (by kernel_rfl)

end Go.Proofs.YtkbiahdnfhokgaaDoor
