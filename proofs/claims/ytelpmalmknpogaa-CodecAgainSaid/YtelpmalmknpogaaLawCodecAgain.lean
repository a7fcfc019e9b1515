/-
  CodecAgain: for all arguments the law hands back true, and leaves them as they were.
-/
import Derived.Test.YtelpmalmknpogaaCodAgZ
import Derived.Test.YtelpmalmknpogaaCodAgP
import Derived.SizedLaws
namespace Go.Proofs.Ytelpmalmknpogaa
open Go Go.Eng Go.ChangeShapes Go.WideShapes Go.ChangeAt Go.RowKit
set_option linter.unusedVariables false
set_option linter.unusedSimpArgs false
set_option maxRecDepth 100000
set_option maxHeartbeats 1000000

theorem own : ownKnob Try.prog.godebug = none := by kernel_rfl
theorem laidOut : laidOutB Try.prog = true := by kernel_rfl
theorem natC : Try.prog.cellsOf 31 = 1 := by kernel_rfl
theorem natCt : Try.prog.cellsOf 33 = 4 := by kernel_rfl
theorem u64T : Try.prog.underlying 31 = some (.int .u64) := by kernel_rfl
theorem i64T : Try.prog.underlying 3 = some (.int .i64) := by kernel_rfl
theorem again_all (b : BytL) (l : AskL) (hB : OkB b) (hl : OkK l) (hs : b.wn ≤ 140737488355328) : RunsF (famBK b l) Try.prog 5 [.slice b.wa b.wn b.wc, .slice l.la l.ln l.lc] [] 0 (fun _ => .bool true) (fun _ => []) := by
  rcases Nat.eq_zero_or_pos l.ln with k0 | k0
  · rcases Nat.eq_zero_or_pos b.wn with h0 | h0
    · exact again_ez b l hB hl hs h0 k0
    · exact again_ep b l hB hl hs h0 k0
  · rcases Nat.eq_zero_or_pos b.wn with h0 | h0
    · exact again_z b l hB hl hs h0 k0
    · exact again_p b l hB hl hs h0 k0
set_option maxRecDepth 100000 in
theorem codecAgain_lifted (os : Os) (started : os.Started) (H : Type) (enc : TypeId × Value → H) :
    ReturnsInHanded {} Try.checked os 5 .any (Rows.codecAgainSpec.pre6 enc Try.prog Try.f5 Rows.codecAgainRow.domain false) (Rows.codecAgainSpec.post enc Try.prog Try.f5 false true false false) := by
  refine returnsInHanded_of_change_sized (C := Try.checked) own started (by kernel_rfl) Try.func5
    (ChangeSpec.witness6 (enc := enc) (C := Try.checked) false ⟨#[], #[.slice none 0 0, .slice none 0 0], []⟩ 8 (by kernel_rfl) (by kernel_rfl) (by kernel_rfl) (by kernel_rfl)) ?_
  intro W base args ds gs before hval0 hW _ hsz _
  have hval : ∀ (j : Nat) t v, Try.f5.params[j]? = some t → args[j]? = some v → Value.okWide Try.prog W .any base t v := hval0
  have hW' := hW
  obtain ⟨p, q, hA0, hV, hpq, hfz, hnd⟩ := hW
  have hA : DataW.TrodAll enc Try.prog W 0 (fun _ => true) true Try.f5.params.toList args.toList ds p := hA0
  rw [Try.params5] at hA hval
  obtain ⟨v0, vs0, d0, ds0, p0, q0, hargs, rfl, hp0, e0, r0⟩ := trodAll_cons hA
  obtain ⟨v1, vs1, d1, ds1, p1, q1, rfl, rfl, hp1, e1, r1⟩ := trodAll_cons r0
  obtain ⟨rfl, rfl, _⟩ := trodAll_nil r1
  obtain rfl : args = #[v0, v1] := by cases args; simp_all
  obtain ⟨rfl, rfl⟩ := trodVars_none hV
  obtain ⟨b, rfl, hb, hFb⟩ := open_bytes (P := Try.prog) (t := 25) (e := 5) (by kernel_rfl) (by kernel_rfl) (by kernel_rfl) (hval 0 25 v0 rfl rfl) e0
  obtain ⟨l, rfl, hl, hFl⟩ := open_asks (P := Try.prog) (t := 45) (e := 50) (i := 3) (u := 31) (by kernel_rfl) (by kernel_rfl) (by kernel_rfl) (by kernel_rfl) (by kernel_rfl) (by kernel_rfl) (by kernel_rfl) (hval 1 45 v1 rfl rfl) e1
  have hbs : b.wn ≤ 140737488355328 := by
    rcases bytes_len (P := Try.prog) (t := 25) (e := 5) (by kernel_rfl) (by kernel_rfl) e0 with h | ⟨el, sp, hd0, hlen⟩
    · omega
    · subst hd0
      have h2 := sized_slice (P := Try.prog) (j := 0) (t := 25) (e := 5) hsz (by kernel_rfl) rfl (by kernel_rfl)
      have h3 : Try.prog.bytesOf 5 = 1 := by kernel_rfl
      rw [h3] at h2
      unfold reachBytes at h2
      omega
  have key : Calls Try.prog 5 #[.slice b.wa b.wn b.wc, .slice l.la l.ln l.lc] W fun e w' => e = .returned (Value.bool true) ∧ Below W.heap.size W w' := runsF_law (again_all b l hb hl hbs) (fun b hb => by cases hb) (fun b hb => by cases hb) (hold_or hFb hFl)
  refine key.mono fun e W' ⟨he, hb⟩ => ?_
  subst he
  exact ⟨_, rfl, law_post laidOut (by kernel_rfl) rfl boolT rfl hW' ⟨rfl, rfl, rfl⟩ hb⟩

theorem codecAgain_holds : Rows.CodecAgainSaid :=
  OpenClaim.holds_of_wide 5 Try.f5 rfl rfl rfl rfl rfl rfl rfl ⟨rfl, rfl, rfl, rfl, rfl⟩ rfl rfl rfl rfl rfl (by kernel_rfl) Try.func5 (by kernel_rfl)
    (of_decide_eq_true (by kernel_rfl)) (by unfold Func.isWrapper; first | (rw [if_pos (by decide +kernel)]; kernel_rfl) | (rw [if_neg (by decide +kernel)]; exact ⟨rfl, rfl⟩))
    (fun os started H enc _ => codecAgain_lifted os started H enc)

end Go.Proofs.Ytelpmalmknpogaa
