/-
  Layer 8: questions that are handed in; what the laws' loops keep.
-/
import Derived.Test.YtelpmalmknpogaaCodRead
import Derived.Test.YtelpmalmknpogaaEngT
set_option linter.unusedSimpArgs false
set_option linter.unusedVariables false
set_option maxRecDepth 100000
namespace Go.Eng
open Go.RowKit Go.WideShapes Go.ChangeShapes Go.ChangeAt Go.Deep
structure AskR where
  d : Int
  m : Int
  l : UInt64
def askC (a : AskR) : List Value := [int a.d, int a.m, u64 a.l]
def tabK (n : Nat) (f : Nat → AskR) : Cont := .tab n 3 fun k => askC (f k)
structure AskL where
  la : Option Addr
  ln : Nat
  lc : Nat
  lb : Nat
  lo : Nat
  lf : Nat → AskR
def askB (q : AskL) : Blk := ⟨q.lb, false, q.lo, tabK q.ln q.lf⟩
structure OkK (q : AskL) : Prop where
  ad : 0 < q.ln → q.la = some ⟨q.lb, q.lo, none⟩
  len : q.ln ≤ 9223372036854775807
  mh : ∀ k, k < q.ln → (q.lf k).m ≤ 9223372036854775807
def famK (q : AskL) (b : Blk) : Prop := 0 < q.ln ∧ b = askB q
def famBK (x : BytL) (y : AskL) (b : Blk) : Prop := famB x b ∨ famK y b
def askT (P : Program) (e i u : TypeId) : Bool := match P.underlying e with
  | some (.struct fs) => match fs.toList with
    | [f0, f1, f2] => (Nat.beq f0.type i && Nat.beq f0.offset 0) && ((Nat.beq f1.type i && Nat.beq f1.offset 1) && (Nat.beq f2.type u && Nat.beq f2.offset 2))
    | _ => false
  | _ => false
theorem askT_get {P : Program} {e i u : TypeId} (h : askT P e i u = true) : ∃ f0 f1 f2 : Field, P.underlying e = some (.struct #[f0, f1, f2]) ∧ (f0.type = i ∧ f0.offset = 0) ∧ (f1.type = i ∧ f1.offset = 1) ∧ (f2.type = u ∧ f2.offset = 2) := by
  unfold askT at h
  split at h
  · rename_i fs hf
    split at h
    · rename_i f0 f1 f2 hl
      simp only [Bool.and_eq_true] at h
      obtain ⟨⟨a0, b0⟩, ⟨a1, b1⟩, ⟨a2, b2⟩⟩ := h
      refine ⟨f0, f1, f2, ?_, ⟨Nat.eq_of_beq_eq_true a0, Nat.eq_of_beq_eq_true b0⟩, ⟨Nat.eq_of_beq_eq_true a1, Nat.eq_of_beq_eq_true b1⟩, ⟨Nat.eq_of_beq_eq_true a2, Nat.eq_of_beq_eq_true b2⟩⟩
      rw [hf]
      have : fs = #[f0, f1, f2] := by cases fs; simp_all
      rw [this]
    · cases h
  · cases h
section
variable {H : Type} {enc : TypeId × Value → H} {P : Program}
theorem open_asks {r : Reach} {b0 : Nat} {W : World} {base : Nat} {sp : Nat → Bool} {held : Bool} {t e i u : TypeId} {v : Value} {d : DataW H} {ps : List MemPlace} (ht : P.underlying t = some (.slice e)) (he : askT P e i u = true)
    (hi : P.underlying i = some (.int .i64)) (hu : P.underlying u = some (.int .u64)) (ci : P.cellsOf i = 1) (cu : P.cellsOf u = 1) (ce : P.cellsOf e = 3)
    (hval : Value.okWide P W r b0 t v) (hd : DataW.Trod enc P W base sp held t v d ps) : ∃ q : AskL, v = .slice q.la q.ln q.lc ∧ OkK q ∧ FamH (famK q) W := by
  obtain ⟨f0, f1, f2, hst, g0, g1, g2⟩ := askT_get he
  haveI : Inhabited {a : AskR // a.m ≤ 9223372036854775807} := ⟨⟨⟨0, 0, 0⟩, by simp⟩⟩
  rcases open_sliceE (α := {a : AskR // a.m ≤ 9223372036854775807}) (fun a => askC a.1) (sz := 3) (fun _ => rfl) (by decide) ht ce (fun n cs x hl h => by
      obtain ⟨xs, m, _, _, _, hlen, hf⟩ := DataW.trod_struct hst h
      obtain ⟨c0, c1, c2, rfl⟩ : ∃ c0 c1 c2, cs = [c0, c1, c2] := by
        match cs, hl with
        | [c0, c1, c2], _ => exact ⟨c0, c1, c2, rfl⟩
      obtain ⟨y0, y1, y2, rfl⟩ : ∃ y0 y1 y2, xs = [y0, y1, y2] := by
        match xs, hlen with
        | [y0, y1, y2], _ => exact ⟨y0, y1, y2, rfl⟩
      have k0 := hf 0 f0 rfl
      have k1 := hf 1 f1 rfl
      have k2 := hf 2 f2 rfl
      rw [g0.1, g0.2, ci] at k0
      rw [g1.1, g1.2, ci] at k1
      rw [g2.1, g2.2, cu] at k2
      obtain ⟨x0, rfl, l0, h0⟩ := int_cell hi (c := c0) k0
      obtain ⟨x1, rfl, l1, h1⟩ := int_cell hi (c := c1) k1
      obtain ⟨x2, rfl⟩ := u64_cell hu (c := c2) k2
      exact ⟨⟨⟨x0, x1, x2⟩, h1⟩, rfl⟩) hval hd with ⟨ao, c, h0⟩ | ⟨b, o, n, c, f, e1, e2, e3, e4⟩
  · exact ⟨⟨ao, 0, c, 0, 0, fun _ => ⟨0, 0, 0⟩⟩, h0, ⟨fun h => absurd h (Nat.lt_irrefl 0), Nat.zero_le _, fun k hk => absurd hk (Nat.not_lt_zero k)⟩, fun x hx => absurd hx.1 (Nat.lt_irrefl 0)⟩
  · exact ⟨⟨some ⟨b, o, none⟩, n, c, b, o, fun k => (f k).1⟩, e1, ⟨fun _ => rfl, e3, fun k _ => (f k).2⟩, fun x hx => by obtain ⟨_, rfl⟩ := hx; exact ⟨e4, rfl⟩⟩
end
/-! ### errors stay -/
theorem failE_ne {e x : Int} (h : e ≠ 0) : failE e x = e := if_neg h
theorem tkE_ne {q : BytL} {e : Int} {n : Nat} (h : e ≠ 0) : tkE q e n = e := by
  unfold tkE; split
  · exact failE_ne h
  · rfl
theorem ctE1_keep {e m : Int} (h : e ≠ 0) : ctE1 e m = e := by
  unfold ctE1; split
  · exact failE_ne h
  · rfl
theorem rs_keep {q : BytL} {e : Int} {l : UInt64} (h : e ≠ 0) : rsE q e l = e ∧ rsV q e l = 0 := by
  have h1 := rsE_ne (q := q) (l := l) h
  exact ⟨h1, if_neg (by rw [h1]; exact h)⟩
theorem ct_keep {q : BytL} {e m : Int} {z : Nat} (h : e ≠ 0) : ctE q e m z = e ∧ ctN q e m z = 0 := by
  have h1 : ctE1 e m ≠ 0 := by rw [ctE1_keep h]; exact h
  have h2 := rs_keep (q := q) (l := u64i m) h1
  have h3 : ctV q e m = 0 := by unfold ctV; rw [h2.2]; rfl
  unfold ctE ctN
  rw [h3, if_neg (Nat.not_lt_zero _), if_neg (Nat.not_lt_zero _), h2.1, ctE1_keep h]
  exact ⟨rfl, rfl⟩
theorem rn_keep {q : BytL} {e : Int} (h : e ≠ 0) : tkE q e 32 = e ∧ rnV q e = N4.mk 0 0 0 0 := ⟨tkE_ne h, if_neg (by rw [tkE_ne h]; exact h)⟩
theorem rb_keep {q : BytL} {e m : Int} (h : e ≠ 0) : rbE q e m = e ∧ rbN q e m = 0 := by
  have h1 := ct_keep (q := q) (m := m) (z := 1) h
  have h2 : rbE q e m = e := by unfold rbE; rw [h1.1]; exact tkE_ne h
  exact ⟨h2, if_neg (show rbE q e m ≠ 0 by rw [h2]; exact h)⟩
theorem n2_keep {q : BytL} {e m : Int} (h : e ≠ 0) : rsE2 q e m = e ∧ ctN q e m 32 = 0 := by
  have h1 := ct_keep (q := q) (m := m) (z := 32) h
  refine ⟨?_, h1.2⟩
  unfold rsE2; rw [h1.2, h1.1]; rfl
/-- What CodecStays finds. -/
theorem st_gen {D E E' : Int} {w : Nat} {nn : Bool} (hE : E ≠ 0 → E' = E ∧ nn = true) (hD : D ≠ 0 → E = D) : selB (D != 0) (selB (endE w E' != D) true (!nn)) false = false := by
  by_cases h : D = 0
  · subst h; rfl
  · have h1 := hD h
    obtain ⟨h2, h3⟩ := hE (by omega)
    have h4 : endE w E' = D := by unfold endE; rw [if_neg (by omega), h2, h1]
    rw [h4, h3, show (D != D) = false by simp]
    cases (D != 0) <;> rfl
theorem st_bad {E' : Int} {w : Nat} (h : endE w E' ≠ 30) : endE w E' ≠ 0 → E' = endE w E' := fun h0 => by
  unfold endE at h h0 ⊢
  by_cases h1 : E' = 0 ∧ 0 < w
  · rw [if_pos h1] at h; exact absurd rfl h
  · rw [if_neg h1]
theorem st_old {D E E' : Int} (hE : E ≠ 0 → E' = E) (hD : D ≠ 0 → E = D) : D ≠ 0 → E' = D := fun h => by
  have h1 := hD h
  rw [hE (by omega), h1]
end Go.Eng
