/-
  Parameters compared: three numbers each.
-/
import Derived.Test.YtikfnopccneijaaGroupFew
namespace Go.Eng
set_option maxRecDepth 100000
def par3 (x y z : N4) : Array Value := #[u64 x.a, u64 x.b, u64 x.c, u64 x.d, u64 y.a, u64 y.b, u64 y.c, u64 y.d, u64 z.a, u64 z.b, u64 z.c, u64 z.d]
theorem equal_self {P : Program} {t a u : TypeId} {f0 f1 f2 : Field} (hst : P.underlying t = some (.struct #[f0, f1, f2])) (h0 : f0.type = a ∧ f0.offset = 0 ∧ f0.name ≠ "_") (h1 : f1.type = a ∧ f1.offset = 4 ∧ f1.name ≠ "_") (h2 : f2.type = a ∧ f2.offset = 8 ∧ f2.name ≠ "_")
    (hh : P.stoodInHeld t = false) (ha : P.underlying a = some (.array 4 u)) (hu : P.underlying u = some (.int .u64)) (hs : sizeB P u = some 1) (hsa : sizeB P a = some 4) (x y z : N4) :
    pureRun P (Op.equal t (.agg (par3 x y z)) (.agg (par3 x y z))) = some true := by
  have e : ∀ w : N4, pureRun P (Op.equalIn 9999 a (nat4 w) (nat4 w)) = some true := fun w => by
    have h := pureRun_equalIn_arr (P := P) 9997 [(w.a.toNat : Int), w.b.toNat, w.c.toNat, w.d.toNat] [(w.a.toNat : Int), w.b.toNat, w.c.toNat, w.d.toNat] ha hu hs rfl rfl
    rw [show ((List.range 4).all fun i => [(w.a.toNat : Int), w.b.toNat, w.c.toNat, w.d.toNat].getD i 0 == [(w.a.toNat : Int), w.b.toNat, w.c.toNat, w.d.toNat].getD i 0) = true by simp] at h
    exact h
  have ag : pureRun P (isAgg a) = some true := by
    unfold isAgg
    simp [pureRun_bind', pureRun_underlying ha, pureRun, pure]
  have pp : ∀ (o : Nat) (w : N4), (par3 x y z).extract o (o + 4) = #[u64 w.a, u64 w.b, u64 w.c, u64 w.d] → pureRun P (part a (par3 x y z) o) = some (nat4 w) := fun o w hw => by
    unfold part
    rw [pureRun_bind', ag]
    simp only [if_true]
    rw [pureRun_bind', pureRun_sizeOf hsa]
    simp only [hw]
    rfl
  have p0 := pp 0 x rfl
  have p4 := pp 4 y rfl
  have p8 := pp 8 z rfl
  have pg : pureRun P program = some P := rfl
  have pr : ∀ {α : Type} (v : α), pureRun P (pure v : Go.Sem α) = some v := fun _ => rfl
  show pureRun P (Op.equalIn 10000 t (.agg (par3 x y z)) (.agg (par3 x y z))) = some true
  rw [Op.equalIn, pureRun_bind', pureRun_underlying hst]
  simp [pureRun_bind', pg, hh, h0.1, h0.2.1, h0.2.2, h1.1, h1.2.1, h1.2.2, h2.1, h2.2.1, h2.2.2, p0, p4, p8, e, pr]

def parT (P : Program) (e a : TypeId) : Bool := match P.underlying e with
  | some (.struct fs) => match fs.toList with
    | [f0, f1, f2] => (Nat.beq f0.type a && (Nat.beq f0.offset 0 && f0.name != "_")) && ((Nat.beq f1.type a && (Nat.beq f1.offset 4 && f1.name != "_")) && (Nat.beq f2.type a && (Nat.beq f2.offset 8 && f2.name != "_")))
    | _ => false
  | _ => false
theorem parT_get {P : Program} {e a : TypeId} (h : parT P e a = true) : ∃ f0 f1 f2 : Field, P.underlying e = some (.struct #[f0, f1, f2]) ∧ (f0.type = a ∧ f0.offset = 0 ∧ f0.name ≠ "_") ∧ (f1.type = a ∧ f1.offset = 4 ∧ f1.name ≠ "_") ∧ (f2.type = a ∧ f2.offset = 8 ∧ f2.name ≠ "_") := by
  unfold parT at h
  split at h
  · rename_i fs hf
    split at h
    · rename_i f0 f1 f2 hl
      simp only [Bool.and_eq_true] at h
      obtain ⟨⟨a0, b0, c0⟩, ⟨a1, b1, c1⟩, ⟨a2, b2, c2⟩⟩ := h
      refine ⟨f0, f1, f2, ?_, ⟨Nat.eq_of_beq_eq_true a0, Nat.eq_of_beq_eq_true b0, by simpa using c0⟩, ⟨Nat.eq_of_beq_eq_true a1, Nat.eq_of_beq_eq_true b1, by simpa using c1⟩, ⟨Nat.eq_of_beq_eq_true a2, Nat.eq_of_beq_eq_true b2, by simpa using c2⟩⟩
      rw [hf]
      have : fs = #[f0, f1, f2] := by cases fs; simp_all
      rw [this]
    · cases h
  · cases h
theorem is_eql_par {P : Program} {t t' a u : TypeId} {p q : Operand} (ht : parT P t a = true) (hh : P.stoodInHeld t = false) (ha : P.underlying a = some (.array 4 u)) (hu : P.underlying u = some (.int .u64)) (hs : sizeB P u = some 1) (hsa : sizeB P a = some 4) (hg : P.eqGuardType P.depth t = false) (x y z : N4) :
    IsOp P (.binOp .eql t p q t') [.agg (par3 x y z), .agg (par3 x y z)] (.bool true) := by
  obtain ⟨f0, f1, f2, hst, h0, h1, h2⟩ := parT_get ht
  exact isOp_bin (guard_arr hg) (by
    show pureRun P (do pure (Value.bool (← Op.equal t (.agg (par3 x y z)) (.agg (par3 x y z))))) = _
    rw [pureRun_bind', equal_self hst h0 h1 h2 hh ha hu hs hsa]; rfl)
section
open Go.RowKit Go.WideShapes Go.ChangeShapes Go.ChangeAt Go.Deep
variable {H : Type} {enc : TypeId × Value → H} {P : Program}
theorem open_par {r : Reach} {b0 : Nat} {W : World} {base : Nat} {sp : Nat → Bool} {held : Bool} {t a u : TypeId} {v : Value} {d : DataW H} {ps : List MemPlace} (ht : parT P t a = true) (ha : P.underlying a = some (.array 4 u)) (hu : P.underlying u = some (.int .u64))
    (hcu : P.cellsOf u = 1) (hca : P.cellsOf a = 4) (hct : P.cellsOf t = 12) (hval : Value.okWide P W r b0 t v) (hd : DataW.Trod enc P W base sp held t v d ps) : ∃ x y z : N4, v = .agg (par3 x y z) := by
  obtain ⟨f0, f1, f2, hst, h0, h1, h2⟩ := parT_get ht
  obtain ⟨cs, rfl, hsz, _⟩ : ∃ cs, v = .agg cs ∧ cs.size = P.cellsOf t ∧ Row.okWide P W r b0 t cs := by
    simpa [Value.okWide, hst] using hval
  obtain ⟨l⟩ := cs
  obtain ⟨fuel, hf⟩ := hd
  have hl : l.length = 12 := by simpa [hct] using hsz
  obtain ⟨c0, c1, c2, c3, c4, c5, c6, c7, c8, c9, c10, c11, rfl⟩ : ∃ c0 c1 c2 c3 c4 c5 c6 c7 c8 c9 c10 c11, l = [c0, c1, c2, c3, c4, c5, c6, c7, c8, c9, c10, c11] := by
    match l, hl with
    | [c0, c1, c2, c3, c4, c5, c6, c7, c8, c9, c10, c11], _ => exact ⟨c0, c1, c2, c3, c4, c5, c6, c7, c8, c9, c10, c11, rfl⟩
  obtain ⟨xs, m, _, _, _, hlen, hg⟩ := DataW.trod_struct hst hf
  obtain ⟨y0, y1, y2, rfl⟩ : ∃ y0 y1 y2, xs = [y0, y1, y2] := by
    match xs, hlen with
    | [y0, y1, y2], _ => exact ⟨y0, y1, y2, rfl⟩
  have k0 := hg 0 f0 rfl
  have k1 := hg 1 f1 rfl
  have k2 := hg 2 f2 rfl
  rw [h0.1, h0.2.1, hca] at k0
  rw [h1.1, h1.2.1, hca] at k1
  rw [h2.1, h2.2.1, hca] at k2
  obtain ⟨x, e0⟩ := nat4_of_row ha hu hcu (cs := [c0, c1, c2, c3]) rfl k0
  obtain ⟨y, e1⟩ := nat4_of_row ha hu hcu (cs := [c4, c5, c6, c7]) rfl k1
  obtain ⟨z, e2⟩ := nat4_of_row ha hu hcu (cs := [c8, c9, c10, c11]) rfl k2
  simp at e0 e1 e2
  obtain ⟨rfl, rfl, rfl, rfl⟩ := e0
  obtain ⟨rfl, rfl, rfl, rfl⟩ := e1
  obtain ⟨rfl, rfl, rfl, rfl⟩ := e2
  exact ⟨x, y, z, rfl⟩
end

/-! ### what no group begins with -/
theorem bad_fin {P Q G : N4} (hb : ¬ GoodG P Q G) (hP : OddM P) (hQ : OddM Q) (h5 : (selB false true (decide ((cmp4 P (N4.mk 5 0 0 0)) < 0))) = false) (hl : (selB false true (decide ((cmp4 Q P : Int) ≥ 0))) = false) (hG : eq4 G (N4.mk 1 0 0 0) = false) : memB P Q G = false := by
  cases hm : memB P Q G with
  | false => rfl
  | true =>
    refine absurd ⟨hP, ?_, hQ, ?_, hG, hm⟩ hb
    · change decide (cmp4 P (N4.mk 5 0 0 0) < 0) = false at h5
      rw [decide_eq_false_iff_not, cmp4_val] at h5
      have : (N4.mk 5 0 0 0).val = 5 := rfl
      omega
    · change decide ((cmp4 Q P : Int) ≥ 0) = false at hl
      rw [decide_eq_false_iff_not] at hl
      exact (cmp4_val Q P).1 (by omega)
end Go.Eng
namespace Go.Eng
theorem rchk_c1 {P Q G : N4} (h : GoodG P Q G) : (selB (selB (selB (P.a % 2 == 0) true (decide ((cmp4 P (N4.mk 5 0 0 0)) < 0))) true (eq4 Q (N4.mk 2 0 0 0))) true (decide ((cmp4 Q P : Int) ≥ 0))) = false := by
  have h1 := good_five h
  have h2 := good_lt h
  change decide (cmp4 P (N4.mk 5 0 0 0) < 0) = false at h1
  change decide ((cmp4 Q P : Int) ≥ 0) = false at h2
  have h3 : eq4 Q (N4.mk 2 0 0 0) = false := by
    cases e : eq4 Q (N4.mk 2 0 0 0) with
    | false => rfl
    | true => have := h.oq.odd; rw [eq4_eq e] at this; exact absurd this (by decide)
  rw [low0_odd h.op, h1, h2, h3]; rfl
theorem rchk_c2 {P Q G : N4} (h : GoodG P Q G) : (selB (selB (decide ((cmp4 G (N4.mk 2 0 0 0)) < 0)) true (decide ((cmp4 G P : Int) ≥ 0))) true (!(eq4 (powM P G Q) (N4.mk 1 0 0 0)))) = false := by
  obtain ⟨⟨h1, h2⟩, h3⟩ := (memB_iff h.op).1 h.mem
  have e1 : decide (cmp4 G (N4.mk 2 0 0 0) < 0) = false := by
    rw [decide_eq_false_iff_not, cmp4_val]
    have h4 : (N4.mk 2 0 0 0).val = 2 := rfl
    have h5 : G.val ≠ 1 := fun e => by
      have : eq4 G (N4.mk 1 0 0 0) = true := (eq4_iff _ _).2 (N4.ext_val e)
      rw [h.ne] at this; cases this
    omega
  have e2 : decide ((cmp4 G P : Int) ≥ 0) = false := by
    rw [decide_eq_false_iff_not]
    have := (cmp4_val G P).2 h2
    omega
  have e3 : eq4 (powM P G Q) (N4.mk 1 0 0 0) = true := (eq4_iff _ _).2 (base_q h)
  rw [e1, e2, e3]; rfl
theorem rchk_c3 {P Q : N4} (h : ¬ OddM P) : (selB (selB (selB (P.a % 2 == 0) true (decide ((cmp4 P (N4.mk 5 0 0 0)) < 0))) true (eq4 Q (N4.mk 2 0 0 0))) true (decide ((cmp4 Q P : Int) ≥ 0))) = true := by
  have h1 := rstep_evn_c h
  cases e : P.a % 2 == 0 with
  | true => rfl
  | false =>
    rw [e] at h1
    change decide (cmp4 P (N4.mk 3 0 0 0) < 0) = true at h1
    rw [decide_eq_true_eq, cmp4_val] at h1
    have h2 : decide (cmp4 P (N4.mk 5 0 0 0) < 0) = true := by
      rw [decide_eq_true_eq, cmp4_val]
      have h3 : (N4.mk 3 0 0 0).val = 3 := rfl
      have h5 : (N4.mk 5 0 0 0).val = 5 := rfl
      omega
    rw [h2]; rfl
theorem rchk_c4 {q : PrfL} {P Q G : N4} (hp : prvE q Q = 0) (hP : OddM P) (hb : ¬ GoodG P Q G) (h : (selB (selB (selB (P.a % 2 == 0) true (decide ((cmp4 P (N4.mk 5 0 0 0)) < 0))) true (eq4 Q (N4.mk 2 0 0 0))) true (decide ((cmp4 Q P : Int) ≥ 0))) = false) :
    (selB (selB (decide ((cmp4 G (N4.mk 2 0 0 0)) < 0)) true (decide ((cmp4 G P : Int) ≥ 0))) true (!(eq4 (powM P G Q) (N4.mk 1 0 0 0)))) = true := by
  simp only [selB_or, Bool.or_eq_false_iff] at h
  obtain ⟨⟨⟨_, h1⟩, h2⟩, h3⟩ := h
  cases e : (selB (selB (decide ((cmp4 G (N4.mk 2 0 0 0)) < 0)) true (decide ((cmp4 G P : Int) ≥ 0))) true (!(eq4 (powM P G Q) (N4.mk 1 0 0 0)))) with
  | true => rfl
  | false =>
    exfalso
    simp only [selB_or, Bool.or_eq_false_iff, decide_eq_false_iff_not, Bool.not_eq_false'] at e
    obtain ⟨⟨e1, e2⟩, e3⟩ := e
    have hQ : OddM Q := by
      rcases odd_fin hp with h4 | h4
      · rw [h4] at h2; exact absurd h2 (by decide)
      · exact h4
    rw [cmp4_val] at e1
    have h4 : (N4.mk 2 0 0 0).val = 2 := rfl
    have hG : eq4 G (N4.mk 1 0 0 0) = false := by
      cases e5 : eq4 G (N4.mk 1 0 0 0) with
      | false => rfl
      | true => rw [eq4_eq e5] at e1; exact absurd (by decide) e1
    have hlt : G.val < P.val := (cmp4_val G P).1 (by omega)
    have hm := bad_fin hb hP hQ (show (selB false true _) = false from h1) (show (selB false true _) = false from h3) hG
    have hm2 : memB P Q G = true := by
      unfold memB
      rw [inB_iff.2 ⟨by omega, hlt⟩, e3]; rfl
    rw [hm] at hm2; cases hm2
end Go.Eng
