/-
  Many in one: JouB, JouC.
-/
import Derived.Test.YtagbdahcopkpjaaDoorZJournalWrites15
import Derived.ChangeArms
section
namespace Go.Eng
open Go.RowKit Go.WideShapes Go.ChangeShapes Go.ChangeAt Go.Deep
set_option linter.unusedSimpArgs false
set_option linter.unusedVariables false
set_option maxRecDepth 100000
structure JOp where
  b : BytL
  n : Int
  t : Bool
  a : Bool
instance : Inhabited JOp := ⟨⟨bytZ none 0, 0, false, false⟩⟩
def jopC (y : JOp) : List Value := [slqV y.b, int y.n, .bool y.t, .bool y.a]
theorem jopC_ok (y : JOp) : (jopC y).length = 4 ∧ (jopC y).all Value.oneCell' = true := ⟨rfl, rfl⟩
def tabJ (n : Nat) (f : Nat → JOp) : Cont := .tab n 4 fun k => jopC (f k)
structure JOps where
  wa : Option Addr
  wn : Nat
  wc : Nat
  wb : Nat
  wo : Nat
  wf : Nat → JOp
def jopB (x : JOps) : Blk := ⟨x.wb, false, x.wo, tabJ x.wn x.wf⟩
structure OkJ (x : JOps) : Prop where
  ad : 0 < x.wn → x.wa = some ⟨x.wb, x.wo, none⟩
  len : x.wn ≤ 9223372036854775807
  el : ∀ k, k < x.wn → OkB (x.wf k).b ∧ -9223372036854775808 ≤ (x.wf k).n ∧ (x.wf k).n ≤ 9223372036854775807
def famJ (x : JOps) (z : Blk) : Prop := (0 < x.wn ∧ z = jopB x) ∨ ∃ k, k < x.wn ∧ famB (x.wf k).b z
def famTJ (x : JOps) (z : Blk) : Prop := famT z ∨ famJ x z
theorem famTJ_one {x : JOps} {i : Nat} (hi : i < x.wn) : ∀ z, famB (x.wf i).b z → famTJ x z := fun z hz => .inr (.inr ⟨i, hi, hz⟩)
section
variable {H : Type} {enc : TypeId × Value → H} {P : Program}
def jpB (P : Program) (e s i b : TypeId) : Bool := match P.underlying e with
  | some (.struct fs) => match fs.toList with
    | [f0, f1, f2, f3] => (Nat.beq f0.type s && Nat.beq f0.offset 0) && ((Nat.beq f1.type i && Nat.beq f1.offset 1) && ((Nat.beq f2.type b && Nat.beq f2.offset 2) && (Nat.beq f3.type b && Nat.beq f3.offset 3)))
    | _ => false
  | _ => false
theorem jpB_get {P : Program} {e s i b : TypeId} (h : jpB P e s i b = true) : ∃ f0 f1 f2 f3 : Field, P.underlying e = some (.struct #[f0, f1, f2, f3]) ∧ (f0.type = s ∧ f0.offset = 0) ∧ (f1.type = i ∧ f1.offset = 1) ∧ (f2.type = b ∧ f2.offset = 2) ∧ (f3.type = b ∧ f3.offset = 3) := by
  unfold jpB at h
  split at h
  · rename_i fs hf
    split at h
    · rename_i f0 f1 f2 f3 hl
      simp only [Bool.and_eq_true] at h
      obtain ⟨⟨a0, b0⟩, ⟨a1, b1⟩, ⟨a2, b2⟩, ⟨a3, b3⟩⟩ := h
      refine ⟨f0, f1, f2, f3, ?_, ⟨Nat.eq_of_beq_eq_true a0, Nat.eq_of_beq_eq_true b0⟩, ⟨Nat.eq_of_beq_eq_true a1, Nat.eq_of_beq_eq_true b1⟩, ⟨Nat.eq_of_beq_eq_true a2, Nat.eq_of_beq_eq_true b2⟩, ⟨Nat.eq_of_beq_eq_true a3, Nat.eq_of_beq_eq_true b3⟩⟩
      rw [hf]
      have : fs = #[f0, f1, f2, f3] := by cases fs; simp_all
      rw [this]
    · cases h
  · cases h
def GJ (W : World) (y : JOp) : Prop := OkB y.b ∧ FamH (famB y.b) W ∧ -9223372036854775808 ≤ y.n ∧ y.n ≤ 9223372036854775807
theorem open_jops {r : Reach} {b0 : Nat} {W : World} {base : Nat} {sp : Nat → Bool} {held : Bool} {t e s u i b : TypeId} {v : Value} {d : DataW H} {ps : List MemPlace} (ht : P.underlying t = some (.slice e)) (he : jpB P e s i b = true)
    (hs : P.underlying s = some (.slice u)) (hu : P.underlying u = some (.int .u8)) (hi : P.underlying i = some (.int .i64)) (hb : P.underlying b = some .bool) (cs : P.cellsOf s = 1) (cu : P.cellsOf u = 1) (ci : P.cellsOf i = 1) (cb : P.cellsOf b = 1) (ce : P.cellsOf e = 4)
    (hval : Value.okWide P W r b0 t v) (hd : DataW.Trod enc P W base sp held t v d ps) : ∃ x : JOps, v = .slice x.wa x.wn x.wc ∧ OkJ x ∧ FamH (famJ x) W := by
  obtain ⟨f0, f1, f2, f3, hst, g0, g1, g2, g3⟩ := jpB_get he
  have hin : Inhabited {y : JOp // GJ W y} := ⟨⟨⟨bytZ none 0, 0, false, false⟩, okb_nil, holdb_nil, by decide, by decide⟩⟩
  rcases open_sliceE (α := {y : JOp // GJ W y}) (fun y => jopC y.1) (sz := 4) (fun a => (jopC_ok a.1).1) (by decide) ht ce (fun n cs' x hl h => by
    obtain ⟨xs, m, _, _, _, hlen, hf⟩ := DataW.trod_struct hst h
    obtain ⟨c0, c1, c2, c3, rfl⟩ : ∃ c0 c1 c2 c3, cs' = [c0, c1, c2, c3] := by
      match cs', hl with
      | [c0, c1, c2, c3], _ => exact ⟨c0, c1, c2, c3, rfl⟩
    obtain ⟨y0, y1, y2, y3, rfl⟩ : ∃ y0 y1 y2 y3, xs = [y0, y1, y2, y3] := by
      match xs, hlen with
      | [y0, y1, y2, y3], _ => exact ⟨y0, y1, y2, y3, rfl⟩
    have k0 := hf 0 f0 rfl
    have k1 := hf 1 f1 rfl
    have k2 := hf 2 f2 rfl
    have k3 := hf 3 f3 rfl
    rw [g0.1, g0.2, cs] at k0
    rw [g1.1, g1.2, ci] at k1
    rw [g2.1, g2.2, cb] at k2
    rw [g3.1, g3.2, cb] at k3
    obtain ⟨q, rfl, hq, hF⟩ := bytes_cell (v := c0) hs hu cu k0
    obtain ⟨x1, rfl, l1, h1⟩ := int_cell hi (c := c1) k1
    obtain ⟨x2, e2, _⟩ := DataW.trod_bool hb k2
    obtain ⟨x3, e3, _⟩ := DataW.trod_bool hb k3
    simp at e2 e3
    subst e2 e3
    exact ⟨⟨⟨q, x1, x2, x3⟩, hq, hF, l1, h1⟩, rfl⟩) hval hd with ⟨ao, c, rfl⟩ | ⟨b', o, n, c, f, rfl, hn, hl, hH⟩
  · exact ⟨⟨ao, 0, c, 0, 0, fun _ => default⟩, rfl, ⟨fun h => absurd h (Nat.lt_irrefl 0), Nat.zero_le _, fun k hk => absurd hk (Nat.not_lt_zero k)⟩, fun z hz => by
      rcases hz with ⟨h0, _⟩ | ⟨k, hk, _⟩
      · exact absurd h0 (Nat.lt_irrefl 0)
      · exact absurd hk (Nat.not_lt_zero k)⟩
  · refine ⟨⟨some ⟨b', o, none⟩, n, c, b', o, fun k => (f k).1⟩, rfl, ⟨fun _ => rfl, hl, fun k _ => ⟨(f k).2.1, (f k).2.2.2⟩⟩, fun z hz => ?_⟩
    rcases hz with ⟨_, rfl⟩ | ⟨k, _, hz⟩
    · exact ⟨hH, rfl⟩
    · exact (f k).2.2.1 z hz
end
def cutW (A : Grw UInt8) (k : Nat) : Grw UInt8 := ⟨A.z, A.nm, k, A.n + A.r - k, A.f⟩
theorem cutW_ok {A : Grw UInt8} (hA : A.ok) {k : Nat} (hk : k ≤ A.n) : (cutW A k).ok := fun h => by
  have := hA h
  show k = 0
  omega
theorem cutW_V {A : Grw UInt8} {k : Nat} (hk : k ≤ A.n) : gsV (cutW A k) = .slice (gsA A) k (gsC A) := by
  unfold gsV gsA gsC cutW
  cases A.z with
  | true => rfl
  | false => show Value.slice _ k (k + (A.n + A.r - k)) = _; rw [show k + (A.n + A.r - k) = A.n + A.r by omega]
theorem cutW_B {A : Grw UInt8} {k : Nat} (hk : k ≤ A.n) : gw (cutW A k) = gw A := by
  unfold gw cutW
  cases A.z with
  | true => rfl
  | false => show some (Blk.mk A.nm true 0 (tabF (k + (A.n + A.r - k)) _)) = _; rw [show k + (A.n + A.r - k) = A.n + A.r by omega]
theorem recW_fam {D : Grw UInt8} (h : D.ok) {w : World} (hb : ∀ b, roO (gw D) = some b → Holds b w) : FamH (famB (recD D)) w := fun b hb' => by
  obtain ⟨h0, rfl⟩ := hb'
  have hz := h.pos h0
  have h1 := hb ⟨D.nm, false, 0, tabF (D.n + D.r) fun k => u8 (D.f k)⟩ (by rw [gw_own hz]; rfl)
  refine ⟨h1.recont rfl fun o v hv => ?_, rfl⟩
  have hv' : (tabF D.n fun k => u8 (D.f k)).get o = some v := hv
  by_cases ho : o < D.n
  · rw [tabF_in ho] at hv'
    rw [tabF_in (by omega)]; exact hv'
  · rw [tabF_out ho] at hv'; cases hv'
end Go.Eng
end
section
namespace Go.Eng
open Go.RowKit
set_option linter.unusedSimpArgs false
set_option linter.unusedVariables false
set_option maxRecDepth 100000
section
variable {P : Program} {x y : Operand} {ts : Array TypeId}
theorem is_minI (a : Int) (n : Nat) : IsOp P (.call { callee := .builtin .min, args := #[x, y], argTypes := ts }) [int a, nat n] (int (min a (n : Int))) := by
  intro ρ o ho hv
  rw [ho] at hv
  have hv' : ρ x = int a ∧ ρ y = nat n := by simpa [Op.operands, Call.operands] using hv
  unfold execOp
  rw [ho]
  show pureRun P ((Builtin.min_ ts o.type (#[x, y].map ρ)) >>= fun v => (pure (Next.value v) : Sem Next)) = _
  have e1 : (#[x, y].map ρ : Array Value) = #[int a, nat n] := by simp [hv'.1, hv'.2]
  have e2 : pureRun P (Builtin.min_ ts o.type #[int a, nat n]) = some (int (min a (n : Int))) := by
    show some (Value.int .i64 (if ((n : Int) < a) then (n : Int) else a)) = _
    unfold int
    congr 2
    split <;> omega
  rw [e1, pureRun_bind', e2]
  rfl
theorem is_0max (a : Int) : IsOp P (.call { callee := .builtin .max, args := #[x, y], argTypes := ts }) [int 0, int a] (nat a.toNat) := by
  intro ρ o ho hv
  rw [ho] at hv
  have hv' : ρ x = int 0 ∧ ρ y = int a := by simpa [Op.operands, Call.operands] using hv
  unfold execOp
  rw [ho]
  show pureRun P ((Builtin.max_ ts o.type (#[x, y].map ρ)) >>= fun v => (pure (Next.value v) : Sem Next)) = _
  have e1 : (#[x, y].map ρ : Array Value) = #[int 0, int a] := by simp [hv'.1, hv'.2]
  have e2 : pureRun P (Builtin.max_ ts o.type #[int 0, int a]) = some (nat a.toNat) := by
    show some (Value.int .i64 (if ((0 : Int) < a) then a else (0 : Int))) = _
    unfold nat
    congr 2
    split <;> omega
  rw [e1, pureRun_bind', e2]
  rfl
theorem is_0maxMin (a : Int) (n : Nat) : IsOp P (.call { callee := .builtin .max, args := #[x, y], argTypes := ts }) [int 0, int (min a (n : Int))] (nat (min a.toNat n)) := by
  have h := is_0max (P := P) (x := x) (y := y) (ts := ts) (min a (n : Int))
  rw [show (min a (n : Int)).toNat = min a.toNat n by omega] at h
  exact h
theorem is_0max0 (a : Int) : IsOp P (.call { callee := .builtin .max, args := #[x, y], argTypes := ts }) [int 0, int (min a ((0 : Nat) : Int))] (int 0) := by
  have h := is_0max (P := P) (x := x) (y := y) (ts := ts) (min a ((0 : Nat) : Int))
  rw [show (min a ((0 : Nat) : Int)).toNat = 0 by omega] at h
  exact h
end
theorem is_addW {P : Program} {t t' : TypeId} {x y : Operand} (a b : Nat) : IsOp P (.binOp .add t x y t') [nat a, nat b] (int (IntKind.i64.wrap ((a : Int) + (b : Int)))) := isOp_bin guard_int rfl
theorem is_cutW {P : Program} {t e : TypeId} {x y : Operand} (ht : P.underlying t = some (.slice e)) (hs : sizeB P e = some 1) (A : Grw UInt8) (hA : A.ok) (k : Nat) (hk : k ≤ A.n) : IsOp P (.slice t x none (some y) none) [gsV A, nat k] (gsV (cutW A k)) := by
  rw [cutW_V hk]
  exact is_slqTo ht hs (gsA A) A.n (gsC A) k (gs_to hA hk)
theorem spr_headW {b n r m : Nat} {f : Nat → UInt8} {z : Value} (h : m ≤ n) : 0 < m → ∃ kk bo os S, (some ⟨b, 0, none⟩ : Option Addr) = some ⟨kk, bo + os, none⟩ ∧ (some ⟨b, false, 0, spr (n + r) n (fun k => u8 (f k)) z⟩ : Option Blk) = some ⟨kk, false, bo, S⟩ ∧ ∀ j, j < m → S.get (os + j) = some (u8 (f j)) := fun _ => by
  refine ⟨b, 0, 0, _, rfl, rfl, fun j hj => ?_⟩
  rw [Nat.zero_add, spr, tabF_in (by omega), if_pos (by omega)]
def reF (D : Grw UInt8) (F : Nat → UInt8) : Grw UInt8 := ⟨D.z, D.nm, D.n, D.r, F⟩
theorem reF_ok {D : Grw UInt8} (h : D.ok) (F : Nat → UInt8) : (reF D F).ok := h
theorem reF_B {D : Grw UInt8} {F : Nat → UInt8} (h : ∀ k, k < D.n → F k = D.f k) : gsE u8C [u8 0] 1 D = gsE u8C [u8 0] 1 (reF D F) := (gsE_row (A := D) (A' := reF D F) rfl rfl rfl rfl h).symm
theorem gsE_ownT {A : Grw UInt8} {b : Blk} (h : gsE u8C [u8 0] 1 A = some b) : b.own = true := by
  unfold gsE at h
  cases hz : A.z with
  | true => rw [hz] at h; cases h
  | false => rw [hz] at h; injection h with h; rw [← h]
theorem ownJ {x b : Blk} (hx : x.own = true) (h : some x = some b) : b.own = true := by injection h with h; rw [← h]; exact hx
def WrR (D E : Grw UInt8) (B : Nat) : Prop := D.ok ∧ E.ok ∧ D.f = E.f ∧ D.n = E.n ∧ E.n ≤ B
theorem wr_zero : WrR D0 D0 0 := ⟨fun _ => rfl, fun _ => rfl, rfl, rfl, Nat.le_refl _⟩
theorem wr_agree {D E : Grw UInt8} {B m a r a' r' c : Nat} {h : Nat → UInt8} (hw : WrR D E B) : ∀ k, k < (Grw.cat D m h a r).n → (Grw.wet E m h a' r' c).f k = (Grw.cat D m h a r).f k := fun k hk => by
  obtain ⟨_, _, h3, h4, _⟩ := hw
  have hk' : k < D.n + m := hk
  show wetF E.f E.n h m c k = catU D.f D.n h k
  rw [wetF_lt (by omega), h3, h4]
theorem wr_cat {D E : Grw UInt8} {B B' m a r a' r' c : Nat} {h : Nat → UInt8} (hw : WrR D E B) (hm : B + m ≤ B') : WrR (reF (Grw.cat D m h a r) (Grw.wet E m h a' r' c).f) (Grw.wet E m h a' r' c) B' :=
  ⟨reF_ok (Grw.cat_ok hw.1 _ _ _ _) _, wet_ok hw.2.1 _ _ _ _ _, rfl, (show D.n + m = E.n + m by rw [hw.2.2.2.1]), (show E.n + m ≤ B' from by have := hw.2.2.2.2; omega)⟩
theorem wr_more {D E : Grw UInt8} {B B' : Nat} (hw : WrR D E B) (h : B ≤ B') : WrR D E B' := ⟨hw.1, hw.2.1, hw.2.2.1, hw.2.2.2.1, Nat.le_trans hw.2.2.2.2 h⟩
theorem wr_open {D E : Grw UInt8} {B a r k : Nat} (hw : WrR D E B) (hB : B ≤ 9223372036854775807) (hk : k = atK E.f (nR E.f E.n)) : WrR (opG (recD D) a r) (cutW E k) B := by
  subst hk
  have hq : OkB (recD D) := recD_ok hw.1 (by have h1 := hw.2.2.2.1; have h2 := hw.2.2.2.2; omega)
  have h1 := (nR_good E.f E.n).1
  exact ⟨opG_ok hq _ _, cutW_ok hw.2.1 h1, hw.2.2.1, (show atK D.f (nR D.f D.n) = atK E.f (nR E.f E.n) by rw [hw.2.2.1, hw.2.2.2.1]), Nat.le_trans h1 hw.2.2.2.2⟩
theorem wr_K {D E : Grw UInt8} {B : Nat} (hw : WrR D E B) : nR D.f D.n = nR E.f E.n := by rw [hw.2.2.1, hw.2.2.2.1]
theorem wr_len {D E : Grw UInt8} {B : Nat} (hw : WrR D E B) : (!decide (nR D.f D.n = nR E.f E.n)) = false := by rw [decide_eq_true (wr_K hw)]; rfl
theorem wr_lists {D E : Grw UInt8} {B c d nm r nm' r' : Nat} (hw : WrR D E B) : listsB (recS (gsOf (nR D.f D.n) (elF c d (jL D.f) (jf D.f)) nm r)) (recS (gsOf (nR E.f E.n) (rpF (recD E)) nm' r')) = true :=
  own_ref (q := recD E) (wr_K hw) (congrArg jL hw.2.2.1) (congrArg jf hw.2.2.1)
theorem wr_same {D E : Grw UInt8} {B : Nat} (hw : WrR D E B) : sameS D.f D.n E.f E.n = true := same_refl hw.2.2.2.1 hw.2.2.1
theorem recS_refW {E : Grw UInt8} {nm r : Nat} (hE : OkB (recD E)) (h : E.n ≤ 9223372036854775807) : OkS (recS (gsOf (nR E.f E.n) (rpF (recD E)) nm r)) := recS_ref hE h
def fstJ (vs : List Value) : Value := match vs with
  | v :: _ => v
  | [] => undef
theorem is_appNilJ {P : Program} {t e : TypeId} {sz : Nat} {x y : Operand} (ht : P.underlying t = some (.slice e)) (hs : sizeB P e = some sz) (a : Option Addr) (n c : Nat) (hn : n ≤ c) :
    IsOp P (.call { callee := .builtin .append, args := #[x, y], argTypes := #[t, t] }) [.slice a n c, .slice none 0 0] (.slice a n c) := by
  intro ρ o ho hv
  rw [ho] at hv
  have hv' : ρ x = .slice a n c ∧ ρ y = .slice none 0 0 := by simpa [Op.operands, Call.operands] using hv
  unfold execOp
  rw [ho]
  show pureRun P ((Builtin.append_ #[t, t] o.type (#[x, y].map ρ)) >>= fun v => (pure (Next.value v) : Sem Next)) = _
  have e1 : (#[x, y].map ρ : Array Value) = #[.slice a n c, .slice none 0 0] := by simp [hv'.1, hv'.2]
  have e2 : pureRun P (Builtin.append_ #[t, t] o.type #[.slice a n c, .slice none 0 0]) = some (.slice a n c) := by
    have hpure : ∀ {α : Type} (a : α), pureRun P (pure a : Sem α) = some a := fun _ => rfl
    cases a <;> simp [Builtin.append_, pureRun_bind', pureRun_underlying ht, pureRun_sizeOf hs, hn, Builtin.lenOf, Builtin.firstCells, storeCells, hpure]
  rw [e1, pureRun_bind', e2]
  rfl
end Go.Eng
end
