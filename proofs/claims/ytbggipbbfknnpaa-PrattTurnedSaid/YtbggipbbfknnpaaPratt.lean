/-
  Layer 4: factors and proofs in memory; what the functions tell, as plain words.
-/
import Derived.Test.YtbggipbbfknnpaaEngZ
import Derived.Test.YtbggipbbfknnpaaEngY
import Derived.Test.YtbggipbbfknnpaaMaps
import Derived.Test.YtbggipbbfknnpaaMontLaws
import Derived.Test.YtbggipbbfknnpaaMontRef
namespace Go.Eng
open Go.RowKit Go.WideShapes Go.ChangeShapes Go.ChangeAt Go.Deep
set_option linter.unusedSimpArgs false
set_option linter.unusedVariables false
set_option maxRecDepth 100000

/-! ### rows -/
structure FacR where
  p : N4
  e : Int
def facC (r : FacR) : List Value := [u64 r.p.a, u64 r.p.b, u64 r.p.c, u64 r.p.d, int r.e]
theorem facC_ok (r : FacR) : (facC r).length = 5 ∧ (facC r).all Value.oneCell' = true := ⟨rfl, rfl⟩
def tabA (n : Nat) (f : Nat → FacR) : Cont := .tab n 5 fun k => facC (f k)
structure PrfR where
  n : N4
  g : N4
  wa : Option Addr
  wn : Nat
  wc : Nat
  wb : Nat
  wo : Nat
  wf : Nat → FacR
def prfC (r : PrfR) : List Value := [u64 r.n.a, u64 r.n.b, u64 r.n.c, u64 r.n.d, u64 r.g.a, u64 r.g.b, u64 r.g.c, u64 r.g.d, .slice r.wa r.wn r.wc]
def tabR (n : Nat) (f : Nat → PrfR) : Cont := .tab n 9 fun k => prfC (f k)
def prfB (r : PrfR) : Blk := ⟨r.wb, false, r.wo, tabA r.wn r.wf⟩
structure OkF (r : FacR) : Prop where
  el : -9223372036854775808 ≤ r.e
  eh : r.e ≤ 9223372036854775807
structure OkR (r : PrfR) : Prop where
  ad : 0 < r.wn → r.wa = some ⟨r.wb, r.wo, none⟩
  len : r.wn ≤ 9223372036854775807
  fac : ∀ k, OkF (r.wf k)
def famR (r : PrfR) (b : Blk) : Prop := 0 < r.wn ∧ b = prfB r
theorem famR_at {r : PrfR} {i : Nat} (h : i < r.wn) : famR r (prfB r) := ⟨by omega, rfl⟩
structure PrfL where
  la : Option Addr
  ln : Nat
  lc : Nat
  lb : Nat
  lo : Nat
  lf : Nat → PrfR
def lisB (q : PrfL) : Blk := ⟨q.lb, false, q.lo, tabR q.ln q.lf⟩
structure OkL (q : PrfL) : Prop where
  cap : q.ln ≤ q.lc
  ad : 0 < q.ln → q.la = some ⟨q.lb, q.lo, none⟩
  len : q.ln ≤ 9223372036854775807
  prf : ∀ k, OkR (q.lf k)
def famL (q : PrfL) (b : Blk) : Prop := (0 < q.ln ∧ b = lisB q) ∨ ∃ k, k < q.ln ∧ famR (q.lf k) b
theorem famL_at {q : PrfL} {i : Nat} (h : i < q.ln) : famL q (lisB q) := .inl ⟨by omega, rfl⟩
theorem famL_in {q : PrfL} {i : Nat} (h : i < q.ln) {b : Blk} (hb : famR (q.lf i) b) : famL q b := .inr ⟨i, h, hb⟩
theorem famL_fac {q : PrfL} {i k : Nat} (h : i < q.ln) (hk : k < (q.lf i).wn) : famL q (prfB (q.lf i)) := famL_in h (famR_at hk)
def frow1 (a : FacR) : Nat → FacR := fun _ => a
def frow2 (a b : FacR) : Nat → FacR := fun k => if k = 0 then a else b
theorem to_frow1 (a : FacR) : ∀ o v, (tabA 1 (frow1 a)).get o = some v → (Cont.lit [u64 a.p.a, u64 a.p.b, u64 a.p.c, u64 a.p.d, int a.e]).get o = some v := fun o v h => by
  rcases o with _ | _ | _ | _ | _ | o <;> first | exact h | (rw [tabA, tabE_out (by omega)] at h; cases h)
theorem to_frow2 (a b : FacR) : ∀ o v, (tabA 2 (frow2 a b)).get o = some v → (Cont.lit [u64 a.p.a, u64 a.p.b, u64 a.p.c, u64 a.p.d, int a.e, u64 b.p.a, u64 b.p.b, u64 b.p.c, u64 b.p.d, int b.e]).get o = some v := fun o v h => by
  rcases o with _ | _ | _ | _ | _ | _ | _ | _ | _ | _ | o <;> first | exact h | (rw [tabA, tabE_out (by omega)] at h; cases h)
def rrow1 (a : PrfR) : Nat → PrfR := fun _ => a
def rrow2 (a b : PrfR) : Nat → PrfR := fun k => if k = 0 then a else b
theorem to_rrow1 (a : PrfR) : ∀ o v, (tabR 1 (rrow1 a)).get o = some v → (Cont.lit (prfC a)).get o = some v := fun o v h => by
  rcases o with _ | _ | _ | _ | _ | _ | _ | _ | _ | o <;> first | exact h | (rw [tabR, tabE_out (by omega)] at h; cases h)
theorem to_rrow2 (a b : PrfR) : ∀ o v, (tabR 2 (rrow2 a b)).get o = some v → (Cont.lit (prfC a ++ prfC b)).get o = some v := fun o v h => by
  rcases o with _ | _ | _ | _ | _ | _ | _ | _ | _ | _ | _ | _ | _ | _ | _ | _ | _ | _ | o <;> first | exact h | (rw [tabR, tabE_out (by omega)] at h; cases h)

/-! ### calls beside blocks that are only read -/
theorem Runs.toF {F : Blk → Prop} {P : Program} {f : FuncId} {args : List Value} {bs : List Blk} {k : Nat} {v : List Nat → Value} {out : List Nat → List (Option Blk)} (h : Runs P f args bs k v out) : RunsF F P f args bs k v out :=
  fun w hb ha _ => h w hb ha
theorem RunsF.mono {F F' : Blk → Prop} {P : Program} {f : FuncId} {args : List Value} {bs : List Blk} {k : Nat} {v : List Nat → Value} {out : List Nat → List (Option Blk)} (hs : ∀ b, F b → F' b) (h : RunsF F P f args bs k v out) : RunsF F' P f args bs k v out :=
  fun w hb ha hF => h w hb ha fun b hb' => hF b (hs b hb')
def noneL : List Blk → List (Option Blk)
  | [] => []
  | _ :: r => none :: noneL r
theorem noneL_get : ∀ (l : List Blk) (p : Nat) (b : Blk), listMem (noneL l) p ≠ some b
  | [], p, b => by simp [noneL, listMem]
  | _ :: r, 0, b => by simp [noneL, listMem]
  | _ :: r, p + 1, b => noneL_get r p b
/-- A call that only reads, of finitely many blocks. -/
theorem RunsF.read {F : Blk → Prop} {P : Program} {f : FuncId} {args : List Value} {cs : List Blk} {v : Value} (h : RunsF F P f args [] 0 (fun _ => v) (fun _ => []))
    (hF : ∀ w : World, (∀ b ∈ cs, Holds b w) → ∀ b, F b → Holds b w ∧ b.own = false) (hb : ∀ b ∈ cs, b.own = false) : Runs P f args cs 0 (fun _ => v) (fun _ => noneL cs) := by
  intro w hm ha
  have hno : ∀ k, ¬ Owns (listMem (([] : List Blk).map some)) k := fun k ⟨p, b, h1, h2, _⟩ => by cases h1
  refine Calls.mono (h w (fun b hb' => by cases hb') (fun p q b c _ hpb _ ho => by cases hpb) (fun b hFb => ⟨(hF w hm b hFb).1, (hF w hm b hFb).2, hno _⟩)) ?_
  rintro e w' ⟨ns, hns, he, hp⟩
  refine ⟨ns, hns, he, ⟨fun p b hpb => absurd hpb (noneL_get _ _ _), fun p q b c _ hpb _ _ => absurd hpb (noneL_get _ _ _), ⟨hp.adv.os, hp.adv.output, hp.adv.tape, hp.adv.size, fun k hk _ => hp.adv.heap k hk (hno k), fun k ⟨p, b, h1, _, _⟩ => absurd h1 (noneL_get _ _ _), fun p b hpb _ => absurd hpb (noneL_get _ _ _)⟩⟩⟩

/-! ### an element of a slice that is told by three words -/
section
variable {P : Program} {t e : TypeId} {x ix : Operand}
theorem is_ixSq {sz : Nat} (ht : P.underlying t = some (.slice e)) (he : sizeB P e = some sz) (b o n c i : Nat) (wa : Option Addr) (hwa : wa = some ⟨b, o, none⟩) (hi : i < n) : IsOp P (.indexAddr t x ix) [.slice wa n c, nat i] (ptr b (o + i * sz)) := by
  subst hwa; exact is_ixSl ht he b o n c i hi
end
/-! ### what is handed in -/
section
variable {H : Type} {enc : TypeId × Value → H} {P : Program}
theorem slice_cellE {α : Type} [Inhabited α] (K : α → List Value) {sz : Nat} (hK : ∀ a, (K a).length = sz) (hs0 : 0 < sz) {W : World} {base : Nat} {sp : Nat → Bool} {held : Bool} {s u : TypeId} (hs : P.underlying s = some (.slice u)) (hc : P.cellsOf u = sz)
    (hel : ∀ n cs x, cs.length = sz → DataW.trod enc P W base sp held n u cs = some x → ∃ a, cs = K a) {c : Value} {fuel : Nat} {z : DataW H × List MemPlace} (h : DataW.trod enc P W base sp held fuel s [c] = some z) :
    ∃ (wa : Option Addr) (wn wc wb wo : Nat) (wf : Nat → α), c = .slice wa wn wc ∧ (wn ≤ 9223372036854775807 ∧ wn ≤ wc) ∧ (0 < wn → wa = some ⟨wb, wo, none⟩) ∧ (0 < wn → Holds ⟨wb, false, wo, .tab wn sz fun k => K (wf k)⟩ W) := by
  rcases open_slice hs h with ⟨hcs, _⟩ | ⟨a, len, cap, m, n, D, Pl, hcs, _, hl, hm, hmm, _, hx⟩
  · simp at hcs
    exact ⟨none, 0, 0, 0, 0, fun _ => default, hcs, ⟨by omega, by omega⟩, fun h => by omega, fun h => by omega⟩
  · simp at hcs
    by_cases h0 : len = 0
    · subst h0
      exact ⟨some a, 0, cap, 0, 0, fun _ => default, hcs, ⟨by omega, by omega⟩, fun h => by omega, fun h => by omega⟩
    rw [hc] at hx
    have hlm : len ≤ m := by rw [hmm]; split <;> omega
    have hV : ∀ i, i < len → ∃ x : α, ∀ j, j < sz → W.cell? ((a.add (i * sz)).add j) = (K x)[j]? := fun i hi => by
      obtain ⟨cs', h1, h2⟩ := hx i (by omega)
      obtain ⟨_, hlen, hcell⟩ := World.cells?_some h1
      obtain ⟨x, hx⟩ := hel _ _ _ hlen h2
      subst hx
      exact ⟨x, hcell⟩
    obtain ⟨f, hfV⟩ := choose_lt (α := α) (p := fun i x => ∀ j, j < sz → W.cell? ((a.add (i * sz)).add j) = (K x)[j]?) hV
    have hfirst : ∃ u, W.cell? a = some u := by
      have := hfV 0 (by omega) 0 hs0
      rw [show (a.add (0 * sz)).add 0 = a from by cases a; simp [Addr.add]] at this
      rw [this, List.getElem?_eq_getElem (by rw [hK]; exact hs0)]
      exact ⟨_, rfl⟩
    obtain ⟨u0, hu0⟩ := hfirst
    have hspot : a.spot = none := World.cell?_spot hu0
    obtain ⟨ab, ao, spot⟩ := a
    simp only at hspot
    subst hspot
    refine ⟨some ⟨ab, ao, none⟩, len, cap, ab, ao, f, hcs, ⟨by unfold maxLen at hm; omega, hl⟩, fun _ => rfl, fun _ => ⟨lt_of_cell hu0, fun o v ho => ?_, (fun h => by cases h), obj_not rfl⟩⟩
    by_cases hol : o < len * sz
    · simp only [Cont.get, if_pos hol] at ho
      have := hfV (o / sz) (div_lt_row hol) (o % sz) (Nat.mod_lt _ hs0)
      rw [add_none, add_none, Nat.add_assoc, show o / sz * sz + o % sz = o by rw [Nat.mul_comm]; exact Nat.div_add_mod o sz] at this
      rw [this]; exact ho
    · rw [tabE_out hol] at ho; cases ho
def facT (P : Program) (e a i : TypeId) : Bool := match P.underlying e with
  | some (.struct fs) => match fs.toList with
    | [f0, f1] => Nat.beq f0.type a && (Nat.beq f0.offset 0 && (Nat.beq f1.type i && Nat.beq f1.offset 4))
    | _ => false
  | _ => false
theorem facT_get {P : Program} {e a i : TypeId} (h : facT P e a i = true) : ∃ f0 f1 : Field, P.underlying e = some (.struct #[f0, f1]) ∧ (f0.type = a ∧ f0.offset = 0) ∧ (f1.type = i ∧ f1.offset = 4) := by
  unfold facT at h
  split at h
  · rename_i fs hf
    split at h
    · rename_i f0 f1 hl
      simp only [Bool.and_eq_true] at h
      obtain ⟨h1, h2, h3, h4⟩ := h
      refine ⟨f0, f1, ?_, ⟨Nat.eq_of_beq_eq_true h1, Nat.eq_of_beq_eq_true h2⟩, ⟨Nat.eq_of_beq_eq_true h3, Nat.eq_of_beq_eq_true h4⟩⟩
      rw [hf]
      have : fs = #[f0, f1] := by cases fs; simp_all
      rw [this]
    · cases h
  · cases h
def prfT (P : Program) (e a s : TypeId) : Bool := match P.underlying e with
  | some (.struct fs) => match fs.toList with
    | [f0, f1, f2] => Nat.beq f0.type a && (Nat.beq f0.offset 0 && (Nat.beq f1.type a && (Nat.beq f1.offset 4 && (Nat.beq f2.type s && Nat.beq f2.offset 8))))
    | _ => false
  | _ => false
theorem prfT_get {P : Program} {e a s : TypeId} (h : prfT P e a s = true) : ∃ f0 f1 f2 : Field, P.underlying e = some (.struct #[f0, f1, f2]) ∧ (f0.type = a ∧ f0.offset = 0) ∧ (f1.type = a ∧ f1.offset = 4) ∧ (f2.type = s ∧ f2.offset = 8) := by
  unfold prfT at h
  split at h
  · rename_i fs hf
    split at h
    · rename_i f0 f1 f2 hl
      simp only [Bool.and_eq_true] at h
      obtain ⟨h1, h2, h3, h4, h5, h6⟩ := h
      refine ⟨f0, f1, f2, ?_, ⟨Nat.eq_of_beq_eq_true h1, Nat.eq_of_beq_eq_true h2⟩, ⟨Nat.eq_of_beq_eq_true h3, Nat.eq_of_beq_eq_true h4⟩, ⟨Nat.eq_of_beq_eq_true h5, Nat.eq_of_beq_eq_true h6⟩⟩
      rw [hf]
      have : fs = #[f0, f1, f2] := by cases fs; simp_all
      rw [this]
    · cases h
  · cases h
/-- The types of this layer. -/
structure PratT (P : Program) (sp e sf fc a u i : TypeId) : Prop where
  hsp : P.underlying sp = some (.slice e)
  he : prfT P e a sf = true
  hsf : P.underlying sf = some (.slice fc)
  hfc : facT P fc a i = true
  ha : P.underlying a = some (.array 4 u)
  hu : P.underlying u = some (.int .u64)
  hi : P.underlying i = some (.int .i64)
  ce : P.cellsOf e = 9
  csf : P.cellsOf sf = 1
  cfc : P.cellsOf fc = 5
  ca : P.cellsOf a = 4
  cu : P.cellsOf u = 1
  ci : P.cellsOf i = 1
variable {sp_ e_ sf_ fc_ a_ u_ i_ : TypeId}
theorem int_cell' {W : World} {base : Nat} {sp : Nat → Bool} {held : Bool} {i : TypeId} (hi : P.underlying i = some (.int .i64)) {c : Value} {fuel : Nat} {z : DataW H × List MemPlace} (h : DataW.trod enc P W base sp held fuel i [c] = some z) :
    ∃ x : Int, c = int x ∧ -9223372036854775808 ≤ x ∧ x ≤ 9223372036854775807 := by
  obtain ⟨x0, e0, _, w0⟩ := DataW.trod_int hi h
  simp at e0
  have hx : -9223372036854775808 ≤ x0 ∧ x0 ≤ 9223372036854775807 := by simpa [Lit.wf, IntKind.min, IntKind.max, IntKind.signed, IntKind.bits] using w0
  exact ⟨x0, e0, hx.1, hx.2⟩
theorem open_fac (T : PratT P sp_ e_ sf_ fc_ a_ u_ i_) {W : World} {base : Nat} {sp : Nat → Bool} {held : Bool} {n : Nat} {cs : List Value} {x : DataW H × List MemPlace} (hl : cs.length = 5) (h : DataW.trod enc P W base sp held n fc_ cs = some x) :
    ∃ r : FacR, cs = facC r ∧ OkF r := by
  obtain ⟨f0, f1, hst, hf0, hf1⟩ := facT_get T.hfc
  obtain ⟨y0, y1, m, _, _, g0, g1⟩ := trod_struct2 hst h
  rw [hf0.1, hf0.2, T.ca] at g0
  rw [hf1.1, hf1.2, T.ci] at g1
  obtain ⟨a0, e0⟩ := nat4_of_row T.ha T.hu T.cu (by simp [hl]) g0
  obtain ⟨c0, c1, c2, c3, c4, rfl⟩ : ∃ c0 c1 c2 c3 c4, cs = [c0, c1, c2, c3, c4] := by
    match cs, hl with
    | [c0, c1, c2, c3, c4], _ => exact ⟨c0, c1, c2, c3, c4, rfl⟩
  obtain ⟨x1, rfl, l1, h1⟩ := int_cell' T.hi (c := c4) g1
  simp at e0
  obtain ⟨rfl, rfl, rfl, rfl⟩ := e0
  exact ⟨⟨a0, x1⟩, rfl, ⟨l1, h1⟩⟩
def OkP (W : World) (r : PrfR) : Prop := OkR r ∧ ∀ b, famR r b → Holds b W ∧ b.own = false
theorem open_facs0 (T : PratT P sp_ e_ sf_ fc_ a_ u_ i_) {W : World} {base : Nat} {sp : Nat → Bool} {held : Bool} {c : Value} {n : Nat} {z : DataW H × List MemPlace} (h : DataW.trod enc P W base sp held n sf_ [c] = some z) (N G : N4) :
    ∃ r : PrfR, r.n = N ∧ r.g = G ∧ c = .slice r.wa r.wn r.wc ∧ OkP W r := by
  haveI : Inhabited {a : FacR // OkF a} := ⟨⟨⟨⟨0, 0, 0, 0⟩, 0⟩, ⟨by simp, by simp⟩⟩⟩
  obtain ⟨wa, wn, wc, wb, wo, wf, h1, h2, h3, h4⟩ := slice_cellE (α := {a : FacR // OkF a}) (fun a => facC a.1) (sz := 5) (fun _ => rfl) (by decide) T.hsf T.cfc (fun n cs x hl h => by
    obtain ⟨r, h1, h2⟩ := open_fac T hl h
    exact ⟨⟨r, h2⟩, h1⟩) h
  refine ⟨⟨N, G, wa, wn, wc, wb, wo, fun k => (wf k).1⟩, rfl, rfl, h1, ⟨h3, h2.1, fun k => (wf k).2⟩, fun b hb => ?_⟩
  obtain ⟨hb1, rfl⟩ := hb
  exact ⟨h4 hb1, rfl⟩
theorem open_prf0 (T : PratT P sp_ e_ sf_ fc_ a_ u_ i_) {W : World} {base : Nat} {sp : Nat → Bool} {held : Bool} {n : Nat} {cs : List Value} {x : DataW H × List MemPlace} (hl : cs.length = 9) (h : DataW.trod enc P W base sp held n e_ cs = some x) :
    ∃ r : PrfR, cs = prfC r ∧ OkP W r := by
  obtain ⟨f0, f1, f2, hst, hf0, hf1, hf2⟩ := prfT_get T.he
  obtain ⟨xs, m, _, _, _, hlen, hf⟩ := DataW.trod_struct hst h
  obtain ⟨c0, c1, c2, c3, c4, c5, c6, c7, c8, rfl⟩ : ∃ c0 c1 c2 c3 c4 c5 c6 c7 c8, cs = [c0, c1, c2, c3, c4, c5, c6, c7, c8] := by
    match cs, hl with
    | [c0, c1, c2, c3, c4, c5, c6, c7, c8], _ => exact ⟨c0, c1, c2, c3, c4, c5, c6, c7, c8, rfl⟩
  obtain ⟨y0, y1, y2, rfl⟩ : ∃ y0 y1 y2, xs = [y0, y1, y2] := by
    match xs, hlen with
    | [y0, y1, y2], _ => exact ⟨y0, y1, y2, rfl⟩
  have k0 := hf 0 f0 rfl
  have k1 := hf 1 f1 rfl
  have k2 := hf 2 f2 rfl
  rw [hf0.1, hf0.2, T.ca] at k0
  rw [hf1.1, hf1.2, T.ca] at k1
  rw [hf2.1, hf2.2, T.csf] at k2
  obtain ⟨a0, e0⟩ := nat4_of_row T.ha T.hu T.cu (by simp) k0
  obtain ⟨a1, e1⟩ := nat4_of_row T.ha T.hu T.cu (by simp) k1
  simp at e0 e1
  obtain ⟨rfl, rfl, rfl, rfl⟩ := e0
  obtain ⟨rfl, rfl, rfl, rfl⟩ := e1
  obtain ⟨r, h1, h2, h3, h4⟩ := open_facs0 T (c := c8) k2 a0 a1
  subst h1; subst h2
  exact ⟨r, by rw [h3]; rfl, h4⟩
theorem open_facs (T : PratT P sp_ e_ sf_ fc_ a_ u_ i_) {r : Reach} {b0 : Nat} {W : World} {base : Nat} {sp : Nat → Bool} {held : Bool} {v : Value} {d : DataW H} {ps : List MemPlace} (hval : Value.okWide P W r b0 sf_ v) (hd : DataW.Trod enc P W base sp held sf_ v d ps) :
    ∃ r : PrfR, v = .slice r.wa r.wn r.wc ∧ OkP W r := by
  obtain ⟨a1, len, cap, rfl⟩ := okWide_slice T.hsf hval
  obtain ⟨fuel, hf⟩ := hd
  obtain ⟨r, _, _, h3, h4⟩ := open_facs0 T (c := .slice a1 len cap) hf ⟨0, 0, 0, 0⟩ ⟨0, 0, 0, 0⟩
  exact ⟨r, h3, h4⟩
theorem open_prf (T : PratT P sp_ e_ sf_ fc_ a_ u_ i_) {r : Reach} {b0 : Nat} {W : World} {base : Nat} {sp : Nat → Bool} {held : Bool} {v : Value} {d : DataW H} {ps : List MemPlace} (hval : Value.okWide P W r b0 e_ v) (hd : DataW.Trod enc P W base sp held e_ v d ps) :
    ∃ r : PrfR, v = .agg (prfC r).toArray ∧ OkP W r := by
  obtain ⟨f0, f1, f2, hst, _⟩ := prfT_get T.he
  obtain ⟨cs, rfl, hsz, _⟩ : ∃ cs, v = .agg cs ∧ cs.size = P.cellsOf e_ ∧ Row.okWide P W r b0 e_ cs := by
    simpa [Value.okWide, hst] using hval
  obtain ⟨l⟩ := cs
  obtain ⟨fuel, hf⟩ := hd
  obtain ⟨r, h1, h2⟩ := open_prf0 T (cs := l) (by simpa [T.ce] using hsz) hf
  exact ⟨r, by rw [← h1], h2⟩
def OkQ (W : World) (q : PrfL) : Prop := OkL q ∧ ∀ b, famL q b → Holds b W ∧ b.own = false
theorem open_prfs (T : PratT P sp_ e_ sf_ fc_ a_ u_ i_) {r : Reach} {b0 : Nat} {W : World} {base : Nat} {sp : Nat → Bool} {held : Bool} {v : Value} {d : DataW H} {ps : List MemPlace} (hval : Value.okWide P W r b0 sp_ v) (hd : DataW.Trod enc P W base sp held sp_ v d ps) :
    ∃ q : PrfL, v = .slice q.la q.ln q.lc ∧ OkQ W q := by
  obtain ⟨a1, len, cap, rfl⟩ := okWide_slice T.hsp hval
  obtain ⟨fuel, hf⟩ := hd
  haveI : Inhabited {a : PrfR // OkP W a} := ⟨⟨⟨⟨0, 0, 0, 0⟩, ⟨0, 0, 0, 0⟩, none, 0, 0, 0, 0, fun _ => ⟨⟨0, 0, 0, 0⟩, 0⟩⟩, ⟨by simp, by simp, fun _ => ⟨by simp, by simp⟩⟩, fun b hb => by obtain ⟨h, _⟩ := hb; simp at h⟩⟩
  obtain ⟨wa, wn, wc, wb, wo, wf, h1, h2, h3, h4⟩ := slice_cellE (α := {a : PrfR // OkP W a}) (fun a => prfC a.1) (sz := 9) (fun _ => rfl) (by decide) T.hsp T.ce (fun n cs x hl h => by
    obtain ⟨r, h1, h2⟩ := open_prf0 T hl h
    exact ⟨⟨r, h2⟩, h1⟩) (c := .slice a1 len cap) hf
  refine ⟨⟨wa, wn, wc, wb, wo, fun k => (wf k).1⟩, h1, ⟨h2.2, h3, h2.1, fun k => (wf k).2.1⟩, fun b hb => ?_⟩
  rcases hb with ⟨hb1, rfl⟩ | ⟨k, _, hb⟩
  · exact ⟨h4 hb1, rfl⟩
  · exact (wf k).2.2 b hb
end
end Go.Eng
