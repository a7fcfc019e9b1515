/-
  Many in one: CodP, CodPt.
-/
import Derived.Test.YtelpmalmknpogaaZCodecWrites10
import Derived.ChangeArms
section
namespace Go.Eng
open Go.RowKit Go.WideShapes Go.ChangeShapes Go.ChangeAt Go.Deep
set_option linter.unusedSimpArgs false
set_option linter.unusedVariables false
set_option maxRecDepth 100000
structure PutR where
  d : Int
  n : UInt64
  a : N4
  b : BytL
  l : NatL
instance : Inhabited PutR := ⟨⟨0, 0, ⟨0, 0, 0, 0⟩, bytZ none 0, default⟩⟩
def putC (y : PutR) : List Value := [int y.d, u64 y.n, u64 y.a.a, u64 y.a.b, u64 y.a.c, u64 y.a.d, slqV y.b, natLV y.l]
theorem putC_ok (y : PutR) : (putC y).length = 8 ∧ (putC y).all Value.oneCell' = true := ⟨rfl, rfl⟩
def tabPt (n : Nat) (f : Nat → PutR) : Cont := .tab n 8 fun k => putC (f k)
structure PutL where
  wa : Option Addr
  wn : Nat
  wc : Nat
  wb : Nat
  wo : Nat
  wf : Nat → PutR
def putB (x : PutL) : Blk := ⟨x.wb, false, x.wo, tabPt x.wn x.wf⟩
structure OkPt (x : PutL) : Prop where
  ad : 0 < x.wn → x.wa = some ⟨x.wb, x.wo, none⟩
  len : x.wn ≤ 9223372036854775807
  el : ∀ k, k < x.wn → OkB (x.wf k).b ∧ OkNL (x.wf k).l ∧ -9223372036854775808 ≤ (x.wf k).d ∧ (x.wf k).d ≤ 9223372036854775807
def famPt (x : PutL) (z : Blk) : Prop := (0 < x.wn ∧ z = putB x) ∨ ∃ k, k < x.wn ∧ (famB (x.wf k).b z ∨ famNL (x.wf k).l z)
theorem famPt_b {x : PutL} {i : Nat} (hi : i < x.wn) : ∀ z, famB (x.wf i).b z → famPt x z := fun z hz => .inr ⟨i, hi, .inl hz⟩
theorem famPt_l {x : PutL} {i : Nat} (hi : i < x.wn) : ∀ z, famNL (x.wf i).l z → famPt x z := fun z hz => .inr ⟨i, hi, .inr hz⟩
section
variable {H : Type} {enc : TypeId × Value → H} {P : Program}
theorem nats_cell {W : World} {base : Nat} {sp : Nat → Bool} {held : Bool} {s e u : TypeId} (hs : P.underlying s = some (.slice e)) (he : P.underlying e = some (.array 4 u)) (hu : P.underlying u = some (.int .u64)) (hcu : P.cellsOf u = 1) (hc : P.cellsOf e = 4)
    {c : Value} {fuel : Nat} {z : DataW H × List MemPlace} (h : DataW.trod enc P W base sp held fuel s [c] = some z) : ∃ q : NatL, c = natLV q ∧ OkNL q ∧ FamH (famNL q) W := by
  have hno : ∀ q : NatL, q.ln = 0 → FamH (famNL q) W := fun q h0 b hb => by have := hb.1; omega
  rcases open_slice hs h with ⟨hcs, _⟩ | ⟨a, len, cap, m, n, D, Pl, hcs, _, hl, hm, hmm, _, hx⟩
  · simp at hcs
    exact ⟨⟨none, 0, 0, 0, 0, fun _ => ⟨0, 0, 0, 0⟩⟩, hcs, ⟨Nat.le_refl _, fun h => absurd h (Nat.lt_irrefl 0), Nat.zero_le _⟩, hno _ rfl⟩
  · simp at hcs
    by_cases h0 : len = 0
    · subst h0
      exact ⟨⟨some a, 0, cap, 0, 0, fun _ => ⟨0, 0, 0, 0⟩⟩, hcs, ⟨Nat.zero_le _, fun h => absurd h (Nat.lt_irrefl 0), Nat.zero_le _⟩, hno _ rfl⟩
    rw [hc] at hx
    have hlm : len ≤ m := by rw [hmm]; split <;> omega
    have hV : ∀ i, i < len → ∃ x : N4, ∀ j, j < 4 → W.cell? ((a.add (i * 4)).add j) = (cellsN x)[j]? := fun i hi => by
      obtain ⟨cs', h1, h2⟩ := hx i (by omega)
      obtain ⟨_, hlen, hcell⟩ := World.cells?_some h1
      obtain ⟨x, hx⟩ := nat4_of_row he hu hcu hlen h2
      subst hx
      exact ⟨x, hcell⟩
    obtain ⟨f, hfV⟩ := choose_lt (α := N4) (p := fun i x => ∀ j, j < 4 → W.cell? ((a.add (i * 4)).add j) = (cellsN x)[j]?) hV
    have hfirst : ∃ u, W.cell? a = some u := by
      have := hfV 0 (by omega) 0 (by decide)
      rw [show (a.add (0 * 4)).add 0 = a from by cases a; simp [Addr.add]] at this
      exact ⟨_, this⟩
    obtain ⟨u0, hu0⟩ := hfirst
    have hspot : a.spot = none := World.cell?_spot hu0
    obtain ⟨ab, ao, spot⟩ := a
    simp only at hspot
    subst hspot
    refine ⟨⟨some ⟨ab, ao, none⟩, len, cap, ab, ao, f⟩, hcs, ⟨hl, fun _ => rfl, (show len ≤ 9223372036854775807 from by unfold maxLen at hm; omega)⟩, fun z hz => ?_⟩
    obtain ⟨_, rfl⟩ := hz
    refine ⟨⟨lt_of_cell hu0, fun o v ho => ?_, (fun h => by cases h), obj_not rfl⟩, rfl⟩
    have ho' : (tabN len f).get o = some v := ho
    by_cases hol : o < len * 4
    · simp only [tabN, Cont.get, if_pos hol] at ho'
      have := hfV (o / 4) (div_lt_row hol) (o % 4) (Nat.mod_lt _ (by decide))
      rw [add_none, add_none, Nat.add_assoc, show o / 4 * 4 + o % 4 = o by rw [Nat.mul_comm]; exact Nat.div_add_mod o 4] at this
      show W.cell? ⟨ab, ao + o, none⟩ = some v
      rw [this]; exact ho'
    · rw [tabN, tabE_out hol] at ho'; cases ho'
def ptsB (P : Program) (e i u a s l : TypeId) : Bool := match P.underlying e with
  | some (.struct fs) => match fs.toList with
    | [f0, f1, f2, f3, f4] => (Nat.beq f0.type i && Nat.beq f0.offset 0) && ((Nat.beq f1.type u && Nat.beq f1.offset 1) && ((Nat.beq f2.type a && Nat.beq f2.offset 2) && ((Nat.beq f3.type s && Nat.beq f3.offset 6) && (Nat.beq f4.type l && Nat.beq f4.offset 7))))
    | _ => false
  | _ => false
theorem ptsB_get {P : Program} {e i u a s l : TypeId} (h : ptsB P e i u a s l = true) : ∃ f0 f1 f2 f3 f4 : Field, P.underlying e = some (.struct #[f0, f1, f2, f3, f4]) ∧ (f0.type = i ∧ f0.offset = 0) ∧ (f1.type = u ∧ f1.offset = 1) ∧ (f2.type = a ∧ f2.offset = 2) ∧ (f3.type = s ∧ f3.offset = 6) ∧ (f4.type = l ∧ f4.offset = 7) := by
  unfold ptsB at h
  split at h
  · rename_i fs hf
    split at h
    · rename_i f0 f1 f2 f3 f4 hl
      simp only [Bool.and_eq_true] at h
      obtain ⟨⟨a0, b0⟩, ⟨a1, b1⟩, ⟨a2, b2⟩, ⟨a3, b3⟩, ⟨a4, b4⟩⟩ := h
      refine ⟨f0, f1, f2, f3, f4, ?_, ⟨Nat.eq_of_beq_eq_true a0, Nat.eq_of_beq_eq_true b0⟩, ⟨Nat.eq_of_beq_eq_true a1, Nat.eq_of_beq_eq_true b1⟩, ⟨Nat.eq_of_beq_eq_true a2, Nat.eq_of_beq_eq_true b2⟩, ⟨Nat.eq_of_beq_eq_true a3, Nat.eq_of_beq_eq_true b3⟩, ⟨Nat.eq_of_beq_eq_true a4, Nat.eq_of_beq_eq_true b4⟩⟩
      rw [hf]
      have : fs = #[f0, f1, f2, f3, f4] := by cases fs; simp_all
      rw [this]
    · cases h
  · cases h
def GPt (W : World) (y : PutR) : Prop := OkB y.b ∧ FamH (famB y.b) W ∧ OkNL y.l ∧ FamH (famNL y.l) W ∧ -9223372036854775808 ≤ y.d ∧ y.d ≤ 9223372036854775807
theorem open_puts {r : Reach} {b0 : Nat} {W : World} {base : Nat} {sp : Nat → Bool} {held : Bool} {t e i u a s l c : TypeId} {v : Value} {d : DataW H} {ps : List MemPlace} (ht : P.underlying t = some (.slice e)) (he : ptsB P e i u a s l = true)
    (hi : P.underlying i = some (.int .i64)) (hu : P.underlying u = some (.int .u64)) (hA : P.underlying a = some (.array 4 u)) (hs : P.underlying s = some (.slice c)) (hc : P.underlying c = some (.int .u8)) (hl : P.underlying l = some (.slice a))
    (ci : P.cellsOf i = 1) (cu : P.cellsOf u = 1) (ca : P.cellsOf a = 4) (cs : P.cellsOf s = 1) (cc : P.cellsOf c = 1) (cl : P.cellsOf l = 1) (ce : P.cellsOf e = 8)
    (hval : Value.okWide P W r b0 t v) (hd : DataW.Trod enc P W base sp held t v d ps) : ∃ x : PutL, v = .slice x.wa x.wn x.wc ∧ OkPt x ∧ FamH (famPt x) W := by
  obtain ⟨f0, f1, f2, f3, f4, hst, g0, g1, g2, g3, g4⟩ := ptsB_get he
  have hin : Inhabited {y : PutR // GPt W y} := ⟨⟨default, okb_nil, holdb_nil, ⟨Nat.le_refl _, fun h => absurd h (Nat.lt_irrefl 0), Nat.zero_le _⟩, fun b hb => absurd hb.1 (Nat.lt_irrefl 0), by decide, by decide⟩⟩
  rcases open_sliceE (α := {y : PutR // GPt W y}) (fun y => putC y.1) (sz := 8) (fun a => (putC_ok a.1).1) (by decide) ht ce (fun n cs' x hln h => by
    obtain ⟨xs, m, _, _, _, hlen, hf⟩ := DataW.trod_struct hst h
    obtain ⟨c0, c1, c2, c3, c4, c5, c6, c7, rfl⟩ : ∃ c0 c1 c2 c3 c4 c5 c6 c7, cs' = [c0, c1, c2, c3, c4, c5, c6, c7] := by
      match cs', hln with
      | [c0, c1, c2, c3, c4, c5, c6, c7], _ => exact ⟨c0, c1, c2, c3, c4, c5, c6, c7, rfl⟩
    obtain ⟨y0, y1, y2, y3, y4, rfl⟩ : ∃ y0 y1 y2 y3 y4, xs = [y0, y1, y2, y3, y4] := by
      match xs, hlen with
      | [y0, y1, y2, y3, y4], _ => exact ⟨y0, y1, y2, y3, y4, rfl⟩
    have k0 := hf 0 f0 rfl
    have k1 := hf 1 f1 rfl
    have k2 := hf 2 f2 rfl
    have k3 := hf 3 f3 rfl
    have k4 := hf 4 f4 rfl
    rw [g0.1, g0.2, ci] at k0
    rw [g1.1, g1.2, cu] at k1
    rw [g2.1, g2.2, ca] at k2
    rw [g3.1, g3.2, cs] at k3
    rw [g4.1, g4.2, cl] at k4
    obtain ⟨x0, rfl, l0, h0⟩ := int_cell hi (c := c0) k0
    obtain ⟨x1, rfl⟩ := u64_cell hu (c := c1) k1
    obtain ⟨x2, e2⟩ := nat4_of_row (cs := [c2, c3, c4, c5]) hA hu cu rfl k2
    obtain ⟨q, rfl, hq, hF⟩ := bytes_cell (v := c6) hs hc cc k3
    obtain ⟨x4, rfl, hN, hG⟩ := nats_cell (c := c7) hl hA hu cu ca k4
    simp only [cellsN, List.cons.injEq, and_true] at e2
    obtain ⟨rfl, rfl, rfl, rfl⟩ := e2
    exact ⟨⟨⟨x0, x1, x2, q, x4⟩, hq, hF, hN, hG, l0, h0⟩, rfl⟩) hval hd with ⟨ao, c, rfl⟩ | ⟨b', o, n, c, f, rfl, hn, hln, hH⟩
  · exact ⟨⟨ao, 0, c, 0, 0, fun _ => default⟩, rfl, ⟨fun h => absurd h (Nat.lt_irrefl 0), Nat.zero_le _, fun k hk => absurd hk (Nat.not_lt_zero k)⟩, fun z hz => by
      rcases hz with ⟨h0, _⟩ | ⟨k, hk, _⟩
      · exact absurd h0 (Nat.lt_irrefl 0)
      · exact absurd hk (Nat.not_lt_zero k)⟩
  · refine ⟨⟨some ⟨b', o, none⟩, n, c, b', o, fun k => (f k).1⟩, rfl, ⟨fun _ => rfl, hln, fun k _ => ⟨(f k).2.1, (f k).2.2.2.1, (f k).2.2.2.2.2⟩⟩, fun z hz => ?_⟩
    rcases hz with ⟨_, rfl⟩ | ⟨k, _, hz | hz⟩
    · exact ⟨hH, rfl⟩
    · exact (f k).2.2.1 z hz
    · exact (f k).2.2.2.2.1 z hz
end
def lenP (y : PutR) : Nat := if y.d = 1 then smN y.n else if y.d = 2 then 32 else if y.d = 3 then byN y.b.wn else if y.d = 4 then nwN y.l.ln else 0
def bytP (y : PutR) : Nat → UInt8 := if y.d = 1 then smB y.n else if y.d = 2 then bytesF y.a else if y.d = 3 then byB y.b.wf y.b.wn else nwB y.l.lf y.l.ln
def ptN (f : Nat → PutR) : Nat → Nat
  | 0 => 0
  | k + 1 => ptN f k + lenP (f k)
def ptF (f : Nat → PutR) : Nat → Nat → UInt8
  | 0 => fun _ => 0
  | k + 1 => if lenP (f k) = 0 then ptF f k else catU (ptF f k) (ptN f k) (bytP (f k))
theorem lenP_1 {y : PutR} (h : y.d = 1) : lenP y = smN y.n ∧ bytP y = smB y.n := by unfold lenP bytP; rw [if_pos h, if_pos h]; exact ⟨rfl, rfl⟩
theorem lenP_2 {y : PutR} (h : y.d = 2) : lenP y = 32 ∧ bytP y = bytesF y.a := by unfold lenP bytP; simp [h]
theorem lenP_3 {y : PutR} (h : y.d = 3) : lenP y = byN y.b.wn ∧ bytP y = byB y.b.wf y.b.wn := by unfold lenP bytP; simp [h]
theorem lenP_4 {y : PutR} (h : y.d = 4) : lenP y = nwN y.l.ln ∧ bytP y = nwB y.l.lf y.l.ln := by unfold lenP bytP; simp [h]
theorem lenP_0 {y : PutR} (h1 : y.d ≠ 1) (h2 : y.d ≠ 2) (h3 : y.d ≠ 3) (h4 : y.d ≠ 4) : lenP y = 0 := by unfold lenP; rw [if_neg h1, if_neg h2, if_neg h3, if_neg h4]
def smlP (y : PutR) : Prop := y.b.wn ≤ 1000 ∧ y.l.ln ≤ 40
theorem lenP_le {y : PutR} (h : smlP y) : lenP y ≤ 1300 := by
  obtain ⟨h1, h2⟩ := h
  have a1 := smN_rng y.n
  have a2 := byN_rng y.b.wn
  have a3 := nwN_rng y.l.ln
  unfold lenP
  split
  · omega
  split
  · omega
  split
  · omega
  split
  · omega
  · omega
def fewP (x : PutL) : Prop := x.wn ≤ 20 ∧ ∀ k, k < x.wn → smlP (x.wf k)
theorem ptN_le {x : PutL} (h : fewP x) : ∀ i, i ≤ x.wn → ptN x.wf i ≤ 1300 * i
  | 0, _ => Nat.le_refl _
  | i + 1, hi => by
    have h1 := ptN_le h i (by omega)
    have h2 := lenP_le (h.2 i (by omega))
    show ptN x.wf i + lenP (x.wf i) ≤ _
    omega
instance (y : PutR) : Decidable (smlP y) := by unfold smlP; exact inferInstance
def fewB (x : PutL) : Bool := decide (x.wn ≤ 20 ∧ ∀ k, k < x.wn → smlP (x.wf k))
theorem fewB_t {x : PutL} (h : fewB x = true) : fewP x := of_decide_eq_true (p := x.wn ≤ 20 ∧ ∀ k, k < x.wn → smlP (x.wf k)) h
theorem fewB_long {x : PutL} (h : 20 < x.wn) : false = fewB x := (decide_eq_false fun e => by have := e.1; omega).symm
theorem fewB_bad {x : PutL} {i : Nat} (hi : i < x.wn) (h : selB (decide (1000 < (x.wf i).b.wn)) true (decide (40 < (x.wf i).l.ln)) = true) : false = fewB x := (decide_eq_false fun e => by
  have h2 := e.2 i hi
  rw [selB_or, Bool.or_eq_true, decide_eq_true_eq, decide_eq_true_eq] at h
  unfold smlP at h2
  omega).symm
theorem few_step {x : PutL} {i : Nat} (hR : ∀ k, k < i → smlP (x.wf k)) (h : selB (decide (1000 < (x.wf i).b.wn)) true (decide (40 < (x.wf i).l.ln)) = false) : ∀ k, k < i + 1 → smlP (x.wf k) := fun k hk => by
  rcases Nat.lt_or_ge k i with h1 | h1
  · exact hR k h1
  · have e : k = i := by omega
    subst e
    rw [selB_or, Bool.or_eq_false_iff, decide_eq_false_iff_not, decide_eq_false_iff_not] at h
    unfold smlP
    omega
theorem fewB_yes {x : PutL} {i : Nat} (h : x.wn ≤ 20) (hi : x.wn ≤ i) (hR : ∀ k, k < i → smlP (x.wf k)) : true = fewB x := (decide_eq_true ⟨h, fun k hk => hR k (by omega)⟩).symm
def ptG (f : Nat → PutR) (i a r : Nat) : Grw UInt8 := gsOf (ptN f i) (ptF f i) a r
theorem ptG_cat {f : Nat → PutR} {i m : Nat} {h : Nat → UInt8} (hm : 0 < m) (he : lenP (f i) = m ∧ bytP (f i) = h) (a r a' r' : Nat) : (ptG f i a r).cat m h a' r' = ptG f (i + 1) a' r' := by
  obtain ⟨rfl, rfl⟩ := he
  unfold ptG gsOf Grw.cat
  have e1 : (decide (lenP (f i) = 0) && decide (ptN f i = 0)) = decide (ptN f (i + 1) = 0) := by
    show _ = decide (ptN f i + lenP (f i) = 0)
    rw [decide_eq_false (show ¬ lenP (f i) = 0 by omega), decide_eq_false (show ¬ ptN f i + lenP (f i) = 0 by omega)]; rfl
  have e2 : ptF f (i + 1) = catU (ptF f i) (ptN f i) (bytP (f i)) := by
    show (if lenP (f i) = 0 then _ else _) = _
    rw [if_neg (by omega)]
  rw [e2]
  show Grw.mk (decide (lenP (f i) = 0) && decide (ptN f i = 0)) _ _ _ _ = _
  rw [e1]; rfl
theorem ptG_same {f : Nat → PutR} {i : Nat} (h : lenP (f i) = 0) (a r : Nat) : ptG f i a r = ptG f (i + 1) a r := by
  unfold ptG
  have e2 : ptF f (i + 1) = ptF f i := by
    show (if lenP (f i) = 0 then _ else _) = _
    rw [if_pos h]
  have e1 : ptN f (i + 1) = ptN f i := by show ptN f i + lenP (f i) = _; omega
  rw [e1, e2]
theorem wr_pt {F : Blk → Prop} {P : Program} {k : FuncId} {args : List Value} {w m : Nat} {h : Nat → UInt8} {f : Nat → PutR} {i a r : Nat} (hm : 0 < m) (he : lenP (f i) = m ∧ bytP (f i) = h)
    (H : RunsO F P k args [some ⟨w, true, 0, .lit [gsV (ptG f i a r)]⟩, gsE u8C [u8 0] 1 (ptG f i a r)] 2 (fun _ => .tuple #[]) (fun ns => [some ⟨w, true, 0, .lit [gsV ((ptG f i a r).cat m h (ns.getD 0 0) (ns.getD 1 0))]⟩, gsE u8C [u8 0] 1 ((ptG f i a r).cat m h (ns.getD 0 0) (ns.getD 1 0))])) :
    RunsO F P k args [some ⟨w, true, 0, .lit [gsV (ptG f i a r)]⟩, gsE u8C [u8 0] 1 (ptG f i a r)] 2 (fun _ => .tuple #[]) (fun ns => [some ⟨w, true, 0, .lit [gsV (ptG f (i + 1) (ns.getD 0 0) (ns.getD 1 0))]⟩, gsE u8C [u8 0] 1 (ptG f (i + 1) (ns.getD 0 0) (ns.getD 1 0))]) := by
  simp only [ptG_cat hm he] at H
  exact H
theorem ptG_ok {f : Nat → PutR} {i a r : Nat} : (ptG f i a r).ok := gsOf_ok _ _ _ _
theorem app_pt {P : Program} {t ty e : TypeId} (ht : P.underlying t = some (.slice e)) (h1 : AggC P e [u8 0] 1 1) {f : Nat → PutR} {i : Nat} {m : Nat} {h : Nat → UInt8} (hm : 0 < m) (he : lenP (f i) = m ∧ bytP (f i) = h) (a r : Nat) (adr : Option Addr) (cc : Nat) (ob : Option Blk)
    (hs : 0 < m → ∃ k bo os S, adr = some ⟨k, bo + os, none⟩ ∧ ob = some ⟨k, false, bo, S⟩ ∧ ∀ j, j < m * 1 → S.get (os + j) = some (cf 1 (fun k => u8C (h k)) j))
    (hb : ptN f i ≤ 100000 ∧ m ≤ 100000) :
    SRunsO P (appendSem t ty (gsV (ptG f i a r)) (.slice adr m cc)) [gsE u8C [u8 0] 1 (ptG f i a r), ob] 2 (fun ns => gsV (ptG f (i + 1) (ns.getD 0 0) (ns.getD 1 0))) (fun ns => [gsE u8C [u8 0] 1 (ptG f (i + 1) (ns.getD 0 0) (ns.getD 1 0)), none]) := by
  have H := mkG_catE (C := u8C) (zc := [u8 0]) (sz := 1) (P := P) (t := t) (ty := ty) (e := e) ht h1 (ptG f i a r) ptG_ok u8C_ok h m adr cc ob hs (by show (ptN f i + m) * 1 ≤ _ ∧ ptN f i + m ≤ _; omega)
  simp only [ptG_cat hm he] at H
  exact H
theorem src_spr {b n r : Nat} {f : Nat → UInt8} {z : Value} : 0 < n → ∃ kk bo os S, (some ⟨b, 0, none⟩ : Option Addr) = some ⟨kk, bo + os, none⟩ ∧ (some ⟨b, false, 0, spr (n + r) n (fun k => u8 (f k)) z⟩ : Option Blk) = some ⟨kk, false, bo, S⟩ ∧ ∀ j, j < n * 1 → S.get (os + j) = some (cf 1 (fun k => u8C (f k)) j) := fun _ => by
  refine ⟨b, 0, 0, _, rfl, rfl, fun j hj => ?_⟩
  rw [Nat.zero_add, spr, tabF_in (by omega), if_pos (by omega)]
  unfold cf u8C
  rw [Nat.div_one, Nat.mod_one]
  rfl
theorem src_tab {b n : Nat} {f : Nat → UInt8} : 0 < n → ∃ kk bo os S, (some ⟨b, 0, none⟩ : Option Addr) = some ⟨kk, bo + os, none⟩ ∧ (some ⟨b, false, 0, tabF n (fun k => u8 (f k))⟩ : Option Blk) = some ⟨kk, false, bo, S⟩ ∧ ∀ j, j < n * 1 → S.get (os + j) = some (cf 1 (fun k => u8C (f k)) j) := fun _ => by
  refine ⟨b, 0, 0, _, rfl, rfl, fun j hj => ?_⟩
  rw [Nat.zero_add, tabF_in (by omega)]
  unfold cf u8C
  rw [Nat.div_one, Nat.mod_one]
  rfl
theorem listMemN {α : Type} {bs : List α} {p : Nat} {b : Blk} {r : List (Option Blk)} (h : listMem (bs.map (fun _ => (none : Option Blk)) ++ r) p = some b) : ∃ p', p = bs.length + p' ∧ listMem r p' = some b := by
  unfold listMem at h ⊢
  rcases Nat.lt_or_ge p bs.length with h1 | h1
  · rw [List.getElem?_append_left (by simpa using h1), List.getElem?_map] at h
    rw [List.getElem?_eq_getElem h1] at h
    simp at h
  · rw [List.getElem?_append_right (by simpa using h1)] at h
    refine ⟨p - bs.length, by omega, ?_⟩
    simpa using h
theorem RunsO.lendV {F G : Blk → Prop} {P : Program} {f : FuncId} {args : List Value} {bs : List (Option Blk)} {v : Value} (h : RunsO G P f args [] 0 (fun _ => v) (fun _ => []))
    (hG : ∀ w : World, FamH F w → (∀ p b, listMem bs p = some b → Holds b w) → FamH G w) : RunsO F P f args bs 0 (fun _ => v) (fun _ => bs.map (fun _ => none)) := by
  intro w hm ha hF
  have hno : ∀ k, ¬ Owns (listMem ([] : List (Option Blk))) k := fun k ⟨p, b, h1, _⟩ => by simp [listMem] at h1
  have hw := hG w (fun b hb => ⟨(hF b hb).1, (hF b hb).2.1⟩) hm
  have hn : ∀ p b, listMem (bs.map (fun _ => (none : Option Blk))) p ≠ some b := fun p b hp => by
    obtain ⟨p', _, h2⟩ := listMemN (bs := bs) (r := []) (by rw [List.append_nil]; exact hp)
    simp [listMem] at h2
  refine Calls.mono (h w (fun p b hb => by simp [listMem] at hb) (fun p q b c _ hb => by simp [listMem] at hb) fun b hb => ⟨(hw b hb).1, (hw b hb).2, fun k _ => hno k⟩) ?_
  rintro e w' ⟨ns, hns, he, hp⟩
  refine ⟨ns, hns, he, ⟨fun p b hpb => absurd hpb (hn p b), fun p q b c hpq hpb hqc ho => absurd hpb (hn p b), ⟨hp.adv.os, hp.adv.output, hp.adv.tape, hp.adv.size, fun k hk _ => hp.adv.heap k hk (hno k), fun k ⟨p, b, h1, h2, h3⟩ => absurd h1 (hn p b), fun p b hpb ho => absurd hpb (hn p b)⟩⟩⟩
def recG (D : Grw UInt8) : BytL := ⟨gsA D, D.n, gsC D, D.nm, 0, D.f⟩
theorem recG_ok {D : Grw UInt8} (h : D.ok) (hl : D.n ≤ 9223372036854775807) : OkB (recG D) := ⟨gs_le h, fun h0 => gsA_own (h.pos h0), hl⟩
theorem recG_fam {D : Grw UInt8} (h : D.ok) {w : World} (hb : ∀ b, roO (gsE u8C [u8 0] 1 D) = some b → Holds b w) : FamH (famB (recG D)) w := fun b hb' => by
  obtain ⟨h0, rfl⟩ := hb'
  have hz := h.pos h0
  have h1 := hb ⟨D.nm, false, 0, spr (D.n + D.r) D.n (fun k => u8 (D.f k)) (u8 0)⟩ (by rw [gsE_u8, grO_own hz]; rfl)
  exact ⟨holds_sprB h1, rfl⟩
theorem same_G {F : Blk → Prop} {P : Program} {k : FuncId} {A B : Grw UInt8} (hA : A.ok) (hB : B.ok) (lA : A.n ≤ 9223372036854775807) (lB : B.n ≤ 9223372036854775807)
    (H : ∀ x y : BytL, OkB x → OkB y → RunsF (famBB x y) P k [slqV x, slqV y] [] 0 (fun _ => Value.bool (sameS x.wf x.wn y.wf y.wn)) (fun _ => [])) :
    RunsO F P k [gsV A, gsV B] [roO (gsE u8C [u8 0] 1 A), roO (gsE u8C [u8 0] 1 B)] 0 (fun _ => Value.bool (sameS A.f A.n B.f B.n)) (fun _ => [none, none]) :=
  RunsO.lendV (bs := [roO (gsE u8C [u8 0] 1 A), roO (gsE u8C [u8 0] 1 B)]) (H (recG A) (recG B) (recG_ok hA lA) (recG_ok hB lB)).toO fun w hw hb z hz => by
    rcases hz with hz | hz
    · exact recG_fam hA (fun b hb' => hb 0 b hb') z hz
    · exact recG_fam hB (fun b hb' => hb 1 b hb') z hz
theorem same_all (f : Nat → UInt8) (n : Nat) : sameS f n f n = true := decide_eq_true ⟨rfl, fun k hk => rfl⟩
end Go.Eng
end
section
namespace Go.Proofs.Ytelpmalmknpogaa
open Go Go.Eng
set_option linter.unusedVariables false
set_option linter.unusedSimpArgs false
set_option maxRecDepth 100000
set_option maxHeartbeats 1000000
theorem rbytes_G (q : BytL) (hq : OkB q) (hl : q.wn ≤ 100000) : RunsF (famB q) Try.prog 26 [slqV q] [] 2 (fun ns => .slice (some ⟨ns.getD 0 0, 0, none⟩) (byN q.wn) (byN q.wn + ns.getD 1 0)) (fun ns => [some ⟨ns.getD 0 0, true, 0, spr (byN q.wn + ns.getD 1 0) (byN q.wn) (fun k => u8 (byB q.wf q.wn k)) (u8 0)⟩]) := rbytes_s q hq hl
def short_run_S1 (x : PutL) (x1 : Nat) : St := ⟨[(0, .v (Value.slice x.wa x.wn x.wc)), (3, .v (nat x1))], [], 0⟩
def short_run_R1 (x : PutL) (x1 : Nat) : Prop := (x1 ≤ x.wn) ∧ (∀ k, k < x1 → smlP (x.wf k))
def short_run_mu1 (x : PutL) (x1 : Nat) : Nat := x.wn - x1
theorem short_run (x : PutL) (hx : OkPt x) : RunsO (famPt x) Try.prog 9 [(Value.slice x.wa x.wn x.wc)] [] 0 (fun (_ : List Nat) => Value.bool (fewB x)) (fun (_ : List Nat) => []) :=
  runsO_of_ev mix Try.func9 rfl rfl 400 (.reg [(0, .g)] (.reg [(0, .g), (1, (.as (nat x.wn))), (2, (.as (Value.bool (decide (20 < x.wn)))))] (.br (.reg [(0, .g)] .done) (.reg [(0, .g)] (.inv [0, 3] [] 0 (short_run_R1 x) (short_run_S1 x) (short_run_mu1 x) (0 : Nat) (fun (x1 : Nat) => (.reg [(0, .g), (1, .g), (2, (.as (nat x.wn))), (3, (.as (Value.bool (decide (x1 < x.wn)))))] (.br (.openr (putB x) (.reg [(0, .g), (1, .g), (2, (.as (ptr x.wb (x.wo + x1 * 8)))), (3, .g), (4, (.ld 0 (.tab x1 6))), (5, (.as (nat ((x.wf x1).b.wn)))), (6, (.as (Value.bool (decide (1000 < ((x.wf x1).b.wn)))))), (7, .g), (8, .opt .g), (9, .opt .g), (10, .opt (.as (ptr x.wb (x.wo + x1 * 8)))), (11, .opt .g), (12, .opt (.ld 0 (.tab x1 7))), (13, .opt (.as (nat ((x.wf x1).l.ln)))), (14, .opt (.as (Value.bool (decide (40 < ((x.wf x1).l.ln)))))), (15, .pk)] (.br (.reg [(0, .g)] .done) (.reg [(0, .g), (1, (.as (nat (x1 + 1)))), (2, .g)] .done)))) (.reg [(0, .g)] .done))))))))) [] [] rfl
    (have f0 : x.wn ≤ 9223372036854775807 := hx.len; Eq.mp (by kernel_rfl) (And.intro (sk trivial) (And.intro (sk (And.intro (And.intro trivial (@is_len Try.prog 22 36 (.tmp 4) (by kernel_rfl) x.wa x.wn x.wc)) (And.intro (And.intro trivial (@is_gtrn Try.prog 3 3 (.tmp 5) (.const (.int .i64 20))  x.wn 20)) trivial))) (And.intro trivial (And.intro (fun (h1 : (decide (20 < x.wn)) = true) => have f1 : (20 < x.wn) := (of_decide_eq_true h1); And.intro (sk trivial) (And.intro trivial (@Exists.intro (List Nat) (fun (ns : List Nat) => ns.length = 0 ∧ ((Value.bool false) : Value) = (fun (_ : List Nat) => Value.bool (fewB x)) ns ∧ ([] : List (Option Blk)) = (fun (_ : List Nat) => []) ns) [] (And.intro (@rfl Nat 0) (And.intro ((show (Value.bool false) = Value.bool (fewB x) from congrArg Value.bool (fewB_long (of_decide_eq_true h1)))) (@rfl (List (Option Blk)) [])))))) (fun (h1 : (decide (20 < x.wn)) = false) => have f1 : ¬ (20 < x.wn) := (of_decide_eq_false h1); And.intro (sk trivial) (And.intro (show (short_run_R1 x) (0 : Nat) from (show (0 ≤ x.wn) ∧ (∀ k, k < 0 → smlP (x.wf k)) from by exact ⟨Nat.zero_le _, fun k hk => absurd hk (Nat.not_lt_zero k)⟩)) (And.intro (@rfl St ((short_run_S1 x) (0 : Nat))) (fun (x1 : Nat) (hx1 : (short_run_R1 x) x1) => have B0 : x1 ≤ x.wn := hx1.1; have B1 : ∀ k, k < x1 → smlP (x.wf k) := hx1.2; And.intro (sk (sk (And.intro (And.intro trivial (@is_len Try.prog 22 36 (.tmp 8) (by kernel_rfl) x.wa x.wn x.wc)) (And.intro (And.intro trivial (@is_lssn Try.prog 3 3 (.tmp 7) (.tmp 9)  x1 x.wn)) trivial)))) (And.intro trivial (And.intro (fun (h2 : (decide (x1 < x.wn)) = true) => have f4 : (x1 < x.wn) := (of_decide_eq_true h2); And.intro (Or.inl ⟨(show 0 < x.wn from by omega), rfl⟩ : famPt x (putB x)) (And.intro (sk (sk (And.intro (And.intro trivial (@is_ixSq Try.prog 22 36 (.tmp 13) (.tmp 14) 8 (by kernel_rfl) (by kernel_rfl) x.wb x.wo x.wn x.wc x1 x.wa (hx.ad (show 0 < x.wn from by omega)) (show x1 < x.wn from by omega))) (sk (And.intro (And.intro trivial (And.intro (show x1 < x.wn from by omega) (@rfl Value (ptr x.wb (x.wo + x1 * 8 + 6))))) (And.intro (And.intro trivial (@is_len Try.prog 25 5 (.tmp 17) (by kernel_rfl) ((x.wf x1).b.wa) ((x.wf x1).b.wn) ((x.wf x1).b.wc))) (And.intro (And.intro trivial (@is_gtrn Try.prog 3 3 (.tmp 18) (.const (.int .i64 1000))  ((x.wf x1).b.wn) 1000)) (sk (And.intro (fun (hg : (sameB (decide (1000 < ((x.wf x1).b.wn))) false) = true) => t2) (And.intro (fun (hg : (sameB (decide (1000 < ((x.wf x1).b.wn))) false) = true) => t2) (And.intro (fun (hg : (sameB (decide (1000 < ((x.wf x1).b.wn))) false) = true) => have f5 : ¬ (1000 < ((x.wf x1).b.wn)) := (of_decide_eq_false (sameB_f hg)); (And.intro (And.intro hg (And.intro hg trivial)) (@is_ixSq Try.prog 22 36 (.tmp 21) (.tmp 22) 8 (by kernel_rfl) (by kernel_rfl) x.wb x.wo x.wn x.wc x1 x.wa (hx.ad (show 0 < x.wn from by omega)) (show x1 < x.wn from by omega)))) (And.intro (fun (hg : (sameB (decide (1000 < ((x.wf x1).b.wn))) false) = true) => (And.intro (And.intro hg trivial) trivial)) (And.intro (fun (hg : (sameB (decide (1000 < ((x.wf x1).b.wn))) false) = true) => have f5 : ¬ (1000 < ((x.wf x1).b.wn)) := (of_decide_eq_false (sameB_f hg)); (And.intro (And.intro hg trivial) (And.intro (show x1 < x.wn from by omega) (@rfl Value (ptr x.wb (x.wo + x1 * 8 + 7)))))) (And.intro (fun (hg : (sameB (decide (1000 < ((x.wf x1).b.wn))) false) = true) => have f5 : ¬ (1000 < ((x.wf x1).b.wn)) := (of_decide_eq_false (sameB_f hg)); (And.intro (And.intro hg trivial) (@is_len Try.prog 34 33 (.tmp 25) (by kernel_rfl) ((x.wf x1).l.la) ((x.wf x1).l.ln) ((x.wf x1).l.lc)))) (And.intro (fun (hg : (sameB (decide (1000 < ((x.wf x1).b.wn))) false) = true) => (And.intro (And.intro hg trivial) (@is_gtrn Try.prog 3 3 (.tmp 26) (.const (.int .i64 40))  ((x.wf x1).l.ln) 40))) (And.intro (And.intro trivial (And.intro (fun (_ : (decide (1000 < ((x.wf x1).b.wn))) = true) => trivial) (fun (hp : (decide (1000 < ((x.wf x1).b.wn))) = false) => (sameB_mkf hp)))) trivial)))))))))))))))) (And.intro trivial (And.intro (fun (h3 : (selB (decide (1000 < ((x.wf x1).b.wn))) true (decide (40 < ((x.wf x1).l.ln)))) = true) => have f5 : ((1000 < ((x.wf x1).b.wn))) ∨ ((40 < ((x.wf x1).l.ln))) := (Or.imp (fun h => (of_decide_eq_true h)) (fun h => (of_decide_eq_true h)) (sbor_t h3)); And.intro (sk trivial) (And.intro trivial (@Exists.intro (List Nat) (fun (ns : List Nat) => ns.length = 0 ∧ ((Value.bool false) : Value) = (fun (_ : List Nat) => Value.bool (fewB x)) ns ∧ ([] : List (Option Blk)) = (fun (_ : List Nat) => []) ns) [] (And.intro (@rfl Nat 0) (And.intro ((show (Value.bool false) = Value.bool (fewB x) from congrArg Value.bool (fewB_bad (by omega) h3))) (@rfl (List (Option Blk)) [])))))) (fun (h3 : (selB (decide (1000 < ((x.wf x1).b.wn))) true (decide (40 < ((x.wf x1).l.ln)))) = false) => have f5 : ¬ (1000 < ((x.wf x1).b.wn)) := (of_decide_eq_false (sbor_l h3)); have f6 : ¬ (40 < ((x.wf x1).l.ln)) := (of_decide_eq_false (sbor_r h3)); And.intro (sk (And.intro (And.intro trivial (@is_addn Try.prog 3 3 (.tmp 11) (.const (.int .i64 1))  x1 1 (show x1 + 1 ≤ 9223372036854775807 from by omega))) (sk trivial))) ((rnd (short_run_R1 x) (short_run_S1 x) (short_run_mu1 x) x1 (x1 + 1 : Nat) (show (short_run_R1 x) (x1 + 1 : Nat) ∧ (short_run_mu1 x) (x1 + 1 : Nat) < (short_run_mu1 x) x1 from (show (((x1 + 1) ≤ x.wn) ∧ (∀ k, k < (x1 + 1) → smlP (x.wf k))) ∧ (x.wn - (x1 + 1)) < (x.wn - x1) from by exact ⟨⟨by omega, few_step B1 h3⟩, by omega⟩))))))))) (fun (h2 : (decide (x1 < x.wn)) = false) => have f4 : ¬ (x1 < x.wn) := (of_decide_eq_false h2); And.intro (sk trivial) (And.intro trivial (@Exists.intro (List Nat) (fun (ns : List Nat) => ns.length = 0 ∧ ((Value.bool true) : Value) = (fun (_ : List Nat) => Value.bool (fewB x)) ns ∧ ([] : List (Option Blk)) = (fun (_ : List Nat) => []) ns) [] (And.intro (@rfl Nat 0) (And.intro ((show (Value.bool true) = Value.bool (fewB x) from congrArg Value.bool (fewB_yes (by omega) (by omega) B1))) (@rfl (List (Option Blk)) [])))))))))))))))))
def written_run_S1 (x : PutL) (n1 : Nat) (x1 : Nat × Nat × Nat × Nat × Nat) : St := ⟨[(0, .v (Value.slice x.wa x.wn x.wc)), (4, .v (ptr n1 0)), (5, .v (gsV (ptG x.wf x1.1 x1.2.2.2.1 x1.2.2.2.2))), (6, .v (nat x1.1))], [(0, some ⟨n1, true, 0, (.lit [(gsV (ptG x.wf x1.1 x1.2.1 x1.2.2.1))])⟩), (1, (gsE u8C [u8 0] 1 (ptG x.wf x1.1 x1.2.1 x1.2.2.1))), (2, (gsE u8C [u8 0] 1 (ptG x.wf x1.1 x1.2.2.2.1 x1.2.2.2.2)))], 3⟩
def written_run_R1 (x : PutL) (n1 : Nat) (x1 : Nat × Nat × Nat × Nat × Nat) : Prop := (x1.1 ≤ x.wn)
def written_run_mu1 (x : PutL) (n1 : Nat) (x1 : Nat × Nat × Nat × Nat × Nat) : Nat := x.wn - x1.1
theorem written_run (x : PutL) (hx : OkPt x) (hw : fewP x) : RunsO (famPt x) Try.prog 10 [(Value.slice x.wa x.wn x.wc)] [] 4 (fun (ns : List Nat) => (Value.tuple #[(gsV (ptG x.wf x.wn (ns.getD 0 0) (ns.getD 1 0))), (gsV (ptG x.wf x.wn (ns.getD 2 0) (ns.getD 3 0)))])) (fun (ns : List Nat) => [(gsE u8C [u8 0] 1 (ptG x.wf x.wn (ns.getD 0 0) (ns.getD 1 0))), (gsE u8C [u8 0] 1 (ptG x.wf x.wn (ns.getD 2 0) (ns.getD 3 0)))]) :=
  runsO_of_ev mix Try.func10 rfl rfl 400 (.reg [(0, .g), (1, .g)] (.regn [(0, .g), (1, .new), (2, .g)] (more (fun n1 => fun _ => (.keep [0, 2, 3, 7, 8, 4] [0] 3 (.reg [(0, .g)] (.reg [(0, .g)] (.inv [0, 4, 5, 6] [0, 1, 2] 3 (written_run_R1 x n1) (written_run_S1 x n1) (written_run_mu1 x n1) ((0, 0, 0, 0, 0) : Nat × Nat × Nat × Nat × Nat) (fun (x1 : Nat × Nat × Nat × Nat × Nat) => (.reg [(0, .g), (1, .g), (2, (.as (nat x.wn))), (3, (.as (Value.bool (decide (x1.1 < x.wn)))))] (.br (.openr (putB x) (.reg [(0, .g), (1, .g), (2, (.as (ptr x.wb (x.wo + x1.1 * 8)))), (3, .g), (4, (.ld 3 (.tab x1.1 0)))] (.reg [(0, .g), (1, .g)] (.br (.openr (putB x) (.regn [(0, .g), (1, .g), (2, .g), (3, (.as (ptr x.wb (x.wo + x1.1 * 8)))), (4, .g), (5, (.ld 4 (.tab x1.1 1))), (6, (.callO [(0, false), (1, false)] 2 0 (fun _ => Value.tuple #[]) (fun ns => [some ⟨n1, true, 0, .lit [gsV (ptG x.wf (x1.1 + 1) (ns.getD 0 0) (ns.getD 1 0))]⟩, (gsE u8C [u8 0] 1 (ptG x.wf (x1.1 + 1) (ns.getD 0 0) (ns.getD 1 0)))])))] (more (fun n2 => more (fun n3 => fun _ => (.openr (putB x) (.regn [(0, .g), (1, .g), (2, .g), (3, (.as (ptr x.wb (x.wo + x1.1 * 8)))), (4, .g), (5, (.ld 5 (.tab x1.1 1))), (6, (.callF [] 2 1 (fun ns => Value.slice (some ⟨(ns.getD 0 0), 0, none⟩) (smN ((x.wf x1.1).n)) (smN ((x.wf x1.1).n) + (ns.getD 1 0))) (fun ns => [some ⟨(ns.getD 0 0), true, 0, (spr (smN ((x.wf x1.1).n) + (ns.getD 1 0)) (smN ((x.wf x1.1).n)) (fun k => u8 (smB ((x.wf x1.1).n) k)) (u8 0))⟩]))), (7, (.othO [(2, false), (6, true)] 2 0 (fun ns => gsV (ptG x.wf (x1.1 + 1) (ns.getD 0 0) (ns.getD 1 0))) (fun ns => [(gsE u8C [u8 0] 1 (ptG x.wf (x1.1 + 1) (ns.getD 0 0) (ns.getD 1 0))), none]))), (8, .g)] (more (fun n4 => more (fun n5 => more (fun n6 => more (fun n7 => fun _ => (.reg [(0, .g), (1, (.as (nat (x1.1 + 1)))), (2, .g)] .done))))))))))))) (.reg [(0, .g), (1, .g)] (.br (.openr (putB x) (.regn [(0, .g), (1, .g), (2, .g), (3, (.as (ptr x.wb (x.wo + x1.1 * 8)))), (4, .g), (5, (.ld 4 (.tab x1.1 2))), (6, (.callO [(0, false), (1, false)] 2 0 (fun _ => Value.tuple #[]) (fun ns => [some ⟨n1, true, 0, .lit [gsV (ptG x.wf (x1.1 + 1) (ns.getD 0 0) (ns.getD 1 0))]⟩, (gsE u8C [u8 0] 1 (ptG x.wf (x1.1 + 1) (ns.getD 0 0) (ns.getD 1 0)))])))] (more (fun n8 => more (fun n9 => fun _ => (.openr (putB x) (.regn [(0, .g), (1, .g), (2, .g), (3, (.as (ptr x.wb (x.wo + x1.1 * 8)))), (4, .g), (5, (.ld 5 (.tab x1.1 2))), (6, (.call [] 2 1 (fun ns => Value.slice (some ⟨ns.getD 0 0, 0, none⟩) 32 (32 + ns.getD 1 0)) (fun ns => [some ⟨ns.getD 0 0, true, 0, tabF 32 (fun k => u8 (bytesF ((x.wf x1.1).a) k))⟩]))), (7, (.othO [(2, false), (6, true)] 2 0 (fun ns => gsV (ptG x.wf (x1.1 + 1) (ns.getD 0 0) (ns.getD 1 0))) (fun ns => [(gsE u8C [u8 0] 1 (ptG x.wf (x1.1 + 1) (ns.getD 0 0) (ns.getD 1 0))), none]))), (8, .g)] (more (fun n10 => more (fun n11 => more (fun n12 => more (fun n13 => fun _ => (.reg [(0, .g), (1, (.as (nat (x1.1 + 1)))), (2, .g)] .done))))))))))))) (.reg [(0, .g), (1, .g)] (.br (.openr (putB x) (.regn [(0, .g), (1, .g), (2, .g), (3, (.as (ptr x.wb (x.wo + x1.1 * 8)))), (4, .g), (5, (.ld 4 (.tab x1.1 6))), (6, (.callO [(0, false), (1, false)] 2 0 (fun _ => Value.tuple #[]) (fun ns => [some ⟨n1, true, 0, .lit [gsV (ptG x.wf (x1.1 + 1) (ns.getD 0 0) (ns.getD 1 0))]⟩, (gsE u8C [u8 0] 1 (ptG x.wf (x1.1 + 1) (ns.getD 0 0) (ns.getD 1 0)))])))] (more (fun n14 => more (fun n15 => fun _ => (.openr (putB x) (.regn [(0, .g), (1, .g), (2, .g), (3, (.as (ptr x.wb (x.wo + x1.1 * 8)))), (4, .g), (5, (.ld 5 (.tab x1.1 6))), (6, (.callF [] 2 1 (fun ns => Value.slice (some ⟨(ns.getD 0 0), 0, none⟩) (byN ((x.wf x1.1).b).wn) (byN ((x.wf x1.1).b).wn + (ns.getD 1 0))) (fun ns => [some ⟨(ns.getD 0 0), true, 0, (spr (byN ((x.wf x1.1).b).wn + (ns.getD 1 0)) (byN ((x.wf x1.1).b).wn) (fun k => u8 (byB ((x.wf x1.1).b).wf ((x.wf x1.1).b).wn k)) (u8 0))⟩]))), (7, (.othO [(2, false), (6, true)] 2 0 (fun ns => gsV (ptG x.wf (x1.1 + 1) (ns.getD 0 0) (ns.getD 1 0))) (fun ns => [(gsE u8C [u8 0] 1 (ptG x.wf (x1.1 + 1) (ns.getD 0 0) (ns.getD 1 0))), none]))), (8, .g)] (more (fun n16 => more (fun n17 => more (fun n18 => more (fun n19 => fun _ => (.reg [(0, .g), (1, (.as (nat (x1.1 + 1)))), (2, .g)] .done))))))))))))) (.reg [(0, .g), (1, .g)] (.br (.openr (putB x) (.regn [(0, .g), (1, .g), (2, .g), (3, (.as (ptr x.wb (x.wo + x1.1 * 8)))), (4, .g), (5, (.ld 4 (.tab x1.1 7))), (6, (.callO [(0, false), (1, false)] 2 0 (fun _ => Value.tuple #[]) (fun ns => [some ⟨n1, true, 0, .lit [gsV (ptG x.wf (x1.1 + 1) (ns.getD 0 0) (ns.getD 1 0))]⟩, (gsE u8C [u8 0] 1 (ptG x.wf (x1.1 + 1) (ns.getD 0 0) (ns.getD 1 0)))])))] (more (fun n20 => more (fun n21 => fun _ => (.openr (putB x) (.regn [(0, .g), (1, .g), (2, .g), (3, (.as (ptr x.wb (x.wo + x1.1 * 8)))), (4, .g), (5, (.ld 5 (.tab x1.1 7))), (6, (.callF [] 2 1 (fun ns => Value.slice (some ⟨(ns.getD 0 0), 0, none⟩) (nwN ((x.wf x1.1).l).ln) (nwN ((x.wf x1.1).l).ln + (ns.getD 1 0))) (fun ns => [some ⟨(ns.getD 0 0), true, 0, (spr (nwN ((x.wf x1.1).l).ln + (ns.getD 1 0)) (nwN ((x.wf x1.1).l).ln) (fun k => u8 (nwB ((x.wf x1.1).l).lf ((x.wf x1.1).l).ln k)) (u8 0))⟩]))), (7, (.othO [(2, false), (6, true)] 2 0 (fun ns => gsV (ptG x.wf (x1.1 + 1) (ns.getD 0 0) (ns.getD 1 0))) (fun ns => [(gsE u8C [u8 0] 1 (ptG x.wf (x1.1 + 1) (ns.getD 0 0) (ns.getD 1 0))), none]))), (8, .g)] (more (fun n22 => more (fun n23 => more (fun n24 => more (fun n25 => fun _ => (.reg [(0, .g), (1, (.as (nat (x1.1 + 1)))), (2, .g)] .done))))))))))))) (.keep [0, 4, 5, 6] [0, 1, 2] 4 (.told ⟨[(0, .v (Value.slice x.wa x.wn x.wc)), (4, .v (ptr n1 0)), (5, .v (gsV (ptG x.wf (x1.1 + 1) x1.2.2.2.1 x1.2.2.2.2))), (6, .v (nat x1.1))], [(0, some ⟨n1, true, 0, (.lit [(gsV (ptG x.wf (x1.1 + 1) x1.2.1 x1.2.2.1))])⟩), (1, (gsE u8C [u8 0] 1 (ptG x.wf (x1.1 + 1) x1.2.1 x1.2.2.1))), (2, (gsE u8C [u8 0] 1 (ptG x.wf (x1.1 + 1) x1.2.2.2.1 x1.2.2.2.2)))], 4⟩ (.reg [(0, .g), (1, (.as (nat (x1.1 + 1)))), (2, .g)] .done))))))))))))) (.keep [0, 4, 5, 6, 9, 10, 11, 12] [0, 1, 2] 3 (.told ⟨[(0, .v (Value.slice x.wa x.wn x.wc)), (4, .v (ptr n1 0)), (5, .v (gsV (ptG x.wf x.wn x1.2.2.2.1 x1.2.2.2.2))), (6, .v (nat x.wn)), (9, .v (nat x.wn)), (10, .v (Value.slice x.wa x.wn x.wc)), (11, .v (nat x.wn)), (12, .v (Value.bool (decide (x.wn < x.wn))))], [(0, some ⟨n1, true, 0, (.lit [(gsV (ptG x.wf x.wn x1.2.1 x1.2.2.1))])⟩), (1, (gsE u8C [u8 0] 1 (ptG x.wf x.wn x1.2.1 x1.2.2.1))), (2, (gsE u8C [u8 0] 1 (ptG x.wf x.wn x1.2.2.2.1 x1.2.2.2.2)))], 3⟩ (.regn [(0, .g), (1, (.callO [(0, true), (1, true)] 2 1 (fun ns => gsV (ptG x.wf x.wn (ns.getD 0 0) (ns.getD 1 0))) (fun ns => [none, none, (gsE u8C [u8 0] 1 (ptG x.wf x.wn (ns.getD 0 0) (ns.getD 1 0)))]))), (2, .g), (3, .g), (4, .g)] (more (fun n26 => more (fun n27 => fun _ => .done))))))))))))))))) [] [3, 2] rfl
    (have f0 : x.wn ≤ 9223372036854775807 := hx.len; have f1 : x.wn ≤ 20 := hw.1; Eq.mp (by kernel_rfl) (And.intro (sk (sk trivial)) (fun (n1 : Nat) => And.intro (sk (sk (sk trivial))) ((And.intro (sk trivial) (And.intro (sk trivial) (And.intro (show (written_run_R1 x n1) ((0, 0, 0, 0, 0) : Nat × Nat × Nat × Nat × Nat) from (show (0 ≤ x.wn) from by omega)) (And.intro (@rfl St ((written_run_S1 x n1) ((0, 0, 0, 0, 0) : Nat × Nat × Nat × Nat × Nat))) (fun (x1 : Nat × Nat × Nat × Nat × Nat) (hx1 : (written_run_R1 x n1) x1) => have B0 : x1.1 ≤ x.wn := hx1; And.intro (sk (sk (And.intro (And.intro trivial (@is_len Try.prog 22 36 (.tmp 10) (by kernel_rfl) x.wa x.wn x.wc)) (And.intro (And.intro trivial (@is_lssn Try.prog 3 3 (.tmp 9) (.tmp 11)  x1.1 x.wn)) trivial)))) (And.intro trivial (And.intro (fun (h1 : (decide (x1.1 < x.wn)) = true) => have f3 : (x1.1 < x.wn) := (of_decide_eq_true h1); And.intro (Or.inl ⟨(show 0 < x.wn from by omega), rfl⟩ : famPt x (putB x)) (And.intro (sk (sk (And.intro (And.intro trivial (@is_ixSq Try.prog 22 36 (.tmp 15) (.tmp 16) 8 (by kernel_rfl) (by kernel_rfl) x.wb x.wo x.wn x.wc x1.1 x.wa (hx.ad (show 0 < x.wn from by omega)) (show x1.1 < x.wn from by omega))) (sk (And.intro (And.intro trivial (And.intro (show x1.1 < x.wn from by omega) (@rfl Value (ptr x.wb (x.wo + x1.1 * 8))))) trivial))))) (And.intro (sk (sk trivial)) (And.intro trivial (And.intro (fun (h2 : ((((x.wf x1.1).d) : Int) == 1) = true) => have f4 : ((((x.wf x1.1).d) : Int) == 1) = true := h2; And.intro (Or.inl ⟨(show 0 < x.wn from by omega), rfl⟩ : famPt x (putB x)) (fun (n2 n3 : Nat) => And.intro (sk (sk (sk (And.intro (And.intro trivial (@is_ixSq Try.prog 22 36 (.tmp 23) (.tmp 24) 8 (by kernel_rfl) (by kernel_rfl) x.wb x.wo x.wn x.wc x1.1 x.wa (hx.ad (show 0 < x.wn from by omega)) (show x1.1 < x.wn from by omega))) (sk (And.intro (And.intro trivial (And.intro (show x1.1 < x.wn from by omega) (@rfl Value (ptr x.wb (x.wo + x1.1 * 8 + 1))))) (And.intro (And.intro trivial (wr_pt (by have := smN_rng (x.wf x1.1).n; omega) (lenP_1 (eq_of_beq h2)) (wsmall_G (F := (famPt x)) n1 (ptG x.wf x1.1 x1.2.1 x1.2.2.1) ptG_ok (x.wf x1.1).n (show (ptG x.wf x1.1 x1.2.1 x1.2.2.1).n ≤ 60000 from by have := ptN_le hw x1.1 (by omega); have := hw.1; show ptN x.wf x1.1 ≤ _; omega)))) trivial))))))) (And.intro (Or.inl ⟨(show 0 < x.wn from by omega), rfl⟩ : famPt x (putB x)) (fun (n4 n5 n6 n7 : Nat) => And.intro (sk (sk (sk (And.intro (And.intro trivial (@is_ixSq Try.prog 22 36 (.tmp 30) (.tmp 31) 8 (by kernel_rfl) (by kernel_rfl) x.wb x.wo x.wn x.wc x1.1 x.wa (hx.ad (show 0 < x.wn from by omega)) (show x1.1 < x.wn from by omega))) (sk (And.intro (And.intro trivial (And.intro (show x1.1 < x.wn from by omega) (@rfl Value (ptr x.wb (x.wo + x1.1 * 8 + 1))))) (And.intro (And.intro trivial (rsmall_s (F := (famPt x)) ((x.wf x1.1).n))) (And.intro (And.intro trivial (app_pt (P := Try.prog) (t := 25) (ty := 25) (e := 5) (by kernel_rfl) aggb5 (by have := smN_rng (x.wf x1.1).n; omega) (lenP_1 (eq_of_beq h2)) x1.2.2.2.1 x1.2.2.2.2 (some ⟨n4, 0, none⟩) (smN ((x.wf x1.1).n) + n5) (some ⟨n4, false, 0, (spr (smN ((x.wf x1.1).n) + n5) (smN ((x.wf x1.1).n)) (fun k => u8 (smB ((x.wf x1.1).n) k)) (u8 0))⟩) src_spr (show ptN x.wf x1.1 ≤ 100000 ∧ smN (x.wf x1.1).n ≤ 100000 from by have := ptN_le hw x1.1 (by omega); have := hw.1; have h1 := smN_rng (x.wf x1.1).n; have h2 := byN_rng (x.wf x1.1).b.wn; have h3 := nwN_rng (x.wf x1.1).l.ln; have h4 := hw.2 _ (show x1.1 < x.wn from by omega); unfold smlP at h4; omega))) (sk trivial))))))))) (And.intro (sk (And.intro (And.intro trivial (@is_addn Try.prog 3 3 (.tmp 13) (.const (.int .i64 1))  x1.1 1 (show x1.1 + 1 ≤ 9223372036854775807 from by omega))) (sk trivial))) ((rnd (written_run_R1 x n1) (written_run_S1 x n1) (written_run_mu1 x n1) x1 ((x1.1 + 1, n2, n3, n6, n7) : Nat × Nat × Nat × Nat × Nat) (show (written_run_R1 x n1) ((x1.1 + 1, n2, n3, n6, n7) : Nat × Nat × Nat × Nat × Nat) ∧ (written_run_mu1 x n1) ((x1.1 + 1, n2, n3, n6, n7) : Nat × Nat × Nat × Nat × Nat) < (written_run_mu1 x n1) x1 from (show (((x1.1 + 1) ≤ x.wn)) ∧ (x.wn - (x1.1 + 1)) < (x.wn - x1.1) from by omega))))))))) (fun (h2 : ((((x.wf x1.1).d) : Int) == 1) = false) => have f4 : ((((x.wf x1.1).d) : Int) == 1) = false := h2; And.intro (sk (sk trivial)) (And.intro trivial (And.intro (fun (h3 : ((((x.wf x1.1).d) : Int) == 2) = true) => have f5 : ((((x.wf x1.1).d) : Int) == 2) = true := h3; And.intro (Or.inl ⟨(show 0 < x.wn from by omega), rfl⟩ : famPt x (putB x)) (fun (n8 n9 : Nat) => And.intro (sk (sk (sk (And.intro (And.intro trivial (@is_ixSq Try.prog 22 36 (.tmp 40) (.tmp 41) 8 (by kernel_rfl) (by kernel_rfl) x.wb x.wo x.wn x.wc x1.1 x.wa (hx.ad (show 0 < x.wn from by omega)) (show x1.1 < x.wn from by omega))) (sk (And.intro (And.intro trivial (And.intro (show x1.1 < x.wn from by omega) (@rfl Value (ptr x.wb (x.wo + x1.1 * 8 + 2))))) (And.intro (And.intro trivial (wr_pt (by decide) (lenP_2 (eq_of_beq h3)) (wnat_G (F := (famPt x)) n1 (ptG x.wf x1.1 x1.2.1 x1.2.2.1) ptG_ok (x.wf x1.1).a (show (ptG x.wf x1.1 x1.2.1 x1.2.2.1).n ≤ 60000 from by have := ptN_le hw x1.1 (by omega); have := hw.1; show ptN x.wf x1.1 ≤ _; omega)))) trivial))))))) (And.intro (Or.inl ⟨(show 0 < x.wn from by omega), rfl⟩ : famPt x (putB x)) (fun (n10 n11 n12 n13 : Nat) => And.intro (sk (sk (sk (And.intro (And.intro trivial (@is_ixSq Try.prog 22 36 (.tmp 47) (.tmp 48) 8 (by kernel_rfl) (by kernel_rfl) x.wb x.wo x.wn x.wc x1.1 x.wa (hx.ad (show 0 < x.wn from by omega)) (show x1.1 < x.wn from by omega))) (sk (And.intro (And.intro trivial (And.intro (show x1.1 < x.wn from by omega) (@rfl Value (ptr x.wb (x.wo + x1.1 * 8 + 2))))) (And.intro (And.intro trivial (rbytes_runs ((x.wf x1.1).a))) (And.intro (And.intro trivial (app_pt (P := Try.prog) (t := 25) (ty := 25) (e := 5) (by kernel_rfl) aggb5 (by decide) (lenP_2 (eq_of_beq h3)) x1.2.2.2.1 x1.2.2.2.2 (some ⟨n10, 0, none⟩) (32 + n11) (some ⟨n10, false, 0, (tabF 32 (fun k => u8 (bytesF ((x.wf x1.1).a) k)))⟩) src_tab (show ptN x.wf x1.1 ≤ 100000 ∧ 32 ≤ 100000 from by have := ptN_le hw x1.1 (by omega); have := hw.1; have h1 := smN_rng (x.wf x1.1).n; have h2 := byN_rng (x.wf x1.1).b.wn; have h3 := nwN_rng (x.wf x1.1).l.ln; have h4 := hw.2 _ (show x1.1 < x.wn from by omega); unfold smlP at h4; omega))) (sk trivial))))))))) (And.intro (sk (And.intro (And.intro trivial (@is_addn Try.prog 3 3 (.tmp 13) (.const (.int .i64 1))  x1.1 1 (show x1.1 + 1 ≤ 9223372036854775807 from by omega))) (sk trivial))) ((rnd (written_run_R1 x n1) (written_run_S1 x n1) (written_run_mu1 x n1) x1 ((x1.1 + 1, n8, n9, n12, n13) : Nat × Nat × Nat × Nat × Nat) (show (written_run_R1 x n1) ((x1.1 + 1, n8, n9, n12, n13) : Nat × Nat × Nat × Nat × Nat) ∧ (written_run_mu1 x n1) ((x1.1 + 1, n8, n9, n12, n13) : Nat × Nat × Nat × Nat × Nat) < (written_run_mu1 x n1) x1 from (show (((x1.1 + 1) ≤ x.wn)) ∧ (x.wn - (x1.1 + 1)) < (x.wn - x1.1) from by omega))))))))) (fun (h3 : ((((x.wf x1.1).d) : Int) == 2) = false) => have f5 : ((((x.wf x1.1).d) : Int) == 2) = false := h3; And.intro (sk (sk trivial)) (And.intro trivial (And.intro (fun (h4 : ((((x.wf x1.1).d) : Int) == 3) = true) => have f6 : ((((x.wf x1.1).d) : Int) == 3) = true := h4; And.intro (Or.inl ⟨(show 0 < x.wn from by omega), rfl⟩ : famPt x (putB x)) (fun (n14 n15 : Nat) => And.intro (sk (sk (sk (And.intro (And.intro trivial (@is_ixSq Try.prog 22 36 (.tmp 57) (.tmp 58) 8 (by kernel_rfl) (by kernel_rfl) x.wb x.wo x.wn x.wc x1.1 x.wa (hx.ad (show 0 < x.wn from by omega)) (show x1.1 < x.wn from by omega))) (sk (And.intro (And.intro trivial (And.intro (show x1.1 < x.wn from by omega) (@rfl Value (ptr x.wb (x.wo + x1.1 * 8 + 6))))) (And.intro (And.intro trivial (wr_pt (by have := byN_rng (x.wf x1.1).b.wn; omega) (lenP_3 (eq_of_beq h4)) (RunsO.mono (famPt_b (show x1.1 < x.wn from by omega)) (wbytes_G (F := famPt x) n1 (ptG x.wf x1.1 x1.2.1 x1.2.2.1) ptG_ok (x.wf x1.1).b (hx.el _ (show x1.1 < x.wn from by omega)).1 (by have := (hw.2 _ (show x1.1 < x.wn from by omega)).1; omega) (show (ptG x.wf x1.1 x1.2.1 x1.2.2.1).n ≤ 60000 from by have := ptN_le hw x1.1 (by omega); have := hw.1; show ptN x.wf x1.1 ≤ _; omega))))) trivial))))))) (And.intro (Or.inl ⟨(show 0 < x.wn from by omega), rfl⟩ : famPt x (putB x)) (fun (n16 n17 n18 n19 : Nat) => And.intro (sk (sk (sk (And.intro (And.intro trivial (@is_ixSq Try.prog 22 36 (.tmp 64) (.tmp 65) 8 (by kernel_rfl) (by kernel_rfl) x.wb x.wo x.wn x.wc x1.1 x.wa (hx.ad (show 0 < x.wn from by omega)) (show x1.1 < x.wn from by omega))) (sk (And.intro (And.intro trivial (And.intro (show x1.1 < x.wn from by omega) (@rfl Value (ptr x.wb (x.wo + x1.1 * 8 + 6))))) (And.intro (And.intro trivial (RunsF.mono (famPt_b (show x1.1 < x.wn from by omega)) (rbytes_G ((x.wf x1.1).b) (hx.el _ (show x1.1 < x.wn from by omega)).1 (by have := (hw.2 _ (show x1.1 < x.wn from by omega)).1; omega)))) (And.intro (And.intro trivial (app_pt (P := Try.prog) (t := 25) (ty := 25) (e := 5) (by kernel_rfl) aggb5 (by have := byN_rng (x.wf x1.1).b.wn; omega) (lenP_3 (eq_of_beq h4)) x1.2.2.2.1 x1.2.2.2.2 (some ⟨n16, 0, none⟩) (byN ((x.wf x1.1).b).wn + n17) (some ⟨n16, false, 0, (spr (byN ((x.wf x1.1).b).wn + n17) (byN ((x.wf x1.1).b).wn) (fun k => u8 (byB ((x.wf x1.1).b).wf ((x.wf x1.1).b).wn k)) (u8 0))⟩) src_spr (show ptN x.wf x1.1 ≤ 100000 ∧ byN (x.wf x1.1).b.wn ≤ 100000 from by have := ptN_le hw x1.1 (by omega); have := hw.1; have h1 := smN_rng (x.wf x1.1).n; have h2 := byN_rng (x.wf x1.1).b.wn; have h3 := nwN_rng (x.wf x1.1).l.ln; have h4 := hw.2 _ (show x1.1 < x.wn from by omega); unfold smlP at h4; omega))) (sk trivial))))))))) (And.intro (sk (And.intro (And.intro trivial (@is_addn Try.prog 3 3 (.tmp 13) (.const (.int .i64 1))  x1.1 1 (show x1.1 + 1 ≤ 9223372036854775807 from by omega))) (sk trivial))) ((rnd (written_run_R1 x n1) (written_run_S1 x n1) (written_run_mu1 x n1) x1 ((x1.1 + 1, n14, n15, n18, n19) : Nat × Nat × Nat × Nat × Nat) (show (written_run_R1 x n1) ((x1.1 + 1, n14, n15, n18, n19) : Nat × Nat × Nat × Nat × Nat) ∧ (written_run_mu1 x n1) ((x1.1 + 1, n14, n15, n18, n19) : Nat × Nat × Nat × Nat × Nat) < (written_run_mu1 x n1) x1 from (show (((x1.1 + 1) ≤ x.wn)) ∧ (x.wn - (x1.1 + 1)) < (x.wn - x1.1) from by omega))))))))) (fun (h4 : ((((x.wf x1.1).d) : Int) == 3) = false) => have f6 : ((((x.wf x1.1).d) : Int) == 3) = false := h4; And.intro (sk (sk trivial)) (And.intro trivial (And.intro (fun (h5 : ((((x.wf x1.1).d) : Int) == 4) = true) => have f7 : ((((x.wf x1.1).d) : Int) == 4) = true := h5; And.intro (Or.inl ⟨(show 0 < x.wn from by omega), rfl⟩ : famPt x (putB x)) (fun (n20 n21 : Nat) => And.intro (sk (sk (sk (And.intro (And.intro trivial (@is_ixSq Try.prog 22 36 (.tmp 74) (.tmp 75) 8 (by kernel_rfl) (by kernel_rfl) x.wb x.wo x.wn x.wc x1.1 x.wa (hx.ad (show 0 < x.wn from by omega)) (show x1.1 < x.wn from by omega))) (sk (And.intro (And.intro trivial (And.intro (show x1.1 < x.wn from by omega) (@rfl Value (ptr x.wb (x.wo + x1.1 * 8 + 7))))) (And.intro (And.intro trivial (wr_pt (by have := nwN_rng (x.wf x1.1).l.ln; omega) (lenP_4 (eq_of_beq h5)) (RunsO.mono (famPt_l (show x1.1 < x.wn from by omega)) (wnats_Q n1 (ptG x.wf x1.1 x1.2.1 x1.2.2.1) ptG_ok (x.wf x1.1).l (hx.el _ (show x1.1 < x.wn from by omega)).2.1 (by have := (hw.2 _ (show x1.1 < x.wn from by omega)).2; omega) (show (ptG x.wf x1.1 x1.2.1 x1.2.2.1).n ≤ 60000 from by have := ptN_le hw x1.1 (by omega); have := hw.1; show ptN x.wf x1.1 ≤ _; omega))))) trivial))))))) (And.intro (Or.inl ⟨(show 0 < x.wn from by omega), rfl⟩ : famPt x (putB x)) (fun (n22 n23 n24 n25 : Nat) => And.intro (sk (sk (sk (And.intro (And.intro trivial (@is_ixSq Try.prog 22 36 (.tmp 81) (.tmp 82) 8 (by kernel_rfl) (by kernel_rfl) x.wb x.wo x.wn x.wc x1.1 x.wa (hx.ad (show 0 < x.wn from by omega)) (show x1.1 < x.wn from by omega))) (sk (And.intro (And.intro trivial (And.intro (show x1.1 < x.wn from by omega) (@rfl Value (ptr x.wb (x.wo + x1.1 * 8 + 7))))) (And.intro (And.intro trivial (RunsF.mono (famPt_l (show x1.1 < x.wn from by omega)) (rnats_s ((x.wf x1.1).l) (hx.el _ (show x1.1 < x.wn from by omega)).2.1 (by have := (hw.2 _ (show x1.1 < x.wn from by omega)).2; omega)))) (And.intro (And.intro trivial (app_pt (P := Try.prog) (t := 25) (ty := 25) (e := 5) (by kernel_rfl) aggb5 (by have := nwN_rng (x.wf x1.1).l.ln; omega) (lenP_4 (eq_of_beq h5)) x1.2.2.2.1 x1.2.2.2.2 (some ⟨n22, 0, none⟩) (nwN ((x.wf x1.1).l).ln + n23) (some ⟨n22, false, 0, (spr (nwN ((x.wf x1.1).l).ln + n23) (nwN ((x.wf x1.1).l).ln) (fun k => u8 (nwB ((x.wf x1.1).l).lf ((x.wf x1.1).l).ln k)) (u8 0))⟩) src_spr (show ptN x.wf x1.1 ≤ 100000 ∧ nwN (x.wf x1.1).l.ln ≤ 100000 from by have := ptN_le hw x1.1 (by omega); have := hw.1; have h1 := smN_rng (x.wf x1.1).n; have h2 := byN_rng (x.wf x1.1).b.wn; have h3 := nwN_rng (x.wf x1.1).l.ln; have h4 := hw.2 _ (show x1.1 < x.wn from by omega); unfold smlP at h4; omega))) (sk trivial))))))))) (And.intro (sk (And.intro (And.intro trivial (@is_addn Try.prog 3 3 (.tmp 13) (.const (.int .i64 1))  x1.1 1 (show x1.1 + 1 ≤ 9223372036854775807 from by omega))) (sk trivial))) ((rnd (written_run_R1 x n1) (written_run_S1 x n1) (written_run_mu1 x n1) x1 ((x1.1 + 1, n20, n21, n24, n25) : Nat × Nat × Nat × Nat × Nat) (show (written_run_R1 x n1) ((x1.1 + 1, n20, n21, n24, n25) : Nat × Nat × Nat × Nat × Nat) ∧ (written_run_mu1 x n1) ((x1.1 + 1, n20, n21, n24, n25) : Nat × Nat × Nat × Nat × Nat) < (written_run_mu1 x n1) x1 from (show (((x1.1 + 1) ≤ x.wn)) ∧ (x.wn - (x1.1 + 1)) < (x.wn - x1.1) from by omega))))))))) (fun (h5 : ((((x.wf x1.1).d) : Int) == 4) = false) => have f7 : ((((x.wf x1.1).d) : Int) == 4) = false := h5; And.intro (show (⟨[(0, .v (Value.slice x.wa x.wn x.wc)), (4, .v (ptr n1 0)), (5, .v (gsV (ptG x.wf x1.1 x1.2.2.2.1 x1.2.2.2.2))), (6, .v (nat x1.1))], [(0, some ⟨n1, true, 0, (.lit [(gsV (ptG x.wf x1.1 x1.2.1 x1.2.2.1))])⟩), (1, (gsE u8C [u8 0] 1 (ptG x.wf x1.1 x1.2.1 x1.2.2.1))), (2, (gsE u8C [u8 0] 1 (ptG x.wf x1.1 x1.2.2.2.1 x1.2.2.2.2)))], 4⟩ : St) = ⟨[(0, .v (Value.slice x.wa x.wn x.wc)), (4, .v (ptr n1 0)), (5, .v (gsV (ptG x.wf (x1.1 + 1) x1.2.2.2.1 x1.2.2.2.2))), (6, .v (nat x1.1))], [(0, some ⟨n1, true, 0, (.lit [(gsV (ptG x.wf (x1.1 + 1) x1.2.1 x1.2.2.1))])⟩), (1, (gsE u8C [u8 0] 1 (ptG x.wf (x1.1 + 1) x1.2.1 x1.2.2.1))), (2, (gsE u8C [u8 0] 1 (ptG x.wf (x1.1 + 1) x1.2.2.2.1 x1.2.2.2.2)))], 4⟩ from by rw [ptG_same (f := x.wf) (i := x1.1) (lenP_0 (ne_of_beq_false h2) (ne_of_beq_false h3) (ne_of_beq_false h4) (ne_of_beq_false h5)) x1.2.1 x1.2.2.1, ptG_same (f := x.wf) (i := x1.1) (lenP_0 (ne_of_beq_false h2) (ne_of_beq_false h3) (ne_of_beq_false h4) (ne_of_beq_false h5)) x1.2.2.2.1 x1.2.2.2.2]) (And.intro (sk (And.intro (And.intro trivial (@is_addn Try.prog 3 3 (.tmp 13) (.const (.int .i64 1))  x1.1 1 (show x1.1 + 1 ≤ 9223372036854775807 from by omega))) (sk trivial))) ((rnd (written_run_R1 x n1) (written_run_S1 x n1) (written_run_mu1 x n1) x1 ((x1.1 + 1, x1.2.1, x1.2.2.1, x1.2.2.2.1, x1.2.2.2.2) : Nat × Nat × Nat × Nat × Nat) (show (written_run_R1 x n1) ((x1.1 + 1, x1.2.1, x1.2.2.1, x1.2.2.2.1, x1.2.2.2.2) : Nat × Nat × Nat × Nat × Nat) ∧ (written_run_mu1 x n1) ((x1.1 + 1, x1.2.1, x1.2.2.1, x1.2.2.2.1, x1.2.2.2.2) : Nat × Nat × Nat × Nat × Nat) < (written_run_mu1 x n1) x1 from (show (((x1.1 + 1) ≤ x.wn)) ∧ (x.wn - (x1.1 + 1)) < (x.wn - x1.1) from by omega)))))))))))))))))))) (fun (h1 : (decide (x1.1 < x.wn)) = false) => have f3 : ¬ (x1.1 < x.wn) := (of_decide_eq_false h1); And.intro (show (⟨[(0, .v (Value.slice x.wa x.wn x.wc)), (4, .v (ptr n1 0)), (5, .v (gsV (ptG x.wf x1.1 x1.2.2.2.1 x1.2.2.2.2))), (6, .v (nat x1.1)), (9, .v (nat x1.1)), (10, .v (Value.slice x.wa x.wn x.wc)), (11, .v (nat x.wn)), (12, .v (Value.bool (decide (x1.1 < x.wn))))], [(0, some ⟨n1, true, 0, (.lit [(gsV (ptG x.wf x1.1 x1.2.1 x1.2.2.1))])⟩), (1, (gsE u8C [u8 0] 1 (ptG x.wf x1.1 x1.2.1 x1.2.2.1))), (2, (gsE u8C [u8 0] 1 (ptG x.wf x1.1 x1.2.2.2.1 x1.2.2.2.2)))], 3⟩ : St) = ⟨[(0, .v (Value.slice x.wa x.wn x.wc)), (4, .v (ptr n1 0)), (5, .v (gsV (ptG x.wf x.wn x1.2.2.2.1 x1.2.2.2.2))), (6, .v (nat x.wn)), (9, .v (nat x.wn)), (10, .v (Value.slice x.wa x.wn x.wc)), (11, .v (nat x.wn)), (12, .v (Value.bool (decide (x.wn < x.wn))))], [(0, some ⟨n1, true, 0, (.lit [(gsV (ptG x.wf x.wn x1.2.1 x1.2.2.1))])⟩), (1, (gsE u8C [u8 0] 1 (ptG x.wf x.wn x1.2.1 x1.2.2.1))), (2, (gsE u8C [u8 0] 1 (ptG x.wf x.wn x1.2.2.2.1 x1.2.2.2.2)))], 3⟩ from by have ee : x1.1 = x.wn := (by omega); rw [ee]) (fun (n26 n27 : Nat) => And.intro (sk (And.intro (And.intro trivial (wout_G (F := (famPt x)) n1 (ptG x.wf x.wn x1.2.1 x1.2.2.1) ptG_ok (fun h => (show 0 < ptN x.wf x.wn from by have := of_decide_eq_false h; omega)) (show (ptG x.wf x.wn x1.2.1 x1.2.2.1).n ≤ 100000 from by have := ptN_le hw x.wn (Nat.le_refl _); have := hw.1; show ptN x.wf x.wn ≤ _; omega))) (sk (sk (sk trivial))))) (And.intro trivial (@Exists.intro (List Nat) (fun (ns : List Nat) => ns.length = 4 ∧ ((Value.tuple #[(gsV (ptG x.wf x.wn n26 n27)), (gsV (ptG x.wf x.wn x1.2.2.2.1 x1.2.2.2.2))]) : Value) = (fun (ns : List Nat) => (Value.tuple #[(gsV (ptG x.wf x.wn (ns.getD 0 0) (ns.getD 1 0))), (gsV (ptG x.wf x.wn (ns.getD 2 0) (ns.getD 3 0)))])) ns ∧ ([(gsE u8C [u8 0] 1 (ptG x.wf x.wn n26 n27)), (gsE u8C [u8 0] 1 (ptG x.wf x.wn x1.2.2.2.1 x1.2.2.2.2))] : List (Option Blk)) = (fun (ns : List Nat) => [(gsE u8C [u8 0] 1 (ptG x.wf x.wn (ns.getD 0 0) (ns.getD 1 0))), (gsE u8C [u8 0] 1 (ptG x.wf x.wn (ns.getD 2 0) (ns.getD 3 0)))]) ns) [n26, n27, x1.2.2.2.1, x1.2.2.2.2] (And.intro (@rfl Nat 4) (And.intro (@rfl Value (Value.tuple #[(gsV (ptG x.wf x.wn n26 n27)), (gsV (ptG x.wf x.wn x1.2.2.2.1 x1.2.2.2.2))])) (@rfl (List (Option Blk)) [(gsE u8C [u8 0] 1 (ptG x.wf x.wn n26 n27)), (gsE u8C [u8 0] 1 (ptG x.wf x.wn x1.2.2.2.1 x1.2.2.2.2))]))))))))))))))))))
end Go.Proofs.Ytelpmalmknpogaa
end
