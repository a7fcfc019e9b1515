/-
  Slices of what is done: three numbers, a number, and a slice of numbers.
-/
import Derived.Test.YtekbbehnlohikaaPurse
namespace Go.Eng
open Go.RowKit Go.WideShapes Go.ChangeShapes Go.ChangeAt Go.Deep
set_option linter.unusedSimpArgs false
set_option linter.unusedVariables false
set_option maxRecDepth 100000

structure OpR where
  d : Int
  f : Int
  t : Int
  n : UInt64
  wa : Option Addr
  wn : Nat
  wc : Nat
  wb : Nat
  wo : Nat
  wg : Nat → UInt64
def opC (r : OpR) : List Value := [int r.d, int r.f, int r.t, u64 r.n, .slice r.wa r.wn r.wc]
def tabO (n : Nat) (f : Nat → OpR) : Cont := .tab n 5 fun k => opC (f k)
def opB (r : OpR) : Blk := ⟨r.wb, false, r.wo, tabF r.wn fun k => u64 (r.wg k)⟩
structure OkA (r : OpR) : Prop where
  dl : -9223372036854775808 ≤ r.d
  dh : r.d ≤ 9223372036854775807
  fl : -9223372036854775808 ≤ r.f
  fh : r.f ≤ 9223372036854775807
  tl : -9223372036854775808 ≤ r.t
  th : r.t ≤ 9223372036854775807
  ad : 0 < r.wn → r.wa = some ⟨r.wb, r.wo, none⟩
  len : r.wn ≤ 9223372036854775807
structure OkO (W : World) (r : OpR) : Prop extends OkA r where
  blk : Holds (opB r) W
def opT (P : Program) (e i u s : TypeId) : Bool := match P.underlying e with
  | some (.struct fs) => match fs.toList with
    | [f0, f1, f2, f3, f4] => (Nat.beq f0.type i && Nat.beq f0.offset 0) && ((Nat.beq f1.type i && Nat.beq f1.offset 1) && ((Nat.beq f2.type i && Nat.beq f2.offset 2) && ((Nat.beq f3.type u && Nat.beq f3.offset 3) && (Nat.beq f4.type s && Nat.beq f4.offset 4))))
    | _ => false
  | _ => false
theorem opT_get {P : Program} {e i u s : TypeId} (h : opT P e i u s = true) : ∃ f0 f1 f2 f3 f4 : Field, P.underlying e = some (.struct #[f0, f1, f2, f3, f4]) ∧ (f0.type = i ∧ f0.offset = 0) ∧ (f1.type = i ∧ f1.offset = 1) ∧ (f2.type = i ∧ f2.offset = 2) ∧ (f3.type = u ∧ f3.offset = 3) ∧ (f4.type = s ∧ f4.offset = 4) := by
  unfold opT at h
  split at h
  · rename_i fs hf
    split at h
    · rename_i f0 f1 f2 f3 f4 hl
      simp only [Bool.and_eq_true] at h
      obtain ⟨⟨a0, b0⟩, ⟨a1, b1⟩, ⟨a2, b2⟩, ⟨a3, b3⟩, ⟨a4, b4⟩⟩ := h
      refine ⟨f0, f1, f2, f3, f4, ?_, ⟨Nat.eq_of_beq_eq_true a0, Nat.eq_of_beq_eq_true b0⟩, ⟨Nat.eq_of_beq_eq_true a1, Nat.eq_of_beq_eq_true b1⟩, ⟨Nat.eq_of_beq_eq_true a2, Nat.eq_of_beq_eq_true b2⟩, ⟨Nat.eq_of_beq_eq_true a3, Nat.eq_of_beq_eq_true b3⟩, ⟨Nat.eq_of_beq_eq_true a4, Nat.eq_of_beq_eq_true b4⟩⟩
      rw [hf]
      have : fs = #[f0, f1, f2, f3, f4] := by cases fs; simp_all
      rw [this]
    · cases h
  · cases h
section
variable {H : Type} {enc : TypeId × Value → H} {P : Program}
theorem int_cell {W : World} {base : Nat} {sp : Nat → Bool} {held : Bool} {i : TypeId} (hi : P.underlying i = some (.int .i64)) {c : Value} {fuel : Nat} {z : DataW H × List MemPlace} (h : DataW.trod enc P W base sp held fuel i [c] = some z) :
    ∃ x : Int, c = int x ∧ -9223372036854775808 ≤ x ∧ x ≤ 9223372036854775807 := by
  obtain ⟨x0, e0, _, w0⟩ := DataW.trod_int hi h
  simp at e0
  have hx : -9223372036854775808 ≤ x0 ∧ x0 ≤ 9223372036854775807 := by simpa [Lit.wf, IntKind.min, IntKind.max, IntKind.signed, IntKind.bits] using w0
  exact ⟨x0, e0, hx.1, hx.2⟩
theorem u64_cell {W : World} {base : Nat} {sp : Nat → Bool} {held : Bool} {i : TypeId} (hi : P.underlying i = some (.int .u64)) {c : Value} {fuel : Nat} {z : DataW H × List MemPlace} (h : DataW.trod enc P W base sp held fuel i [c] = some z) :
    ∃ x : UInt64, c = u64 x := by
  obtain ⟨x0, e0, _, w0⟩ := DataW.trod_int hi h
  simp at e0
  obtain ⟨x, hx⟩ := u64_of w0
  exact ⟨x, e0.trans hx⟩
theorem slice_cell {W : World} {base : Nat} {sp : Nat → Bool} {held : Bool} {s u : TypeId} (hs : P.underlying s = some (.slice u)) (hu : P.underlying u = some (.int .u64)) (hc : P.cellsOf u = 1) {c : Value} {fuel : Nat} {z : DataW H × List MemPlace}
    (h : DataW.trod enc P W base sp held fuel s [c] = some z) {p : Nat} (hp : p < W.heap.size) :
    ∃ (wa : Option Addr) (wn wc wb wo : Nat) (wg : Nat → UInt64), c = .slice wa wn wc ∧ (0 < wn → wa = some ⟨wb, wo, none⟩) ∧ wn ≤ 9223372036854775807 ∧ Holds ⟨wb, false, wo, tabF wn fun k => u64 (wg k)⟩ W := by
  have none0 : Holds ⟨p, false, 0, tabF 0 fun k => u64 ((fun _ => 0 : Nat → UInt64) k)⟩ W := ⟨hp, (fun o v ho => by rw [tabF_out (by omega)] at ho; cases ho), (fun h => by cases h)⟩
  rcases open_slice1 hs hc h with ⟨hcs, _⟩ | ⟨a, len, cap, m, n, V, D, Pl, hcs, _, hl, hm, hmm, _, hx⟩
  · simp at hcs
    exact ⟨none, 0, 0, p, 0, fun _ => 0, hcs, fun h => by omega, by omega, none0⟩
  · simp at hcs
    by_cases h0 : len = 0
    · subst h0
      exact ⟨some a, 0, cap, p, 0, fun _ => 0, hcs, fun h => by omega, by omega, none0⟩
    · have hlm : len ≤ m := by rw [hmm]; split <;> omega
      have hspot : a.spot = none := World.cell?_spot (by
        have := (hx 0 (by omega)).1
        rwa [show a.add 0 = a from by cases a; simp [Addr.add]] at this)
      obtain ⟨ab, ao, spot⟩ := a
      simp only at hspot
      subst hspot
      have hV : ∀ i, i < len → ∃ x : UInt64, V i = u64 x := fun i hi => u64_cell hu (hx i (by omega)).2
      obtain ⟨f, hfV⟩ := choose_lt (α := UInt64) (p := fun i x => V i = u64 x) hV
      refine ⟨some ⟨ab, ao, none⟩, len, cap, ab, ao, f, hcs, fun _ => rfl, by unfold maxLen at hm; omega, ⟨lt_of_cell (hx 0 (by omega)).1, fun o v ho => ?_, fun h => by cases h⟩⟩
      by_cases hol : o < len
      · rw [tabF_in hol] at ho
        injection ho with ho
        have := (hx o (by omega)).1
        rw [add_none] at this
        rw [this, hfV o hol, ho]
      · rw [tabF_out hol] at ho; cases ho
theorem open_ops {r : Reach} {b0 : Nat} {W : World} {base : Nat} {sp : Nat → Bool} {held : Bool} {t e i u s : TypeId} {v : Value} {d : DataW H} {ps : List MemPlace} (ht : P.underlying t = some (.slice e)) (he : opT P e i u s = true)
    (hi : P.underlying i = some (.int .i64)) (hu : P.underlying u = some (.int .u64)) (hs : P.underlying s = some (.slice u)) (ci : P.cellsOf i = 1) (cu : P.cellsOf u = 1) (cs1 : P.cellsOf s = 1) (ce : P.cellsOf e = 5)
    (hval : Value.okWide P W r b0 t v) (hd : DataW.Trod enc P W base sp held t v d ps) :
    (∃ ao c, v = .slice ao 0 c) ∨ ∃ (b o n c : Nat) (f : Nat → OpR), v = .slice (some ⟨b, o, none⟩) n c ∧ 0 < n ∧ n ≤ 9223372036854775807 ∧ Holds ⟨b, false, o, tabO n f⟩ W ∧ ∀ k, OkO W (f k) := by
  haveI : Inhabited {l : List Value // l.length = 5} := ⟨⟨[undef, undef, undef, undef, undef], rfl⟩⟩
  rcases open_sliceE (α := {l : List Value // l.length = 5}) (fun l => l.1) (sz := 5) (fun a => a.2) (by decide) ht ce (fun n cs x hl _ => ⟨⟨cs, hl⟩, rfl⟩) hval hd with h0 | ⟨p, _, _, _, _, _, _, _, hp⟩
  · exact .inl h0
  · have hlt : p < W.heap.size := hp.lt
    have dflt : OkO W ⟨0, 0, 0, 0, none, 0, 0, p, 0, fun _ => 0⟩ := ⟨⟨by simp, by simp, by simp, by simp, by simp, by simp, (fun h => by cases h), by simp⟩, ⟨hlt, (fun o v ho => by rw [opB] at ho; simp only at ho; rw [tabF_out (by omega)] at ho; cases ho), (fun h => by cases h)⟩⟩
    obtain ⟨f0, f1, f2, f3, f4, hst, g0, g1, g2, g3, g4⟩ := opT_get he
    haveI : Inhabited {a : OpR // OkO W a} := ⟨⟨_, dflt⟩⟩
    rcases open_sliceE (α := {a : OpR // OkO W a}) (fun a => opC a.1) (sz := 5) (fun _ => rfl) (by decide) ht ce (fun n cs x hl h => by
      obtain ⟨xs, m, _, _, _, hlen, hf⟩ := DataW.trod_struct hst h
      obtain ⟨c0, c1, c2, c3, c4, rfl⟩ : ∃ c0 c1 c2 c3 c4, cs = [c0, c1, c2, c3, c4] := by
        match cs, hl with
        | [c0, c1, c2, c3, c4], _ => exact ⟨c0, c1, c2, c3, c4, rfl⟩
      obtain ⟨y0, y1, y2, y3, y4, rfl⟩ : ∃ y0 y1 y2 y3 y4, xs = [y0, y1, y2, y3, y4] := by
        match xs, hlen with
        | [y0, y1, y2, y3, y4], _ => exact ⟨y0, y1, y2, y3, y4, rfl⟩
      have k0 := hf 0 f0 rfl
      have k1 := hf 1 f1 rfl
      have k2 := hf 2 f2 rfl
      have k3 := hf 3 f3 rfl
      have k4 := hf 4 f4 rfl
      rw [g0.1, g0.2, ci] at k0
      rw [g1.1, g1.2, ci] at k1
      rw [g2.1, g2.2, ci] at k2
      rw [g3.1, g3.2, cu] at k3
      rw [g4.1, g4.2, cs1] at k4
      obtain ⟨x0, rfl, l0, h0⟩ := int_cell hi (c := c0) k0
      obtain ⟨x1, rfl, l1, h1⟩ := int_cell hi (c := c1) k1
      obtain ⟨x2, rfl, l2, h2⟩ := int_cell hi (c := c2) k2
      obtain ⟨x3, rfl⟩ := u64_cell hu (c := c3) k3
      obtain ⟨wa, wn, wc, wb, wo, wg, rfl, q1, q2, q3⟩ := slice_cell hs hu cu (c := c4) k4 hlt
      exact ⟨⟨⟨x0, x1, x2, x3, wa, wn, wc, wb, wo, wg⟩, ⟨⟨l0, h0, l1, h1, l2, h2, q1, q2⟩, q3⟩⟩, rfl⟩) hval hd with h0 | ⟨b, o, n, c, f, e1, e2, e3, e4⟩
    · exact .inl h0
    · exact .inr ⟨b, o, n, c, fun k => (f k).1, e1, e2, e3, e4, fun k => (f k).2⟩
end
/-- The blocks of what is done. -/
def famO (f : Nat → OpR) (b : Blk) : Prop := ∃ k, b = opB (f k)
theorem famO_at (f : Nat → OpR) (k : Nat) : famO f (opB (f k)) := ⟨k, rfl⟩
/-- A law whose arguments lie in memory, and hold slices. -/
theorem runsF_law {F : Blk → Prop} {P : Program} {f : FuncId} {args : List Value} {bs : List Blk} {v : Value} {out : List Nat → List (Option Blk)} {W : World} (h : RunsF F P f args bs 0 (fun _ => v) out) (hb : ∀ b ∈ bs, Holds b W) (hro : ∀ b ∈ bs, b.own = false)
    (hF : ∀ b, F b → Holds b W ∧ b.own = false) : Calls P f args.toArray W fun e w' => e = .returned v ∧ Below W.heap.size W w' := by
  have hl : ∀ p b, listMem (bs.map some) p = some b → b.own = false := fun p b hp => hro b (List.mem_of_getElem? (listMem_some.1 hp))
  refine Calls.mono (h W hb (fun p q x y _ hx _ ho => ?_) fun b hb => ⟨(hF b hb).1, (hF b hb).2, fun ⟨p, x, hp, ho, _⟩ => ?_⟩) fun e w' ⟨ns, _, he, hp⟩ => ⟨he, below_of_adv hp.adv hl⟩
  · rw [hl p x hx] at ho; cases ho
  · rw [hl p x hp] at ho; cases ho
end Go.Eng
