/-
  An engine for walks, fourteenth part: from a law that hands back true to its row: arguments are taken apart; they read as they did.
-/
import Derived.Test.YthapokgokbfibaaEngM
import Derived.WalkKit
import Derived.ProofKit
import Derived.OpenShut
import Derived.Laws.IdiomArrays
namespace Go.Eng
open Go.ChangeShapes Go.WideShapes Go.ChangeAt Go.RowKit

theorem below_of_adv {m m' : Nat → Option Blk} {w w' : World} (h : Adv m w m' w') (hm : ∀ p b, m p = some b → b.own = false) : Below w.heap.size w w' :=
  ⟨h.os, h.tape, h.output, h.size, fun k hk => h.heap k hk fun ⟨p, b, h1, h2, _⟩ => by rw [hm p b h1] at h2; cases h2⟩

/-- What is read alone is left as it was. -/
theorem runs_below {P : Program} {f : FuncId} {args : List Value} {bs : List Blk} {v : Value} (h : Runs P f args bs 0 (fun _ => v) (fun _ => [])) (hro : ∀ b ∈ bs, b.own = false) {w : World}
    (hb : ∀ b ∈ bs, Holds b w) : Calls P f args.toArray w fun e w' => e = .returned v ∧ Below w.heap.size w w' := by
  have hm : ∀ p b, listMem (bs.map some) p = some b → b.own = false := fun p b hp => hro b (List.mem_of_getElem? (listMem_some.1 hp))
  have ha : Apart (listMem (bs.map some)) := fun p q b c _ hp _ ho => by rw [hm p b hp] at ho; cases ho
  refine Calls.mono (h w hb ha) ?_
  rintro e w' ⟨ns, _, rfl, hp⟩
  exact ⟨rfl, below_of_adv hp.adv hm⟩

theorem pure_below {P : Program} {f : FuncId} {args : List Value} {v : Value} (h : Pure P f args v) (w : World) : Calls P f args.toArray w fun e w' => e = .returned v ∧ Below w.heap.size w w' :=
  runs_below h (by simp) (by simp)

variable {H : Type} {enc : TypeId × Value → H} {P : Program}

def allRead (P : Program) (ts : List TypeId) : Bool := ts.all fun t => P.readableRec t && Nat.blt t P.types.size

theorem trodAll_stays (hl : laidOutB P = true) {W W' : World} {sp : Nat → Bool} : ∀ {ts : List TypeId} {vs : List Value} {ds : List (DataW H)} {ps : List MemPlace}, allRead P ts = true →
    DataW.TrodAll enc P W 0 (fun _ => true) true ts vs ds ps → (∀ x ∈ ps, W.sameAt W' x) → (∀ x ∈ ps, sp x.block = true) → DataW.TrodAll enc P W' 0 sp true ts vs ds ps
  | [], vs, ds, ps, _, h, _, _ => by
    obtain ⟨rfl, rfl, rfl⟩ := trodAll_nil h
    rfl
  | t :: ts, vs, ds, ps, hr, h, hs, hp => by
    obtain ⟨v, vs', d, ds', p, q, rfl, rfl, rfl, h1, h2⟩ := trodAll_cons h
    simp only [allRead, List.all_cons, Bool.and_eq_true] at hr
    have ht : t < P.types.size := by have := hr.1.2; rw [Nat.blt_eq] at this; exact this
    exact ⟨p, q, WideElems.Trod_stays hl hr.1.1 ht h1 (fun x hx => hs x (by simp [hx])) (fun x hx => hp x (by simp [hx])),
      trodAll_stays hl hr.2 h2 (fun x hx => hs x (by simp [hx])) (fun x hx => hp x (by simp [hx])), rfl⟩

theorem law_post {f : Func} {s : ChangeSpec} {tb : TypeId} (hl : laidOutB P = true) (hts : allRead P f.params.toList = true) (hrt : f.resultTypes = #[tb]) (hb : P.underlying tb = some .bool) (hvars : s.vars = [])
    {W W' : World} {args : Array Value} {ds gs : List (DataW H)} {before : List MemPlace} (hW : DataW.Whole enc P f.params.toList s.vars false W args.toList ds gs before)
    (hfn : (s.fn H (ds ++ gs)).results = [.lit (.bool true)] ∧ (s.fn H (ds ++ gs)).args = ds ∧ (s.fn H (ds ++ gs)).vars = []) (hbel : Below W.heap.size W W') :
    s.post enc P f false true false false W args (.bool true) W' := by
  have hlt := hW.lt
  obtain ⟨p, q, hA, hV, hpq, hfz, hnd⟩ := hW
  rw [hvars] at hV
  obtain ⟨hgs, hq⟩ := trodVars_none hV
  have hsame : ∀ x ∈ p, W.sameAt W' x := fun x hx => hbel.same (hlt x (by rw [hpq]; simp [hx]))
  obtain ⟨h1, h2, h3⟩ := hfn
  have hrl : (Value.bool true).resultList f.resultTypes.size = [.bool true] := by rw [hrt]; rfl
  have hfree : ∀ x ∈ before, x.block < W.heap.size := fun x hx => hlt x hx
  refine ⟨ds, gs, before, [], p, [], ⟨p, q, hA, by rw [hvars]; exact hV, hpq, hfz, hnd⟩, ?_, ?_, ?_, World.keptBut_mono (fun _ h => h.elim) (Below.frame hbel (fun _ => False)), fun h => by cases h⟩
  · rw [h1, hrl, hrt]
    exact trodAll_cons_mk (shut_bool hb true) trodAll_mk0
  · rw [h2]
    exact trodAll_stays hl hts hA hsame (fun x hx => by simpa using hlt x (by rw [hpq]; simp [hx]))
  · rw [h3, hvars]; rfl

/-! ### arguments -/
theorem u64_of {n : Int} (h : (Lit.int .u64 n).wf = true) : ∃ x : UInt64, Value.int .u64 n = u64 x := by
  have hx : 0 ≤ n ∧ n ≤ 18446744073709551615 := by simpa [Lit.wf, IntKind.min, IntKind.max, IntKind.signed, IntKind.bits] using h
  refine ⟨.ofNat n.toNat, ?_⟩
  unfold u64
  rw [UInt64.toNat_ofNat', Nat.mod_eq_of_lt (by omega)]
  congr 1
  omega

theorem open_u64 {r : Reach} {b0 : Nat} {W : World} {base : Nat} {sp : Nat → Bool} {held : Bool} {t : TypeId} {v : Value} {d : DataW H} {ps : List MemPlace} (ht : P.underlying t = some (.int .u64)) (hval : Value.okWide P W r b0 t v)
    (hd : DataW.Trod enc P W base sp held t v d ps) : ∃ x : UInt64, v = u64 x := by
  obtain ⟨n, rfl, _, _, hw⟩ := open_int ht hval hd
  exact u64_of hw

theorem open_i64 {r : Reach} {b0 : Nat} {W : World} {base : Nat} {sp : Nat → Bool} {held : Bool} {t : TypeId} {v : Value} {d : DataW H} {ps : List MemPlace} (ht : P.underlying t = some (.int .i64)) (hval : Value.okWide P W r b0 t v)
    (hd : DataW.Trod enc P W base sp held t v d ps) : ∃ x : Int, v = int x ∧ -9223372036854775808 ≤ x ∧ x ≤ 9223372036854775807 := by
  obtain ⟨n, rfl, _, _, hw⟩ := open_int ht hval hd
  have hx : -9223372036854775808 ≤ n ∧ n ≤ 9223372036854775807 := by simpa [Lit.wf, IntKind.min, IntKind.max, IntKind.signed, IntKind.bits] using hw
  exact ⟨n, rfl, hx.1, hx.2⟩

theorem list4 {α : Type} (l : List α) (h : l.length = 4) : ∃ a b c d, l = [a, b, c, d] := by
  match l, h with
  | [a, b, c, d], _ => exact ⟨a, b, c, d, rfl⟩

theorem nat4_of_row {W : World} {base : Nat} {sp : Nat → Bool} {held : Bool} {t e : TypeId} (ht : P.underlying t = some (.array 4 e)) (he : P.underlying e = some (.int .u64)) (hc : P.cellsOf e = 1)
    {cs : List Value} (hl : cs.length = 4) {fuel : Nat} {z : DataW H × List MemPlace} (hf : DataW.trod enc P W base sp held fuel t cs = some z) : ∃ x : N4, cs = [u64 x.a, u64 x.b, u64 x.c, u64 x.d] := by
  obtain ⟨c0, c1, c2, c3, rfl⟩ := list4 cs hl
  obtain ⟨y0, y1, y2, y3, m, hx, hy0, hy1, hy2, hy3⟩ := trod_array4 ht hc hf
  obtain ⟨x0, e0, _, w0⟩ := DataW.trod_int he hy0
  obtain ⟨x1, e1, _, w1⟩ := DataW.trod_int he hy1
  obtain ⟨x2, e2, _, w2⟩ := DataW.trod_int he hy2
  obtain ⟨x3, e3, _, w3⟩ := DataW.trod_int he hy3
  simp at e0 e1 e2 e3
  subst e0 e1 e2 e3
  obtain ⟨a, ha⟩ := u64_of w0
  obtain ⟨b, hb⟩ := u64_of w1
  obtain ⟨c, hc⟩ := u64_of w2
  obtain ⟨d, hd⟩ := u64_of w3
  rw [ha, hb, hc, hd]
  exact ⟨⟨a, b, c, d⟩, rfl⟩

theorem open_nat4 {r : Reach} {b0 : Nat} {W : World} {base : Nat} {sp : Nat → Bool} {held : Bool} {t e : TypeId} {v : Value} {d : DataW H} {ps : List MemPlace} (ht : P.underlying t = some (.array 4 e)) (he : P.underlying e = some (.int .u64))
    (hc : P.cellsOf e = 1) (hct : P.cellsOf t = 4) (hval : Value.okWide P W r b0 t v) (hd : DataW.Trod enc P W base sp held t v d ps) : ∃ x : N4, v = nat4 x := by
  obtain ⟨cs, rfl, hsz, _⟩ : ∃ cs, v = .agg cs ∧ cs.size = P.cellsOf t ∧ Row.okWide P W r b0 t cs := by
    simpa [Value.okWide, ht] using hval
  obtain ⟨l⟩ := cs
  obtain ⟨fuel, hf⟩ := hd
  obtain ⟨x, hx⟩ := nat4_of_row ht he hc (by show l.length = 4; simpa [hct] using hsz) hf
  have : l = [u64 x.a, u64 x.b, u64 x.c, u64 x.d] := hx
  subst this
  exact ⟨x, rfl⟩

end Go.Eng
