/-
  Many in one: LimbByt, EngZ, Purse, EngT, EngU, EngV.
-/
import Derived.Test.YtchkbchbfilipaaZStakeStays6
import Derived.Deep.Slices
section
namespace Go.Eng
section
variable {P : Program} {t t' : TypeId} {x y : Operand} (a b : UInt8)
end
end Go.Eng
namespace Go.Eng
section bytesin
open Go.ChangeShapes Go.WideShapes Go.ChangeAt Go.RowKit Go.Deep
variable {H : Type} {enc : TypeId × Value → H} {P : Program}
theorem lt_of_cell {W : World} {a : Addr} {v : Value} (h : W.cell? a = some v) : a.block < W.heap.size := by
  by_cases hlt : a.block < W.heap.size
  · exact hlt
  · have : W.heap[a.block]? = none := by simp; omega
    simp [World.cell?, this] at h
end bytesin
end Go.Eng
end
section
namespace Go.Eng
open Go.RowKit
theorem runs_law {P : Program} {f : FuncId} {args : List Value} {bs : List Blk} {v : Value} {out : List Nat → List (Option Blk)} {W : World} (h : Runs P f args bs 0 (fun _ => v) out) (hb : ∀ b ∈ bs, Holds b W) (hro : ∀ b ∈ bs, b.own = false) :
    Calls P f args.toArray W fun e w' => e = .returned v ∧ Below W.heap.size W w' := by
  have hl : ∀ p b, listMem (bs.map some) p = some b → b.own = false := fun p b hp => hro b (List.mem_of_getElem? (listMem_some.1 hp))
  refine Calls.mono (h W hb fun p q x y _ hx _ ho => ?_) fun e w' ⟨ns, _, he, hp⟩ => ⟨he, below_of_adv hp.adv hl⟩
  rw [hl p x hx] at ho; cases ho
end Go.Eng
end
section
namespace Go.Eng
open Go.RowKit Go.WideShapes Go.ChangeShapes Go.ChangeAt Go.Deep
set_option linter.unusedSimpArgs false
set_option linter.unusedVariables false
set_option maxRecDepth 100000
theorem Post.weak {m m1 m2 : Nat → Option Blk} {w w' : World} (h : Post m w m1 w')
    (hr : ∀ p b, m2 p = some b → ∃ b0, m1 p = some b0 ∧ b0.name = b.name ∧ b0.own = b.own ∧ b0.base = b.base ∧ (b.own = false → b0 = b) ∧ (b0 = b ∨ b.cont.isMap = false ∧ ∀ o v, b.cont.get o = some v → b0.cont.get o = some v)) : Post m w m2 w' := by
  refine ⟨fun p b hp => ?_, fun p q b c hpq hb hc ho => ?_, ⟨h.adv.os, h.adv.output, h.adv.tape, h.adv.size, h.adv.heap, fun j hj => ?_, fun p b hp ho => ?_⟩⟩
  · obtain ⟨b0, h0, h1, h2, h3, _, rfl | ⟨h6, h4⟩⟩ := hr p b hp
    · exact h.holds p _ h0
    have hh := (h.holds p b0 h0).recont h6 h4
    obtain ⟨n0, o0, s0, c0⟩ := b0
    obtain ⟨n1, o1, s1, c1⟩ := b
    simp only at h1 h2 h3; subst h1 h2 h3; exact hh
  · obtain ⟨b0, h0, h1, h2, _⟩ := hr p b hb
    obtain ⟨c0, k0, k1, _⟩ := hr q c hc
    rw [← h1, ← k1]; exact h.apart p q b0 c0 hpq h0 k0 (h2.trans ho)
  · obtain ⟨p, b, hp, ho, rfl⟩ := hj
    obtain ⟨b0, h0, h1, h2, _⟩ := hr p b hp
    exact h.adv.names _ ⟨p, b0, h0, h2.trans ho, h1⟩
  · obtain ⟨b0, h0, _, _, _, h5, _⟩ := hr p b hp
    rw [← h5 ho]; exact h.adv.ro p b0 h0 (by rw [h5 ho]; exact ho)
theorem Runs.weak {P : Program} {f : FuncId} {args : List Value} {bs : List Blk} {k : Nat} {v : List Nat → Value} {out out' : List Nat → List (Option Blk)} (h : Runs P f args bs k v out)
    (hr : ∀ ns p b, listMem (out' ns) p = some b → ∃ b0, listMem (out ns) p = some b0 ∧ b0.name = b.name ∧ b0.own = b.own ∧ b0.base = b.base ∧ (b.own = false → b0 = b) ∧ (b0 = b ∨ b.cont.isMap = false ∧ ∀ o v, b.cont.get o = some v → b0.cont.get o = some v)) :
    Runs P f args bs k v out' := fun w hb ha => Calls.mono (h w hb ha) fun _ _ ⟨ns, h1, h2, h3⟩ => ⟨ns, h1, h2, h3.weak (hr ns)⟩
theorem SRuns.weak {P : Program} {s : Sem Next} {bs : List Blk} {k : Nat} {v : List Nat → Value} {out out' : List Nat → List (Option Blk)} (h : SRuns P s bs k v out)
    (hr : ∀ ns p b, listMem (out' ns) p = some b → ∃ b0, listMem (out ns) p = some b0 ∧ b0.name = b.name ∧ b0.own = b.own ∧ b0.base = b.base ∧ (b.own = false → b0 = b) ∧ (b0 = b ∨ b.cont.isMap = false ∧ ∀ o v, b.cont.get o = some v → b0.cont.get o = some v)) :
    SRuns P s bs k v out' := fun w hb ha => have ⟨ns, w', h1, h2, h3⟩ := h w hb ha; ⟨ns, w', h1, h2, h3.weak (hr ns)⟩
section
variable {P : Program} {t ty e : TypeId}
end
theorem is_min64 {P : Program} {x y : Operand} {ts : Array TypeId} (a b : UInt64) : IsOp P (.call { callee := .builtin .min, args := #[x, y], argTypes := ts }) [u64 a, u64 b] (u64 (if b < a then b else a)) := by
  intro ρ o ho hv
  rw [ho] at hv
  have hv' : ρ x = u64 a ∧ ρ y = u64 b := by simpa [Op.operands, Call.operands] using hv
  unfold execOp
  rw [ho]
  show pureRun P ((Builtin.min_ ts o.type (#[x, y].map ρ)) >>= fun v => (pure (Next.value v) : Sem Next)) = _
  have e1 : (#[x, y].map ρ : Array Value) = #[u64 a, u64 b] := by simp [hv'.1, hv'.2]
  have e2 : pureRun P (Builtin.min_ ts o.type #[u64 a, u64 b]) = some (u64 (if b < a then b else a)) := by
    show some (Value.int .u64 (if ((b.toNat : Int) < a.toNat) then (b.toNat : Int) else a.toNat)) = _
    unfold u64
    simp only [UInt64.lt_iff_toNat_lt, Int.ofNat_lt]
    split <;> rfl
  rw [e1, pureRun_bind', e2]
  rfl
section bytesin
variable {H : Type} {enc : TypeId × Value → H} {P : Program}
theorem open_slice64 {r : Reach} {b0 : Nat} {W : World} {base : Nat} {sp : Nat → Bool} {held : Bool} {t e : TypeId} {v : Value} {d : DataW H} {ps : List MemPlace} (ht : P.underlying t = some (.slice e)) (he : P.underlying e = some (.int .u64))
    (hc : P.cellsOf e = 1) (hval : Value.okWide P W r b0 t v) (hd : DataW.Trod enc P W base sp held t v d ps) :
    (∃ ao c, v = .slice ao 0 c) ∨ ∃ (b o n c : Nat) (f : Nat → UInt64), v = .slice (some ⟨b, o, none⟩) n c ∧ 0 < n ∧ n ≤ 9223372036854775807 ∧ Holds ⟨b, false, o, tabF n fun k => u64 (f k)⟩ W := by
  obtain ⟨a1, len, cap, rfl⟩ := okWide_slice ht hval
  obtain ⟨fuel, hf⟩ := hd
  by_cases h0 : len = 0
  · subst h0; exact .inl ⟨_, _, rfl⟩
  rcases open_slice1 ht hc hf with ⟨hcs, _⟩ | ⟨a, len', cap', m, n, V, D, Pl, hcs, _, hl, hm, hmm, _, hx⟩
  · simp [Value.cells] at hcs
    exact absurd hcs.2.1 h0
  · simp [Value.cells] at hcs
    obtain ⟨rfl, rfl, rfl⟩ := hcs
    have hlm : len ≤ m := by rw [hmm]; split <;> omega
    have hspot : a.spot = none := World.cell?_spot (by
      have := (hx 0 (by omega)).1
      rwa [show a.add 0 = a from by cases a; simp [Addr.add]] at this)
    obtain ⟨ab, ao, spot⟩ := a
    simp only at hspot
    subst hspot
    have hV : ∀ i, i < len → ∃ x : UInt64, V i = u64 x := fun i hi => by
      obtain ⟨_, h2⟩ := hx i (by omega)
      obtain ⟨x0, e0, _, w0⟩ := DataW.trod_int he h2
      simp at e0
      rw [e0]
      exact u64_of w0
    obtain ⟨f, hfV⟩ := choose_lt (α := UInt64) (p := fun i x => V i = u64 x) hV
    refine .inr ⟨ab, ao, len, cap, f, rfl, by omega, by unfold maxLen at hm; omega, ⟨lt_of_cell (hx 0 (by omega)).1, fun o v ho => ?_, (fun h => by cases h), obj_not rfl⟩⟩
    by_cases hol : o < len
    · rw [tabF_in hol] at ho
      injection ho with ho
      have := (hx o (by omega)).1
      rw [add_none] at this
      rw [this, hfV o hol, ho]
    · rw [tabF_out hol] at ho; cases ho
end bytesin
def smallN (x : UInt64) : N4 := ⟨x, 0, 0, 0⟩
def totN (f : Nat → UInt64) : Nat → N4
  | 0 => ⟨0, 0, 0, 0⟩
  | k + 1 => add4 (totN f k) (smallN (f k))
def restD (a m : N4) : N4 := if eq4 m ⟨0, 0, 0, 0⟩ = true then ⟨0, 0, 0, 0⟩ else N4.ofNat (a.val % m.val)
def errD (m : N4) : Int := if eq4 m ⟨0, 0, 0, 0⟩ = true then 11 else 0
def quoD (a m : N4) : N4 := N4.ofNat (a.val / m.val)
def wholeP (pot mine : UInt64) (all : N4) : N4 := quoD (mul8 (smallN pot) (smallN mine)).lo all
def partP (pot mine : UInt64) (all : N4) : UInt64 := if 64 < len4 (wholeP pot mine all) then 18446744073709551615 else (wholeP pot mine all).a
def isI (n : Nat) (i : Int) : Bool := decide (0 ≤ i) && decide (i < n)
def moveE (n : Nat) (f : Nat → UInt64) (i j : Int) (x : UInt64) : Int := if isI n i = true ∧ isI n j = true then (if f i.toNat < x then 50 else 0) else 1
def moveF (n : Nat) (f : Nat → UInt64) (i j : Int) (x : UInt64) : Nat → UInt64 :=
  if moveE n f i j x = 0 then upd (upd f i.toNat (f i.toNat - x)) j.toNat (upd f i.toNat (f i.toNat - x) j.toNat + x) else f
def hasV (n : Nat) (f : Nat → UInt64) (i : Int) : UInt64 := if isI n i = true then f i.toNat else 0
def minU (a b : UInt64) : UInt64 := if b < a then b else a
def takeN (n : Nat) (f : Nat → UInt64) (i : Int) (x : UInt64) : UInt64 := minU x (hasV n f i)
def takeV (n : Nat) (f : Nat → UInt64) (i j : Int) (x : UInt64) : UInt64 := if moveE n f i j (takeN n f i x) = 0 then takeN n f i x else 0
def sprS (f : Nat → UInt64) (pot : UInt64) (g : Nat → UInt64) (all : N4) : Nat → (Nat → UInt64) × UInt64
  | 0 => (f, pot)
  | k + 1 => (upd (sprS f pot g all k).1 k ((sprS f pot g all k).1 k + partP pot (g k) all), (sprS f pot g all k).2 - partP pot (g k) all)
def spreadE (n : Nat) (i j : Int) (m : Nat) : Int := if isI n i = true ∧ isI n j = true ∧ m = n then 0 else 1
def spreadF (n : Nat) (f : Nat → UInt64) (i j : Int) (m : Nat) (g : Nat → UInt64) : Nat → UInt64 :=
  if spreadE n i j m = 0 then
    upd (sprS (upd f i.toNat 0) (f i.toNat) g (totN g n) n).1 j.toNat ((sprS (upd f i.toNat 0) (f i.toNat) g (totN g n) n).1 j.toNat + (sprS (upd f i.toNat 0) (f i.toNat) g (totN g n) n).2)
  else f
def goodN (n : Nat) (f : Nat → UInt64) : Prop := n ≤ 40 ∧ len4 (totN f n) ≤ 63
def newE (n : Nat) (f : Nat → UInt64) : Int := if 40 < n then 2 else 10
theorem moveF_ok {n : Nat} {f : Nat → UInt64} {i j : Int} {x : UInt64} (h : moveE n f i j x = 0) : moveF n f i j x = upd (upd f i.toNat (f i.toNat - x)) j.toNat (upd f i.toNat (f i.toNat - x) j.toNat + x) := by unfold moveF; rw [if_pos h]
theorem moveF_no {n : Nat} {f : Nat → UInt64} {i j : Int} {x : UInt64} (h : moveE n f i j x ≠ 0) : moveF n f i j x = f := by unfold moveF; rw [if_neg h]
theorem isI_nat {n k : Nat} (h : k < n) : isI n (k : Int) = true := by simp [isI, h]
theorem of_bne_false {a b : Int} (h : (a != b) = false) : a = b := by simpa using h
theorem isI_iff {n : Nat} {i : Int} : isI n i = true ↔ 0 ≤ i ∧ i < n := by simp [isI]
def sumU (f : Nat → UInt64) : Nat → Nat
  | 0 => 0
  | k + 1 => sumU f k + (f k).toNat
theorem smallN_val (x : UInt64) : (smallN x).val = x.toNat := by unfold smallN N4.val; simp
theorem sumU_le (f : Nat → UInt64) : ∀ n, sumU f n ≤ n * 2 ^ 64
  | 0 => Nat.le_refl _
  | k + 1 => by have := sumU_le f k; have := (f k).toNat_lt; simp only [sumU]; omega
theorem totN_val (f : Nat → UInt64) : ∀ n, n ≤ 9223372036854775807 → (totN f n).val = sumU f n
  | 0, _ => rfl
  | k + 1, h => by
    have h1 := totN_val f k (by omega)
    have h2 := add4_val (totN f k) (smallN (f k))
    have h3 := sumU_le f k
    have h4 := (f k).toNat_lt
    rw [h1, smallN_val] at h2
    show (add4 (totN f k) (smallN (f k))).val = sumU f k + (f k).toNat
    have h5 : k * 2 ^ 64 ≤ 9223372036854775807 * 2 ^ 64 := Nat.mul_le_mul_right _ (by omega)
    cases h6 : add4c (totN f k) (smallN (f k)) with
    | false => rw [h6] at h2; simpa using h2
    | true => rw [h6] at h2; simp at h2; omega
theorem goodN_sum {n : Nat} {f : Nat → UInt64} : goodN n f ↔ n ≤ 40 ∧ sumU f n < 2 ^ 63 := by
  unfold goodN
  refine and_congr_right fun h => ?_
  rw [len4_val, totN_val f n (by omega)]
  constructor
  · intro h1
    have h2 := bitLen_lt (sumU f n)
    exact Nat.lt_of_lt_of_le h2 (Nat.pow_le_pow_right (by decide) h1)
  · exact bitLen_le_of_lt
theorem sumU_one {f : Nat → UInt64} {n a : Nat} (h : a < n) : (f a).toNat ≤ sumU f n := by
  induction n with
  | zero => omega
  | succ n ih =>
    simp only [sumU]
    by_cases e : a = n
    · subst e; omega
    · have := ih (by omega); omega
theorem sumU_two {f : Nat → UInt64} {n a b : Nat} (ha : a < n) (hb : b < n) (h : a ≠ b) : (f a).toNat + (f b).toNat ≤ sumU f n := by
  induction n with
  | zero => omega
  | succ n ih =>
    simp only [sumU]
    by_cases e : a = n
    · subst e; have := sumU_one (f := f) (show b < a by omega); omega
    · by_cases e2 : b = n
      · subst e2; have := sumU_one (f := f) (show a < b by omega); omega
      · have := ih (by omega) (by omega); omega
end Go.Eng
end
section
namespace Go.Eng
section
open Go.ChangeShapes Go.WideShapes Go.ChangeAt Go.RowKit Go.Deep
variable {H : Type} {enc : TypeId × Value → H} {P : Program}
theorem open_sliceE {α : Type} [Inhabited α] (K : α → List Value) {sz : Nat} (hK : ∀ a, (K a).length = sz) (hs0 : 0 < sz) {r : Reach} {b0 : Nat} {W : World} {base : Nat} {sp : Nat → Bool} {held : Bool} {t e : TypeId} {v : Value} {d : DataW H} {ps : List MemPlace} (ht : P.underlying t = some (.slice e))
    (hc : P.cellsOf e = sz) (hel : ∀ n cs x, cs.length = sz → DataW.trod enc P W base sp held n e cs = some x → ∃ a, cs = K a) (hval : Value.okWide P W r b0 t v) (hd : DataW.Trod enc P W base sp held t v d ps) :
    (∃ ao c, v = .slice ao 0 c) ∨ ∃ (b o n c : Nat) (f : Nat → α), v = .slice (some ⟨b, o, none⟩) n c ∧ 0 < n ∧ n ≤ 9223372036854775807 ∧ Holds ⟨b, false, o, .tab n sz fun k => K (f k)⟩ W := by
  obtain ⟨a1, len, cap, rfl⟩ := okWide_slice ht hval
  obtain ⟨fuel, hf⟩ := hd
  by_cases h0 : len = 0
  · subst h0; exact .inl ⟨_, _, rfl⟩
  rcases open_slice ht hf with ⟨hcs, _⟩ | ⟨a, len', cap', m, n, D, Pl, hcs, _, hl, hm, hmm, _, hx⟩
  · simp [Value.cells] at hcs
    exact absurd hcs.2.1 h0
  · simp [Value.cells] at hcs
    obtain ⟨rfl, rfl, rfl⟩ := hcs
    rw [hc] at hx
    have hlm : len ≤ m := by rw [hmm]; split <;> omega
    have hV : ∀ i, i < len → ∃ x : α, ∀ j, j < sz → W.cell? ((a.add (i * sz)).add j) = (K x)[j]? := fun i hi => by
      obtain ⟨cs', h1, h2⟩ := hx i (by omega)
      obtain ⟨_, hlen, hcell⟩ := World.cells?_some h1
      obtain ⟨x, hx⟩ := hel _ _ _ hlen h2
      subst hx
      exact ⟨x, hcell⟩
    obtain ⟨f, hfV⟩ := choose_lt (α := α) (p := fun i x => ∀ j, j < sz → W.cell? ((a.add (i * sz)).add j) = (K x)[j]?) hV
    have hfirst : ∃ u, W.cell? a = some u := by
      have := hfV 0 (by omega) 0 hs0
      rw [show (a.add (0 * sz)).add 0 = a from by cases a; simp [Addr.add]] at this
      rw [this, List.getElem?_eq_getElem (by rw [hK]; exact hs0)]
      exact ⟨_, rfl⟩
    obtain ⟨u0, hu0⟩ := hfirst
    have hspot : a.spot = none := World.cell?_spot hu0
    obtain ⟨ab, ao, spot⟩ := a
    simp only at hspot
    subst hspot
    refine .inr ⟨ab, ao, len, cap, f, rfl, by omega, by unfold maxLen at hm; omega, ⟨lt_of_cell hu0, fun o v ho => ?_, (fun h => by cases h), obj_not rfl⟩⟩
    by_cases hol : o < len * sz
    · simp only [Cont.get, if_pos hol] at ho
      have := hfV (o / sz) (div_lt_row hol) (o % sz) (Nat.mod_lt _ hs0)
      rw [add_none, add_none, Nat.add_assoc, show o / sz * sz + o % sz = o by rw [Nat.mul_comm]; exact Nat.div_add_mod o sz] at this
      rw [this]; exact ho
    · rw [tabE_out hol] at ho; cases ho
instance : Inhabited N4 := ⟨⟨0, 0, 0, 0⟩⟩
end
end Go.Eng
end
section
namespace Go.Eng
end Go.Eng
end
section
namespace Go.Eng
section
variable {P : Program} {t e : TypeId} {x y : Operand}
theorem is_slTo {sz : Nat} (ht : P.underlying t = some (.slice e)) (hs : sizeB P e = some sz) (n o len cap i : Nat) (hi : i ≤ cap) : IsOp P (.slice t x none (some y) none) [.slice (some ⟨n, o, none⟩) len cap, nat i] (.slice (some ⟨n, o, none⟩) i cap) := by
  intro ρ o' ho hv
  rw [ho] at hv
  have hv' : [ρ x, ρ y] = [Value.slice (some ⟨n, o, none⟩) len cap, nat i] := hv
  injection hv' with h1 hv'
  injection hv' with h2 _
  unfold execOp
  rw [ho]
  simp only [Option.map]
  show pureRun P (Sem.bind (Instr.sliceAt t (ρ x) none (some (ρ y)) none) fun v => Sem.pure (Next.value v)) = _
  rw [pureRun_bind, h1, h2]
  have hi' : 0 ≤ (i : Int) ∧ (i : Int) ≤ (cap : Int) := by omega
  have e : pureRun P (Instr.sliceAt t (.slice (some ⟨n, o, none⟩) len cap) none (some (nat i)) none) = some (.slice (some ⟨n, o, none⟩) i cap) := by
    simp only [Instr.sliceAt, Instr.slice, Instr.sliceBounds, Instr.sliceBound, nat, pureRun_bind', asIntOf, pureRun, pure, pureRun_underlying ht, hi', and_self, if_true, pureRun_sizeOf hs, Int.toNat_natCast]
    simp [add_none]
  rw [e]
  rfl
end
end Go.Eng
end
