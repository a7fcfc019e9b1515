/-
  What purse's functions hand back; copies of rows; what is told less of what lies behind a call.
-/
import Derived.Test.YtflbdmbiceenjaaEngZ
import Derived.Test.YtflbdmbiceenjaaLimbLaws
import Derived.Test.YtflbdmbiceenjaaLimbByt
namespace Go.Eng
open Go.RowKit Go.WideShapes Go.ChangeShapes Go.ChangeAt Go.Deep
set_option linter.unusedSimpArgs false
set_option linter.unusedVariables false
set_option maxRecDepth 100000

theorem Post.weak {m m1 m2 : Nat → Option Blk} {w w' : World} (h : Post m w m1 w')
    (hr : ∀ p b, m2 p = some b → ∃ b0, m1 p = some b0 ∧ b0.name = b.name ∧ b0.own = b.own ∧ b0.base = b.base ∧ (b.own = false → b0 = b) ∧ (b0 = b ∨ b.cont.isMap = false ∧ ∀ o v, b.cont.get o = some v → b0.cont.get o = some v)) : Post m w m2 w' := by
  refine ⟨fun p b hp => ?_, fun p q b c hpq hb hc ho => ?_, ⟨h.adv.os, h.adv.output, h.adv.tape, h.adv.size, h.adv.heap, fun j hj => ?_, fun p b hp ho => ?_⟩⟩
  · obtain ⟨b0, h0, h1, h2, h3, _, rfl | ⟨h6, h4⟩⟩ := hr p b hp
    · exact h.holds p _ h0
    have hh := (h.holds p b0 h0).recont h6 h4
    obtain ⟨n0, o0, s0, c0⟩ := b0
    obtain ⟨n1, o1, s1, c1⟩ := b
    simp only at h1 h2 h3; subst h1 h2 h3; exact hh
  · obtain ⟨b0, h0, h1, h2, _⟩ := hr p b hb
    obtain ⟨c0, k0, k1, _⟩ := hr q c hc
    rw [← h1, ← k1]; exact h.apart p q b0 c0 hpq h0 k0 (h2.trans ho)
  · obtain ⟨p, b, hp, ho, rfl⟩ := hj
    obtain ⟨b0, h0, h1, h2, _⟩ := hr p b hp
    exact h.adv.names _ ⟨p, b0, h0, h2.trans ho, h1⟩
  · obtain ⟨b0, h0, _, _, _, h5, _⟩ := hr p b hp
    rw [← h5 ho]; exact h.adv.ro p b0 h0 (by rw [h5 ho]; exact ho)
theorem Runs.weak {P : Program} {f : FuncId} {args : List Value} {bs : List Blk} {k : Nat} {v : List Nat → Value} {out out' : List Nat → List (Option Blk)} (h : Runs P f args bs k v out)
    (hr : ∀ ns p b, listMem (out' ns) p = some b → ∃ b0, listMem (out ns) p = some b0 ∧ b0.name = b.name ∧ b0.own = b.own ∧ b0.base = b.base ∧ (b.own = false → b0 = b) ∧ (b0 = b ∨ b.cont.isMap = false ∧ ∀ o v, b.cont.get o = some v → b0.cont.get o = some v)) :
    Runs P f args bs k v out' := fun w hb ha => Calls.mono (h w hb ha) fun _ _ ⟨ns, h1, h2, h3⟩ => ⟨ns, h1, h2, h3.weak (hr ns)⟩
theorem SRuns.weak {P : Program} {s : Sem Next} {bs : List Blk} {k : Nat} {v : List Nat → Value} {out out' : List Nat → List (Option Blk)} (h : SRuns P s bs k v out)
    (hr : ∀ ns p b, listMem (out' ns) p = some b → ∃ b0, listMem (out ns) p = some b0 ∧ b0.name = b.name ∧ b0.own = b.own ∧ b0.base = b.base ∧ (b.own = false → b0 = b) ∧ (b0 = b ∨ b.cont.isMap = false ∧ ∀ o v, b.cont.get o = some v → b0.cont.get o = some v)) :
    SRuns P s bs k v out' := fun w hb ha => have ⟨ns, w', h1, h2, h3⟩ := h w hb ha; ⟨ns, w', h1, h2, h3.weak (hr ns)⟩
theorem SRuns.retell {P : Program} {s : Sem Next} {bs bs' : List Blk} {k : Nat} {v : List Nat → Value} {out : List Nat → List (Option Blk)} (h : SRuns P s bs k v out)
    (hb : ∀ w : World, (∀ b ∈ bs', Holds b w) → ∀ b ∈ bs, Holds b w) (hn : bs.map (fun b => (b.name, b.own)) = bs'.map fun b => (b.name, b.own)) (hro : ∀ ns p b, listMem (out ns) p = some b → b.own = true) :
    SRuns P s bs' k v out := fun w hw ha => by
  have hlk : ∀ p b, listMem (bs.map some) p = some b → ∃ b', listMem (bs'.map some) p = some b' ∧ b'.name = b.name ∧ b'.own = b.own := fun p b hp => by
    have h1 := listMem_some.1 hp
    have h2 : (bs.map fun b => (b.name, b.own))[p]? = some (b.name, b.own) := by rw [List.getElem?_map, h1]; rfl
    rw [hn, List.getElem?_map] at h2
    cases h3 : bs'[p]? with
    | none => rw [h3] at h2; cases h2
    | some b' =>
      rw [h3] at h2
      simp at h2
      exact ⟨b', listMem_some.2 h3, h2.1, h2.2⟩
  obtain ⟨ns, w', h1, h2, h3⟩ := h w (hb w hw) fun p q b c hpq hp hq ho => by
    obtain ⟨b', hb1, hb2, hb3⟩ := hlk p b hp
    obtain ⟨c', hc1, hc2, hc3⟩ := hlk q c hq
    rw [← hb2, ← hc2]
    exact ha p q b' c' hpq hb1 hc1 (hb3.trans ho)
  refine ⟨ns, w', h1, h2, ⟨h3.holds, h3.apart, ⟨h3.adv.os, h3.adv.output, h3.adv.tape, h3.adv.size, fun j hj hno => h3.adv.heap j hj fun ⟨p, b, hp, ho, he⟩ => ?_, fun j hj => ?_, fun p b hp ho => ?_⟩⟩⟩
  · obtain ⟨b', hb1, hb2, hb3⟩ := hlk p b hp
    exact hno ⟨p, b', hb1, hb3.trans ho, hb2.trans he⟩
  · rcases h3.adv.names j hj with ⟨p, b, hp, ho, he⟩ | h4
    · obtain ⟨b', hb1, hb2, hb3⟩ := hlk p b hp
      exact .inl ⟨p, b', hb1, hb3.trans ho, hb2.trans he⟩
    · exact .inr h4
  · exact absurd (hro ns p b hp) (by rw [ho]; decide)

theorem litR_get {n : Nat} {g : Nat → Value} : ∀ o v, (Cont.lit ((List.range n).map g)).get o = some v → (tabF n g).get o = some v := fun o v ho => by
  obtain ⟨h1, h2⟩ := map_range_get (show ((List.range n).map g)[o]? = some v from ho)
  rw [tabF_in h1, h2]
theorem tabR_get {n : Nat} {g : Nat → Value} : ∀ o v, (tabF n g).get o = some v → (Cont.lit ((List.range n).map g)).get o = some v := fun o v ho => by
  by_cases hl : o < n
  · rw [tabF_in hl] at ho; cases ho
    show ((List.range n).map g)[o]? = _
    rw [List.getElem?_map, List.getElem?_range hl]; rfl
  · rw [tabF_out hl] at ho; cases ho
theorem srun_copyF {P : Program} {dT sT ty e : TypeId} (hu : P.underlying dT = some (.slice e)) (hs : sizeB P e = some 1) (b k n dc sc : Nat) (g f : Nat → UInt64) :
    SRuns P (copySem dT sT ty (.slice (some ⟨b, 0, none⟩) n dc) (.slice (some ⟨k, 0, none⟩) n sc)) [⟨b, true, 0, tabF n fun j => u64 (g j)⟩, ⟨k, false, 0, tabF n fun j => u64 (f j)⟩] 0 (fun _ => nat n)
      (fun _ => [some ⟨b, true, 0, tabF n fun j => u64 (f j)⟩, none]) := by
  have hl : ∀ q : Nat → UInt64, ((List.range n).map fun j => u64 (q j)).length = n := fun q => by simp
  have h0 := srun_copy (P := P) (dT := dT) (sT := sT) (ty := ty) (e := e) (n := b) (k := k) (od := 0) (dl := n) (dc := dc) (os := 0) (sl := n) (sc := sc) (D := (List.range n).map fun j => u64 (g j)) (S := (List.range n).map fun j => u64 (f j))
    (D' := (List.range n).map fun j => u64 (f j)) (cs := (List.range n).map fun j => u64 (f j)) hu hs (by rw [List.drop_zero, Nat.min_self]; exact List.take_of_length_le (by simp)) (by simp) (by
      rw [List.all_eq_true]; intro x hx; obtain ⟨j, _, rfl⟩ := List.mem_map.1 hx; rfl) (by
      have e1 : Nat.ble n n = true := by simp
      simp [Cont.store, hl, e1, splice])
  rw [hl f] at h0
  have h1 := (SRuns.dark [false, true] h0).retell (bs' := [⟨b, true, 0, tabF n fun j => u64 (g j)⟩, ⟨k, false, 0, tabF n fun j => u64 (f j)⟩]) (fun w hw x hx => by
      simp only [List.mem_cons, List.not_mem_nil, or_false] at hx
      rcases hx with rfl | rfl
      · exact (hw ⟨b, true, 0, tabF n fun j => u64 (g j)⟩ (by simp)).recont rfl litR_get
      · exact (hw ⟨k, false, 0, tabF n fun j => u64 (f j)⟩ (by simp)).recont rfl litR_get) rfl (fun ns p x hp => by
      rcases p with _ | _ | p
      · cases hp; rfl
      · cases hp
      · simp [listMem, dkn] at hp)
  exact h1.weak fun ns p x hp => by
    rcases p with _ | _ | p
    · cases hp
      exact ⟨_, rfl, rfl, rfl, rfl, (fun h => by cases h), .inr ⟨rfl, tabR_get⟩⟩
    · cases hp
    · simp [listMem] at hp

theorem srun_copy0 {P : Program} {dT sT ty e : TypeId} (hu : P.underlying dT = some (.slice e)) (hs : sizeB P e = some 1) (a : Option Addr) (dc : Nat) (al : Option Addr) (cl : Nat) :
    SRuns P (copySem dT sT ty (.slice a 0 dc) (.slice al 0 cl)) [] 0 (fun _ => nat 0) (fun _ => []) := by
  intro w hall ha
  refine ⟨[], w, rfl, .inl (run_value ?_), Post.refl (fun p b h => by cases h) ha⟩
  obtain ⟨i, hi, hi2⟩ : ∃ i, P.info? e = some i ∧ i.size = 1 := by
    unfold sizeB at hs
    cases h : P.info? e with
    | none => simp [h] at hs
    | some i => simp [h] at hs; exact ⟨i, rfl, hs⟩
  cases al <;> cases a <;> simp [Builtin.copy_, run_underlying hu, sizeOf, typeInfo, hi, Builtin.lenOf, Builtin.firstCells, storeCells, loadCells, loadCellsFrom, goInt, nat]
section
variable {P : Program} {t ty e : TypeId}
end
theorem is_min64 {P : Program} {x y : Operand} {ts : Array TypeId} (a b : UInt64) : IsOp P (.call { callee := .builtin .min, args := #[x, y], argTypes := ts }) [u64 a, u64 b] (u64 (if b < a then b else a)) := by
  intro ρ o ho hv
  rw [ho] at hv
  have hv' : ρ x = u64 a ∧ ρ y = u64 b := by simpa [Op.operands, Call.operands] using hv
  unfold execOp
  rw [ho]
  show pureRun P ((Builtin.min_ ts o.type (#[x, y].map ρ)) >>= fun v => (pure (Next.value v) : Sem Next)) = _
  have e1 : (#[x, y].map ρ : Array Value) = #[u64 a, u64 b] := by simp [hv'.1, hv'.2]
  have e2 : pureRun P (Builtin.min_ ts o.type #[u64 a, u64 b]) = some (u64 (if b < a then b else a)) := by
    show some (Value.int .u64 (if ((b.toNat : Int) < a.toNat) then (b.toNat : Int) else a.toNat)) = _
    unfold u64
    simp only [UInt64.lt_iff_toNat_lt, Int.ofNat_lt]
    split <;> rfl
  rw [e1, pureRun_bind', e2]
  rfl
section bytesin
variable {H : Type} {enc : TypeId × Value → H} {P : Program}
theorem open_slice64 {r : Reach} {b0 : Nat} {W : World} {base : Nat} {sp : Nat → Bool} {held : Bool} {t e : TypeId} {v : Value} {d : DataW H} {ps : List MemPlace} (ht : P.underlying t = some (.slice e)) (he : P.underlying e = some (.int .u64))
    (hc : P.cellsOf e = 1) (hval : Value.okWide P W r b0 t v) (hd : DataW.Trod enc P W base sp held t v d ps) :
    (∃ ao c, v = .slice ao 0 c) ∨ ∃ (b o n c : Nat) (f : Nat → UInt64), v = .slice (some ⟨b, o, none⟩) n c ∧ 0 < n ∧ n ≤ 9223372036854775807 ∧ Holds ⟨b, false, o, tabF n fun k => u64 (f k)⟩ W := by
  obtain ⟨a1, len, cap, rfl⟩ := okWide_slice ht hval
  obtain ⟨fuel, hf⟩ := hd
  by_cases h0 : len = 0
  · subst h0; exact .inl ⟨_, _, rfl⟩
  rcases open_slice1 ht hc hf with ⟨hcs, _⟩ | ⟨a, len', cap', m, n, V, D, Pl, hcs, _, hl, hm, hmm, _, hx⟩
  · simp [Value.cells] at hcs
    exact absurd hcs.2.1 h0
  · simp [Value.cells] at hcs
    obtain ⟨rfl, rfl, rfl⟩ := hcs
    have hlm : len ≤ m := by rw [hmm]; split <;> omega
    have hspot : a.spot = none := World.cell?_spot (by
      have := (hx 0 (by omega)).1
      rwa [show a.add 0 = a from by cases a; simp [Addr.add]] at this)
    obtain ⟨ab, ao, spot⟩ := a
    simp only at hspot
    subst hspot
    have hV : ∀ i, i < len → ∃ x : UInt64, V i = u64 x := fun i hi => by
      obtain ⟨_, h2⟩ := hx i (by omega)
      obtain ⟨x0, e0, _, w0⟩ := DataW.trod_int he h2
      simp at e0
      rw [e0]
      exact u64_of w0
    obtain ⟨f, hfV⟩ := choose_lt (α := UInt64) (p := fun i x => V i = u64 x) hV
    refine .inr ⟨ab, ao, len, cap, f, rfl, by omega, by unfold maxLen at hm; omega, ⟨lt_of_cell (hx 0 (by omega)).1, fun o v ho => ?_, (fun h => by cases h), obj_not rfl⟩⟩
    by_cases hol : o < len
    · rw [tabF_in hol] at ho
      injection ho with ho
      have := (hx o (by omega)).1
      rw [add_none] at this
      rw [this, hfV o hol, ho]
    · rw [tabF_out hol] at ho; cases ho
end bytesin

/-! ### what purse's functions hand back -/
def smallN (x : UInt64) : N4 := ⟨x, 0, 0, 0⟩
def totN (f : Nat → UInt64) : Nat → N4
  | 0 => ⟨0, 0, 0, 0⟩
  | k + 1 => add4 (totN f k) (smallN (f k))
def restD (a m : N4) : N4 := if eq4 m ⟨0, 0, 0, 0⟩ = true then ⟨0, 0, 0, 0⟩ else N4.ofNat (a.val % m.val)
def errD (m : N4) : Int := if eq4 m ⟨0, 0, 0, 0⟩ = true then 11 else 0
def quoD (a m : N4) : N4 := N4.ofNat (a.val / m.val)
def wholeP (pot mine : UInt64) (all : N4) : N4 := quoD (mul8 (smallN pot) (smallN mine)).lo all
def partP (pot mine : UInt64) (all : N4) : UInt64 := if 64 < len4 (wholeP pot mine all) then 18446744073709551615 else (wholeP pot mine all).a
def isI (n : Nat) (i : Int) : Bool := decide (0 ≤ i) && decide (i < n)
def moveE (n : Nat) (f : Nat → UInt64) (i j : Int) (x : UInt64) : Int := if isI n i = true ∧ isI n j = true then (if f i.toNat < x then 50 else 0) else 1
def moveF (n : Nat) (f : Nat → UInt64) (i j : Int) (x : UInt64) : Nat → UInt64 :=
  if moveE n f i j x = 0 then upd (upd f i.toNat (f i.toNat - x)) j.toNat (upd f i.toNat (f i.toNat - x) j.toNat + x) else f
def hasV (n : Nat) (f : Nat → UInt64) (i : Int) : UInt64 := if isI n i = true then f i.toNat else 0
def minU (a b : UInt64) : UInt64 := if b < a then b else a
def takeN (n : Nat) (f : Nat → UInt64) (i : Int) (x : UInt64) : UInt64 := minU x (hasV n f i)
def takeV (n : Nat) (f : Nat → UInt64) (i j : Int) (x : UInt64) : UInt64 := if moveE n f i j (takeN n f i x) = 0 then takeN n f i x else 0
def sprS (f : Nat → UInt64) (pot : UInt64) (g : Nat → UInt64) (all : N4) : Nat → (Nat → UInt64) × UInt64
  | 0 => (f, pot)
  | k + 1 => (upd (sprS f pot g all k).1 k ((sprS f pot g all k).1 k + partP pot (g k) all), (sprS f pot g all k).2 - partP pot (g k) all)
def spreadE (n : Nat) (i j : Int) (m : Nat) : Int := if isI n i = true ∧ isI n j = true ∧ m = n then 0 else 1
def spreadF (n : Nat) (f : Nat → UInt64) (i j : Int) (m : Nat) (g : Nat → UInt64) : Nat → UInt64 :=
  if spreadE n i j m = 0 then
    upd (sprS (upd f i.toNat 0) (f i.toNat) g (totN g n) n).1 j.toNat ((sprS (upd f i.toNat 0) (f i.toNat) g (totN g n) n).1 j.toNat + (sprS (upd f i.toNat 0) (f i.toNat) g (totN g n) n).2)
  else f
def sameU (f g : Nat → UInt64) (n : Nat) : Bool := (List.range n).all fun k => f k == g k
def goodN (n : Nat) (f : Nat → UInt64) : Prop := n ≤ 40 ∧ len4 (totN f n) ≤ 63
def newE (n : Nat) (f : Nat → UInt64) : Int := if 40 < n then 2 else 10

theorem moveF_ok {n : Nat} {f : Nat → UInt64} {i j : Int} {x : UInt64} (h : moveE n f i j x = 0) : moveF n f i j x = upd (upd f i.toNat (f i.toNat - x)) j.toNat (upd f i.toNat (f i.toNat - x) j.toNat + x) := by unfold moveF; rw [if_pos h]
theorem moveF_no {n : Nat} {f : Nat → UInt64} {i j : Int} {x : UInt64} (h : moveE n f i j x ≠ 0) : moveF n f i j x = f := by unfold moveF; rw [if_neg h]
theorem isI_nat {n k : Nat} (h : k < n) : isI n (k : Int) = true := by simp [isI, h]
theorem isI_zero (i : Int) : isI 0 i = false := by
  unfold isI
  by_cases h : 0 ≤ i
  · have : ¬ i < ((0 : Nat) : Int) := by omega
    simp [this]
  · simp [h]
theorem of_bne_false {a b : Int} (h : (a != b) = false) : a = b := by simpa using h
theorem isI_iff {n : Nat} {i : Int} : isI n i = true ↔ 0 ≤ i ∧ i < n := by simp [isI]
theorem sameU_iff {f g : Nat → UInt64} {n : Nat} : sameU f g n = true ↔ ∀ k, k < n → f k = g k := by simp [sameU]
def sumU (f : Nat → UInt64) : Nat → Nat
  | 0 => 0
  | k + 1 => sumU f k + (f k).toNat
theorem smallN_val (x : UInt64) : (smallN x).val = x.toNat := by unfold smallN N4.val; simp
theorem sumU_le (f : Nat → UInt64) : ∀ n, sumU f n ≤ n * 2 ^ 64
  | 0 => Nat.le_refl _
  | k + 1 => by have := sumU_le f k; have := (f k).toNat_lt; simp only [sumU]; omega
theorem totN_val (f : Nat → UInt64) : ∀ n, n ≤ 9223372036854775807 → (totN f n).val = sumU f n
  | 0, _ => rfl
  | k + 1, h => by
    have h1 := totN_val f k (by omega)
    have h2 := add4_val (totN f k) (smallN (f k))
    have h3 := sumU_le f k
    have h4 := (f k).toNat_lt
    rw [h1, smallN_val] at h2
    show (add4 (totN f k) (smallN (f k))).val = sumU f k + (f k).toNat
    have h5 : k * 2 ^ 64 ≤ 9223372036854775807 * 2 ^ 64 := Nat.mul_le_mul_right _ (by omega)
    cases h6 : add4c (totN f k) (smallN (f k)) with
    | false => rw [h6] at h2; simpa using h2
    | true => rw [h6] at h2; simp at h2; omega
theorem goodN_sum {n : Nat} {f : Nat → UInt64} : goodN n f ↔ n ≤ 40 ∧ sumU f n < 2 ^ 63 := by
  unfold goodN
  refine and_congr_right fun h => ?_
  rw [len4_val, totN_val f n (by omega)]
  constructor
  · intro h1
    have h2 := bitLen_lt (sumU f n)
    exact Nat.lt_of_lt_of_le h2 (Nat.pow_le_pow_right (by decide) h1)
  · exact bitLen_le_of_lt
theorem sumU_one {f : Nat → UInt64} {n a : Nat} (h : a < n) : (f a).toNat ≤ sumU f n := by
  induction n with
  | zero => omega
  | succ n ih =>
    simp only [sumU]
    by_cases e : a = n
    · subst e; omega
    · have := ih (by omega); omega
theorem sumU_two {f : Nat → UInt64} {n a b : Nat} (ha : a < n) (hb : b < n) (h : a ≠ b) : (f a).toNat + (f b).toNat ≤ sumU f n := by
  induction n with
  | zero => omega
  | succ n ih =>
    simp only [sumU]
    by_cases e : a = n
    · subst e; have := sumU_one (f := f) (show b < a by omega); omega
    · by_cases e2 : b = n
      · subst e2; have := sumU_one (f := f) (show a < b by omega); omega
      · have := ih (by omega) (by omega); omega
theorem sameu_yes {f g : Nat → UInt64} {n i : Nat} (h : i = n) (hk : ∀ k, k < i → f k = g k) : true = sameU f g n := by subst h; exact (sameU_iff.2 hk).symm
theorem sameu_not {f g : Nat → UInt64} {n i : Nat} (h : i < n) (hk : (f i != g i) = true) : false = sameU f g n := by
  cases h2 : sameU f g n with
  | false => rfl
  | true => exact absurd (sameU_iff.1 h2 i h) (by simpa using hk)
theorem sameu_next {f g : Nat → UInt64} {i : Nat} (h : ∀ k, k < i → f k = g k) (hk : (f i != g i) = false) : ∀ k, k < i + 1 → f k = g k := fun k h2 => by
  by_cases e : k = i
  · subst e; simpa using hk
  · exact h k (by omega)
def urow3 (x y z : UInt64) : Nat → UInt64 := fun k => if k = 0 then x else if k = 1 then y else z
def same3 (g : Nat → UInt64) (x y z : UInt64) : Bool := g 0 == x && g 1 == y && g 2 == z
theorem same3_get {g : Nat → UInt64} {x y z : UInt64} (h : same3 g x y z = true) : ∀ k, k < 3 → urow3 x y z k = g k := fun k hk => by
  simp only [same3, Bool.and_eq_true, beq_iff_eq] at h
  obtain ⟨⟨h0, h1⟩, h2⟩ := h
  rcases k with _ | _ | _ | k
  · exact h0.symm
  · exact h1.symm
  · exact h2.symm
  · omega
theorem tabF_on {n : Nat} {f g : Nat → UInt64} (h : ∀ k, k < n → f k = g k) : ∀ o v, (tabF n fun k => u64 (f k)).get o = some v → (tabF n fun k => u64 (g k)).get o = some v := fun o v ho => by
  by_cases hl : o < n
  · rw [tabF_in hl] at ho ⊢; rw [← h o hl]; exact ho
  · rw [tabF_out hl] at ho; cases ho
theorem urow3_get {x y z : UInt64} : ∀ o v, (tabF 3 fun k => u64 (urow3 x y z k)).get o = some v → (Cont.lit [u64 x, u64 y, u64 z]).get o = some v := fun o v ho => by
  rcases o with _ | _ | _ | o
  · exact ho
  · exact ho
  · exact ho
  · rw [tabF_out (by omega)] at ho; cases ho
theorem row3_runs {P : Program} {f : FuncId} {args : List Value} {bs : List Blk} {v v' : Value} {x0 : Blk} {r : Nat} {g : Nat → UInt64} {a0 a1 a2 : UInt64} {tl : List (Option Blk)}
    (h : Runs P f args bs 0 (fun _ => v) (fun _ => some x0 :: some ⟨r, true, 0, tabF 3 fun k => u64 (g k)⟩ :: tl)) (hv : v = v') (h2 : same3 g a0 a1 a2 = true) :
    Runs P f args bs 0 (fun _ => v') (fun _ => some x0 :: some ⟨r, true, 0, tabF 3 fun k => u64 (urow3 a0 a1 a2 k)⟩ :: tl) := by
  subst hv
  exact h.weak fun ns q x hq => by
    rcases q with _ | _ | q
    · cases hq; exact ⟨_, rfl, rfl, rfl, rfl, fun _ => rfl, .inl rfl⟩
    · cases hq; exact ⟨_, rfl, rfl, rfl, rfl, (fun h => by cases h), .inr ⟨rfl, tabF_on (same3_get h2)⟩⟩
    · exact ⟨x, hq, rfl, rfl, rfl, fun _ => rfl, .inl rfl⟩
/-- What is moved there and back is where it was. -/
theorem move_back {n : Nat} {f : Nat → UInt64} {i j : Int} {x : UInt64} (hg : goodN n f) (h : moveE n f i j x = 0) : moveE n (moveF n f i j x) j i x = 0 ∧ ∀ k, moveF n (moveF n f i j x) j i x k = f k := by
  have h0 := h
  unfold moveE at h
  split at h
  · rename_i hij
    obtain ⟨hi, hj⟩ := hij
    split at h
    · cases h
    · rename_i hx
      have hi' := isI_iff.1 hi
      have hj' := isI_iff.1 hj
      have hs := (goodN_sum.1 hg).2
      have hxn : x.toNat ≤ (f i.toNat).toNat := by rw [UInt64.lt_iff_toNat_lt] at hx; omega
      have e1 : moveF n f i j x = upd (upd f i.toNat (f i.toNat - x)) j.toNat (upd f i.toNat (f i.toNat - x) j.toNat + x) := moveF_ok h0
      generalize ha : i.toNat = a at *
      generalize hb : j.toNat = b at *
      have han : a < n := by omega
      have hbn : b < n := by omega
      have key : moveE n (moveF n f i j x) j i x = 0 := by
        unfold moveE
        rw [if_pos ⟨hj, hi⟩, if_neg]
        rw [hb, e1]
        simp only [upd, if_true]
        rw [UInt64.lt_iff_toNat_lt]
        by_cases hab : b = a
        · subst hab; simp only [if_true]
          rw [show f b - x + x = f b from UInt64.sub_add_cancel _ _]; omega
        · rw [if_neg hab, UInt64.toNat_add, Nat.mod_eq_of_lt]
          · omega
          · have := sumU_two (f := f) han hbn (fun e => hab e.symm); omega
      refine ⟨key, fun k => ?_⟩
      rw [moveF_ok key, e1, ha, hb]
      simp only [upd, if_true]
      by_cases hab : b = a
      · subst hab
        by_cases hk : k = b
        · subst hk; simp
        · simp [hk]
      · have hab' : a ≠ b := fun e => hab e.symm
        by_cases hk : k = a
        · subst hk; simp [hab', hab]
        · by_cases hk2 : k = b
          · subst hk2; simp [hab, hk]
          · simp [hk, hk2]
  · cases h
theorem takeN_le {n : Nat} {f : Nat → UInt64} {i : Int} {x : UInt64} : ¬ hasV n f i < takeN n f i x := by
  unfold takeN minU
  split
  · exact UInt64.lt_irrefl _
  · assumption
theorem take_law (n : Nat) (f : Nat → UInt64) (i j : Int) (x : UInt64) : (isI n i = true ∧ isI n j = true ∧ takeV n f i j x = minU x (hasV n f i)) ∨ ((isI n i && isI n j) = false ∧ takeV n f i j x = 0) := by
  cases hi : isI n i with
  | false =>
    refine .inr ⟨rfl, ?_⟩
    unfold takeV; rw [if_neg]; unfold moveE; rw [if_neg (by rw [hi]; simp)]; decide
  | true =>
    cases hj : isI n j with
    | false =>
      refine .inr ⟨rfl, ?_⟩
      unfold takeV; rw [if_neg]; unfold moveE; rw [if_neg (by rw [hj]; simp)]; decide
    | true =>
      refine .inl ⟨rfl, rfl, ?_⟩
      have h := takeN_le (n := n) (f := f) (i := i) (x := x)
      have e : moveE n f i j (takeN n f i x) = 0 := by
        unfold moveE; rw [if_pos ⟨hi, hj⟩]
        exact if_neg (by have e2 : hasV n f i = f i.toNat := by unfold hasV; rw [hi]; rfl
                         rw [← e2]; exact h)
      unfold takeV; rw [if_pos e]; rfl
end Go.Eng
