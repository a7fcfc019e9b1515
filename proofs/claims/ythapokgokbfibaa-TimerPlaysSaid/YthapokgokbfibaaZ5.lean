/-
  Many in one: LimbByt, EngZ, EngT, EngU, EngV.
-/
import Derived.Test.YthapokgokbfibaaZ4
import Derived.Deep.Slices
section
namespace Go.Eng
theorem or_low_byte {g : UInt64} {b : UInt8} {s : Nat} (hs : s ≤ 56) (hg : g.toNat < 2 ^ s) : (g ||| shl64 b.toUInt64 s).toNat = g.toNat + b.toNat * 2 ^ s := by
  have hb := b.toNat_lt
  have hp : 2 ^ s ≤ 2 ^ 56 := Nat.pow_le_pow_right (by omega) hs
  have h1 : b.toNat * 2 ^ s ≤ 255 * 2 ^ s := Nat.mul_le_mul_right _ (by omega)
  rw [UInt64.toNat_or, shl64_toNat, UInt8.toNat_toUInt64, Nat.mod_eq_of_lt (show b.toNat * 2 ^ s < 18446744073709551616 by omega), Nat.mul_comm, or_parts hg]
def beN (f : Nat → UInt8) (n i : Nat) : Nat := numOf (fun j => (f (n - 1 - j)).toNat) i
theorem beN_lt (f : Nat → UInt8) (n i : Nat) : beN f n i < 256 ^ i := numOf_lt fun _ _ => (f _).toNat_lt
theorem of_step (a : N4) (f : Nat → UInt8) (n i : Nat) (hi : i < 32) (ha : a.val = beN f n i) :
    (a.set (i / 8) (a.get (i / 8) ||| shl64 (f (n - 1 - i)).toUInt64 (i % 8 * 8))).val = beN f n (i + 1) := by
  have hj : i / 8 < 4 := by omega
  obtain ⟨q, hq⟩ := word_of a (i / 8) hj
  have ei : 8 * i = 64 * (i / 8) + i % 8 * 8 := by omega
  have hlt : a.val < 2 ^ (64 * (i / 8)) * 2 ^ (i % 8 * 8) := by
    rw [ha, ← Nat.pow_add, ← ei, ← pow256]; exact beN_lt f n i
  have hdiv : a.val / 2 ^ (64 * (i / 8)) < 2 ^ (i % 8 * 8) := Nat.div_lt_of_lt_mul hlt
  have hg : (a.get (i / 8)).toNat < 2 ^ (i % 8 * 8) := by omega
  have hs := a.set_val (i / 8) (a.get (i / 8) ||| shl64 (f (n - 1 - i)).toUInt64 (i % 8 * 8)) hj
  rw [or_low_byte (by omega) hg, Nat.mul_add] at hs
  have e : 2 ^ (64 * (i / 8)) * ((f (n - 1 - i)).toNat * 2 ^ (i % 8 * 8)) = (f (n - 1 - i)).toNat * 256 ^ i := by
    rw [pow256, ei, Nat.pow_add, Nat.mul_left_comm]
  rw [e] at hs
  show _ = numOf _ (i + 1)
  simp only [numOf]
  unfold beN at ha
  omega
def ofN (f : Nat → UInt8) (n : Nat) : N4 := match decide (32 < n) with
  | true => ⟨0, 0, 0, 0⟩
  | false => N4.ofNat (beN f n n)
def ofE (n : Nat) : Int := match decide (32 < n) with
  | true => 2
  | false => 0
theorem ofN_end {a : N4} {f : Nat → UInt8} {n : Nat} (ha : a.val = beN f n n) : a = N4.ofNat (beN f n n) := N4.eq_ofNat ha
def bytesF (a : N4) : Nat → UInt8 := fun k => if k < 32 then UInt8.ofNat (dig a.val (31 - k)) else 0
theorem byte_out (a : N4) (i : Nat) (hi : i < 32) : (shr64 (a.get (i / 8)) (i % 8 * 8)).toUInt8 = UInt8.ofNat (dig a.val i) := by
  apply UInt8.toNat_inj.1
  have h := byte_val a i hi
  rw [and255, Nat.mul_comm] at h
  rw [UInt64.toNat_toUInt8, h, UInt8.toNat_ofNat', Nat.mod_eq_of_lt (dig_lt _ _)]
theorem bytes_step {f : Nat → UInt8} {a : N4} {i : Nat} (hi : i < 32) (h : ∀ k, f k = if k < 32 ∧ 32 ≤ k + i then UInt8.ofNat (dig a.val (31 - k)) else 0) :
    ∀ k, upd f (31 - i) (shr64 (a.get (i / 8)) (i % 8 * 8)).toUInt8 k = if k < 32 ∧ 32 ≤ k + (i + 1) then UInt8.ofNat (dig a.val (31 - k)) else 0 := fun k => by
  unfold upd
  by_cases hk : k = 31 - i
  · subst hk
    rw [if_pos rfl, if_pos (show 31 - i < 32 ∧ 32 ≤ 31 - i + (i + 1) by omega), byte_out a i hi, show 31 - (31 - i) = i by omega]
  · rw [if_neg hk, h k]
    by_cases h1 : k < 32 ∧ 32 ≤ k + i
    · rw [if_pos h1, if_pos (show k < 32 ∧ 32 ≤ k + (i + 1) by omega)]
    · rw [if_neg h1, if_neg (show ¬ (k < 32 ∧ 32 ≤ k + (i + 1)) by omega)]
theorem bytes_end {f : Nat → UInt8} {a : N4} {i : Nat} (hi : i = 32) (h : ∀ k, f k = if k < 32 ∧ 32 ≤ k + i then UInt8.ofNat (dig a.val (31 - k)) else 0) : f = bytesF a := by
  funext k
  rw [h k, bytesF]
  by_cases hk : k < 32
  · rw [if_pos hk, if_pos (show k < 32 ∧ 32 ≤ k + i by omega)]
  · rw [if_neg hk, if_neg (show ¬ (k < 32 ∧ 32 ≤ k + i) by omega)]
theorem beN_bytes (a : N4) : beN (bytesF a) 32 32 = a.val := by
  have h1 : beN (bytesF a) 32 32 = numOf (dig a.val) 32 := numOf_congr fun j hj => by
    show (bytesF a (32 - 1 - j)).toNat = _
    rw [bytesF, if_pos (show 32 - 1 - j < 32 by omega), UInt8.toNat_ofNat', Nat.mod_eq_of_lt (dig_lt _ _), show 31 - (32 - 1 - j) = j by omega]
  rw [h1, numOf_dig, Nat.mod_eq_of_lt]
  exact Nat.lt_of_lt_of_le a.val_lt (by decide)
theorem ofN_bytes (a : N4) : ofN (bytesF a) 32 = a := by
  show N4.ofNat (beN (bytesF a) 32 32) = a
  rw [beN_bytes, N4.ofNat_val]
theorem rof_step {d : Nat → Nat} {f : Nat → UInt8} {n i : Nat} (hi : i < n) (h : ∀ k, d k = if k < n ∧ n ≤ k + i then (f (n - 1 - k)).toNat else 0) :
    ∀ k, upd d (n - 1 - i) (f i).toNat k = if k < n ∧ n ≤ k + (i + 1) then (f (n - 1 - k)).toNat else 0 := fun k => by
  unfold upd
  by_cases hk : k = n - 1 - i
  · subst hk
    rw [if_pos rfl, if_pos (show n - 1 - i < n ∧ n ≤ n - 1 - i + (i + 1) by omega), show n - 1 - (n - 1 - i) = i by omega]
  · rw [if_neg hk, h k]
    by_cases h1 : k < n ∧ n ≤ k + i
    · rw [if_pos h1, if_pos (show k < n ∧ n ≤ k + (i + 1) by omega)]
    · rw [if_neg h1, if_neg (show ¬ (k < n ∧ n ≤ k + (i + 1)) by omega)]
theorem rof_end {d : Nat → Nat} {f : Nat → UInt8} {n i : Nat} (hn : n ≤ 32) (hi : i = n) (h : ∀ k, d k = if k < n ∧ n ≤ k + i then (f (n - 1 - k)).toNat else 0) : vecV 64 (fun k => nat (d k)) = digV (beN f n n) := by
  have hd : ∀ k, d k < 256 := fun k => by
    rw [h k]; split
    · exact (f _).toNat_lt
    · omega
  have hnum : ∀ m, n ≤ m → numOf d m = beN f n n := fun m => by
    induction m with
    | zero => intro hm; have : n = 0 := by omega
              subst this; rfl
    | succ m ih =>
      intro hm
      by_cases hmn : n = m + 1
      · subst hmn
        exact numOf_congr fun j hj => by rw [h j, if_pos (show j < m + 1 ∧ m + 1 ≤ j + i by omega)]
      · simp only [numOf]
        rw [ih (by omega), h m, if_neg (show ¬ (m < n ∧ n ≤ m + i) by omega)]; omega
  exact vecV_ext fun k hk => by rw [dig_of_num (fun i _ => hd i) (hnum 64 (by omega)) k hk]
def sameS (f : Nat → UInt8) (n : Nat) (g : Nat → UInt8) (m : Nat) : Bool := decide (n = m ∧ ∀ k, k < n → f k = g k)
theorem same_len {f g : Nat → UInt8} {n m : Nat} (h : n ≠ m) : false = sameS f n g m := (decide_eq_false fun e => h e.1).symm
theorem same_not {f g : Nat → UInt8} {n m i : Nat} (hi : i < n) (h : f i ≠ g i) : false = sameS f n g m := (decide_eq_false fun e => h (e.2 i hi)).symm
theorem same_yes {f g : Nat → UInt8} {n m i : Nat} (hnm : n = m) (hi : i = n) (h : ∀ k, k < i → f k = g k) : true = sameS f n g m := (decide_eq_true ⟨hnm, fun k hk => h k (by omega)⟩).symm
theorem same_next {f g : Nat → UInt8} {i : Nat} (h : ∀ k, k < i → f k = g k) (he : (!(f i == g i)) = false) : ∀ k, k < i + 1 → f k = g k := fun k hk => by
  by_cases hki : k = i
  · subst hki; have := bnot_f he; exact beq_iff_eq.1 this
  · exact h k (by omega)
theorem same_ne {f g : Nat → UInt8} {i : Nat} (he : (!(f i == g i)) = true) : f i ≠ g i := fun e => by rw [e] at he; simp at he
theorem same_self (f : Nat → UInt8) (n : Nat) : sameS f n f n = true := decide_eq_true ⟨rfl, fun _ _ => rfl⟩
section
variable {P : Program} {t t' : TypeId} {x y : Operand} (a b : UInt8)
theorem is_neq8 : IsOp P (.binOp .neq t x y t') [u8 a, u8 b] (.bool (!(a == b))) := isOp_bin guard_int (by
  show some (Value.bool (!((a.toNat : Int) == (b.toNat : Int)))) = _
  have : ((a.toNat : Int) == (b.toNat : Int)) = (a == b) := by
    rw [Bool.eq_iff_iff, beq_iff_eq, beq_iff_eq]
    constructor
    · intro h; exact UInt8.toNat_inj.1 (by omega)
    · intro h; rw [h]
  rw [this])
end
end Go.Eng
namespace Go.Eng
section bytesin
open Go.ChangeShapes Go.WideShapes Go.ChangeAt Go.RowKit Go.Deep
variable {H : Type} {enc : TypeId × Value → H} {P : Program}
theorem u8_of {n : Int} (h : (Lit.int .u8 n).wf = true) : ∃ x : UInt8, Value.int .u8 n = u8 x := by
  have hx : 0 ≤ n ∧ n ≤ 255 := by simpa [Lit.wf, IntKind.min, IntKind.max, IntKind.signed, IntKind.bits] using h
  refine ⟨.ofNat n.toNat, ?_⟩
  unfold u8
  rw [UInt8.toNat_ofNat', Nat.mod_eq_of_lt (by omega)]
  congr 1
  omega
theorem lt_of_cell {W : World} {a : Addr} {v : Value} (h : W.cell? a = some v) : a.block < W.heap.size := by
  by_cases hlt : a.block < W.heap.size
  · exact hlt
  · have : W.heap[a.block]? = none := by simp; omega
    simp [World.cell?, this] at h
theorem open_slice8 {r : Reach} {b0 : Nat} {W : World} {base : Nat} {sp : Nat → Bool} {held : Bool} {t e : TypeId} {v : Value} {d : DataW H} {ps : List MemPlace} (ht : P.underlying t = some (.slice e)) (he : P.underlying e = some (.int .u8))
    (hc : P.cellsOf e = 1) (hval : Value.okWide P W r b0 t v) (hd : DataW.Trod enc P W base sp held t v d ps) :
    (∃ ao c, v = .slice ao 0 c) ∨ ∃ (b o n c : Nat) (f : Nat → UInt8), v = .slice (some ⟨b, o, none⟩) n c ∧ n ≤ 9223372036854775807 ∧ Holds ⟨b, false, o, tabF n fun k => u8 (f k)⟩ W := by
  obtain ⟨a1, len, cap, rfl⟩ := okWide_slice ht hval
  obtain ⟨fuel, hf⟩ := hd
  by_cases h0 : len = 0
  · subst h0; exact .inl ⟨_, _, rfl⟩
  rcases open_slice1 ht hc hf with ⟨hcs, _⟩ | ⟨a, len', cap', m, n, V, D, Pl, hcs, _, hl, hm, hmm, _, hx⟩
  · simp [Value.cells] at hcs
    exact absurd hcs.2.1 h0
  · simp [Value.cells] at hcs
    obtain ⟨rfl, rfl, rfl⟩ := hcs
    have hlm : len ≤ m := by rw [hmm]; split <;> omega
    have hspot : a.spot = none := World.cell?_spot (by
      have := (hx 0 (by omega)).1
      rwa [show a.add 0 = a from by cases a; simp [Addr.add]] at this)
    obtain ⟨ab, ao, spot⟩ := a
    simp only at hspot
    subst hspot
    have hV : ∀ i, i < len → ∃ x : UInt8, V i = u8 x := fun i hi => by
      obtain ⟨_, h2⟩ := hx i (by omega)
      obtain ⟨x0, e0, _, w0⟩ := DataW.trod_int he h2
      simp at e0
      rw [e0]
      exact u8_of w0
    obtain ⟨f, hfV⟩ := choose_lt (α := UInt8) (p := fun i x => V i = u8 x) hV
    refine .inr ⟨ab, ao, len, cap, f, rfl, by unfold maxLen at hm; omega, ⟨lt_of_cell (hx 0 (by omega)).1, fun o v ho => ?_, (fun h => by cases h), obj_not rfl⟩⟩
    by_cases hol : o < len
    · rw [tabF_in hol] at ho
      injection ho with ho
      have := (hx o (by omega)).1
      rw [add_none] at this
      rw [this, hfV o hol, ho]
    · rw [tabF_out hol] at ho; cases ho
end bytesin
end Go.Eng
end
section
namespace Go.Eng
open Go.RowKit
theorem sband_nt {a : Bool} (h : selB a true false = false) : a = false := match a, h with
  | false, _ => rfl
theorem runs_law {P : Program} {f : FuncId} {args : List Value} {bs : List Blk} {v : Value} {out : List Nat → List (Option Blk)} {W : World} (h : Runs P f args bs 0 (fun _ => v) out) (hb : ∀ b ∈ bs, Holds b W) (hro : ∀ b ∈ bs, b.own = false) :
    Calls P f args.toArray W fun e w' => e = .returned v ∧ Below W.heap.size W w' := by
  have hl : ∀ p b, listMem (bs.map some) p = some b → b.own = false := fun p b hp => hro b (List.mem_of_getElem? (listMem_some.1 hp))
  refine Calls.mono (h W hb fun p q x y _ hx _ ho => ?_) fun e w' ⟨ns, _, he, hp⟩ => ⟨he, below_of_adv hp.adv hl⟩
  rw [hl p x hx] at ho; cases ho
end Go.Eng
end
section
namespace Go.Eng
section
open Go.ChangeShapes Go.WideShapes Go.ChangeAt Go.RowKit Go.Deep
variable {H : Type} {enc : TypeId × Value → H} {P : Program}
theorem open_sliceE {α : Type} [Inhabited α] (K : α → List Value) {sz : Nat} (hK : ∀ a, (K a).length = sz) (hs0 : 0 < sz) {r : Reach} {b0 : Nat} {W : World} {base : Nat} {sp : Nat → Bool} {held : Bool} {t e : TypeId} {v : Value} {d : DataW H} {ps : List MemPlace} (ht : P.underlying t = some (.slice e))
    (hc : P.cellsOf e = sz) (hel : ∀ n cs x, cs.length = sz → DataW.trod enc P W base sp held n e cs = some x → ∃ a, cs = K a) (hval : Value.okWide P W r b0 t v) (hd : DataW.Trod enc P W base sp held t v d ps) :
    (∃ ao c, v = .slice ao 0 c) ∨ ∃ (b o n c : Nat) (f : Nat → α), v = .slice (some ⟨b, o, none⟩) n c ∧ 0 < n ∧ n ≤ 9223372036854775807 ∧ Holds ⟨b, false, o, .tab n sz fun k => K (f k)⟩ W := by
  obtain ⟨a1, len, cap, rfl⟩ := okWide_slice ht hval
  obtain ⟨fuel, hf⟩ := hd
  by_cases h0 : len = 0
  · subst h0; exact .inl ⟨_, _, rfl⟩
  rcases open_slice ht hf with ⟨hcs, _⟩ | ⟨a, len', cap', m, n, D, Pl, hcs, _, hl, hm, hmm, _, hx⟩
  · simp [Value.cells] at hcs
    exact absurd hcs.2.1 h0
  · simp [Value.cells] at hcs
    obtain ⟨rfl, rfl, rfl⟩ := hcs
    rw [hc] at hx
    have hlm : len ≤ m := by rw [hmm]; split <;> omega
    have hV : ∀ i, i < len → ∃ x : α, ∀ j, j < sz → W.cell? ((a.add (i * sz)).add j) = (K x)[j]? := fun i hi => by
      obtain ⟨cs', h1, h2⟩ := hx i (by omega)
      obtain ⟨_, hlen, hcell⟩ := World.cells?_some h1
      obtain ⟨x, hx⟩ := hel _ _ _ hlen h2
      subst hx
      exact ⟨x, hcell⟩
    obtain ⟨f, hfV⟩ := choose_lt (α := α) (p := fun i x => ∀ j, j < sz → W.cell? ((a.add (i * sz)).add j) = (K x)[j]?) hV
    have hfirst : ∃ u, W.cell? a = some u := by
      have := hfV 0 (by omega) 0 hs0
      rw [show (a.add (0 * sz)).add 0 = a from by cases a; simp [Addr.add]] at this
      rw [this, List.getElem?_eq_getElem (by rw [hK]; exact hs0)]
      exact ⟨_, rfl⟩
    obtain ⟨u0, hu0⟩ := hfirst
    have hspot : a.spot = none := World.cell?_spot hu0
    obtain ⟨ab, ao, spot⟩ := a
    simp only at hspot
    subst hspot
    refine .inr ⟨ab, ao, len, cap, f, rfl, by omega, by unfold maxLen at hm; omega, ⟨lt_of_cell hu0, fun o v ho => ?_, (fun h => by cases h), obj_not rfl⟩⟩
    by_cases hol : o < len * sz
    · simp only [Cont.get, if_pos hol] at ho
      have := hfV (o / sz) (div_lt_row hol) (o % sz) (Nat.mod_lt _ hs0)
      rw [add_none, add_none, Nat.add_assoc, show o / sz * sz + o % sz = o by rw [Nat.mul_comm]; exact Nat.div_add_mod o sz] at this
      rw [this]; exact ho
    · rw [tabE_out hol] at ho; cases ho
def cellsN (a : N4) : List Value := [u64 a.a, u64 a.b, u64 a.c, u64 a.d]
theorem cellsN_ok (a : N4) : (cellsN a).length = 4 ∧ (cellsN a).all Value.oneCell' = true := ⟨rfl, rfl⟩
instance : Inhabited N4 := ⟨⟨0, 0, 0, 0⟩⟩
theorem open_sliceN {r : Reach} {b0 : Nat} {W : World} {base : Nat} {sp : Nat → Bool} {held : Bool} {t e u : TypeId} {v : Value} {d : DataW H} {ps : List MemPlace} (ht : P.underlying t = some (.slice e)) (he : P.underlying e = some (.array 4 u)) (hu : P.underlying u = some (.int .u64))
    (hcu : P.cellsOf u = 1) (hc : P.cellsOf e = 4) (hval : Value.okWide P W r b0 t v) (hd : DataW.Trod enc P W base sp held t v d ps) :
    (∃ ao c, v = .slice ao 0 c) ∨ ∃ (b o n c : Nat) (f : Nat → N4), v = .slice (some ⟨b, o, none⟩) n c ∧ 0 < n ∧ n ≤ 9223372036854775807 ∧ Holds ⟨b, false, o, .tab n 4 fun k => cellsN (f k)⟩ W :=
  open_sliceE cellsN (fun _ => rfl) (by decide) ht hc (fun n cs x hl h => nat4_of_row he hu hcu hl h) hval hd
end
end Go.Eng
end
section
namespace Go.Eng
theorem Runs.retell {P : Program} {f : FuncId} {args : List Value} {bs bs' : List Blk} {k : Nat} {v : List Nat → Value} {out : List Nat → List (Option Blk)} (h : Runs P f args bs k v out)
    (hb : ∀ w : World, (∀ b ∈ bs', Holds b w) → ∀ b ∈ bs, Holds b w) (hn : bs.map (fun b => (b.name, b.own)) = bs'.map fun b => (b.name, b.own)) (hro : ∀ ns p b, listMem (out ns) p = some b → b.own = true) :
    Runs P f args bs' k v out := fun w hw ha => by
  have hlk : ∀ p b, listMem (bs.map some) p = some b → ∃ b', listMem (bs'.map some) p = some b' ∧ b'.name = b.name ∧ b'.own = b.own := fun p b hp => by
    have h1 := listMem_some.1 hp
    have h2 : (bs.map fun b => (b.name, b.own))[p]? = some (b.name, b.own) := by rw [List.getElem?_map, h1]; rfl
    rw [hn, List.getElem?_map] at h2
    cases h3 : bs'[p]? with
    | none => rw [h3] at h2; cases h2
    | some b' =>
      rw [h3] at h2
      simp at h2
      exact ⟨b', listMem_some.2 h3, h2.1, h2.2⟩
  have hlk' : ∀ p b, listMem (bs'.map some) p = some b → ∃ b', listMem (bs.map some) p = some b' ∧ b'.name = b.name ∧ b'.own = b.own := fun p b hp => by
    have h1 := listMem_some.1 hp
    have h2 : (bs'.map fun b => (b.name, b.own))[p]? = some (b.name, b.own) := by rw [List.getElem?_map, h1]; rfl
    rw [← hn, List.getElem?_map] at h2
    cases h3 : bs[p]? with
    | none => rw [h3] at h2; cases h2
    | some b' =>
      rw [h3] at h2
      simp at h2
      exact ⟨b', listMem_some.2 h3, h2.1, h2.2⟩
  refine Calls.mono (h w (hb w hw) fun p q b c hpq hp hq ho => ?_) fun e w' ⟨ns, h1, h2, h3⟩ => ⟨ns, h1, h2, h3.holds, h3.apart, ⟨h3.adv.os, h3.adv.output, h3.adv.tape, h3.adv.size, fun j hj hno => h3.adv.heap j hj fun ⟨p, b, hp, ho, he⟩ => ?_, fun j hj => ?_, fun p b hp ho => ?_⟩⟩
  · obtain ⟨b', hb1, hb2, hb3⟩ := hlk p b hp
    obtain ⟨c', hc1, hc2, hc3⟩ := hlk q c hq
    rw [← hb2, ← hc2]
    exact ha p q b' c' hpq hb1 hc1 (hb3.trans ho)
  · obtain ⟨b', hb1, hb2, hb3⟩ := hlk p b hp
    exact hno ⟨p, b', hb1, hb3.trans ho, hb2.trans he⟩
  · rcases h3.adv.names j hj with ⟨p, b, hp, ho, he⟩ | h4
    · obtain ⟨b', hb1, hb2, hb3⟩ := hlk p b hp
      exact .inl ⟨p, b', hb1, hb3.trans ho, hb2.trans he⟩
    · exact .inr h4
  · rw [hro ns p b hp] at ho; cases ho
abbrev tabN (n : Nat) (f : Nat → N4) : Cont := .tab n 4 fun k => cellsN (f k)
theorem store_tabN (n : Nat) (f : Nat → N4) (i : Nat) (v : N4) : (tabN n f).store (.tab i 0) [u64 v.a, u64 v.b, u64 v.c, u64 v.d] = some (tabN n (upd f i v)) := by
  show some (Cont.tab n 4 fun k => if k = i then splice (cellsN (f i)) 0 (cellsN v) else cellsN (f k)) = _
  congr 1
  unfold tabN
  congr 1
  funext k
  by_cases h : k = i
  · subst h; simp [upd]; rfl
  · simp [upd, h]
def nrow1 (a : N4) : Nat → N4 := fun _ => a
def nrow2 (a b : N4) : Nat → N4 := fun k => match k with
  | 0 => a
  | _ => b
def nrow3 (a b c : N4) : Nat → N4 := fun k => match k with
  | 0 => a
  | 1 => b
  | _ => c
theorem to_row1 (a : N4) : ∀ o v, (tabN 1 (nrow1 a)).get o = some v → (Cont.lit [u64 a.a, u64 a.b, u64 a.c, u64 a.d]).get o = some v := fun o v h => by
  rcases o with _ | _ | _ | _ | o <;> first | exact h | (rw [tabE_out (by omega)] at h; cases h)
theorem to_row2 (a b : N4) : ∀ o v, (tabN 2 (nrow2 a b)).get o = some v → (Cont.lit [u64 a.a, u64 a.b, u64 a.c, u64 a.d, u64 b.a, u64 b.b, u64 b.c, u64 b.d]).get o = some v := fun o v h => by
  rcases o with _ | _ | _ | _ | _ | _ | _ | _ | o <;> first | exact h | (rw [tabE_out (by omega)] at h; cases h)
theorem to_row3 (a b c : N4) : ∀ o v, (tabN 3 (nrow3 a b c)).get o = some v → (Cont.lit [u64 a.a, u64 a.b, u64 a.c, u64 a.d, u64 b.a, u64 b.b, u64 b.c, u64 b.d, u64 c.a, u64 c.b, u64 c.c, u64 c.d]).get o = some v := fun o v h => by
  rcases o with _ | _ | _ | _ | _ | _ | _ | _ | _ | _ | _ | _ | o <;> first | exact h | (rw [tabE_out (by omega)] at h; cases h)
theorem holds_two {x y y' : Blk} (hn : y'.name = y.name ∧ y'.own = y.own ∧ y'.base = y.base) (hnm : y.cont.isMap = false) (hc : ∀ o v, y.cont.get o = some v → y'.cont.get o = some v) (w : World) (h : ∀ b ∈ [x, y'], Holds b w) : ∀ b ∈ [x, y], Holds b w := fun b hb => by
  rcases List.mem_cons.1 hb with rfl | hb
  · exact h _ (by simp)
  · rcases List.mem_cons.1 hb with rfl | hb
    · have := h y' (by simp)
      obtain ⟨n1, o1, b1, c1⟩ := b
      obtain ⟨n2, o2, b2, c2⟩ := y'
      obtain ⟨rfl, rfl, rfl⟩ := hn
      exact this.recont hnm hc
    · cases hb
end Go.Eng
end
section
namespace Go.Eng
section
variable {P : Program} {t e : TypeId} {x y : Operand}
theorem is_slTo {sz : Nat} (ht : P.underlying t = some (.slice e)) (hs : sizeB P e = some sz) (n o len cap i : Nat) (hi : i ≤ cap) : IsOp P (.slice t x none (some y) none) [.slice (some ⟨n, o, none⟩) len cap, nat i] (.slice (some ⟨n, o, none⟩) i cap) := by
  intro ρ o' ho hv
  rw [ho] at hv
  have hv' : [ρ x, ρ y] = [Value.slice (some ⟨n, o, none⟩) len cap, nat i] := hv
  injection hv' with h1 hv'
  injection hv' with h2 _
  unfold execOp
  rw [ho]
  simp only [Option.map]
  show pureRun P (Sem.bind (Instr.sliceAt t (ρ x) none (some (ρ y)) none) fun v => Sem.pure (Next.value v)) = _
  rw [pureRun_bind, h1, h2]
  have hi' : 0 ≤ (i : Int) ∧ (i : Int) ≤ (cap : Int) := by omega
  have e : pureRun P (Instr.sliceAt t (.slice (some ⟨n, o, none⟩) len cap) none (some (nat i)) none) = some (.slice (some ⟨n, o, none⟩) i cap) := by
    simp only [Instr.sliceAt, Instr.slice, Instr.sliceBounds, Instr.sliceBound, nat, pureRun_bind', asIntOf, pureRun, pure, pureRun_underlying ht, hi', and_self, if_true, pureRun_sizeOf hs, Int.toNat_natCast]
    simp [add_none]
  rw [e]
  rfl
end
end Go.Eng
end
