/-
  Many in one: LimbByt, EngT, EngU, EngZ, EngV, LimbBytFns.
-/
import Derived.Test.YtllalpcjfnmibaaDoorZDigestTwice6
import Derived.Deep.Slices
section
namespace Go.Eng
theorem or_low_byte {g : UInt64} {b : UInt8} {s : Nat} (hs : s ≤ 56) (hg : g.toNat < 2 ^ s) : (g ||| shl64 b.toUInt64 s).toNat = g.toNat + b.toNat * 2 ^ s := by
  have hb := b.toNat_lt
  have hp : 2 ^ s ≤ 2 ^ 56 := Nat.pow_le_pow_right (by omega) hs
  have h1 : b.toNat * 2 ^ s ≤ 255 * 2 ^ s := Nat.mul_le_mul_right _ (by omega)
  rw [UInt64.toNat_or, shl64_toNat, UInt8.toNat_toUInt64, Nat.mod_eq_of_lt (show b.toNat * 2 ^ s < 18446744073709551616 by omega), Nat.mul_comm, or_parts hg]
def beN (f : Nat → UInt8) (n i : Nat) : Nat := numOf (fun j => (f (n - 1 - j)).toNat) i
theorem beN_lt (f : Nat → UInt8) (n i : Nat) : beN f n i < 256 ^ i := numOf_lt fun _ _ => (f _).toNat_lt
theorem of_step (a : N4) (f : Nat → UInt8) (n i : Nat) (hi : i < 32) (ha : a.val = beN f n i) :
    (a.set (i / 8) (a.get (i / 8) ||| shl64 (f (n - 1 - i)).toUInt64 (i % 8 * 8))).val = beN f n (i + 1) := by
  have hj : i / 8 < 4 := by omega
  obtain ⟨q, hq⟩ := word_of a (i / 8) hj
  have ei : 8 * i = 64 * (i / 8) + i % 8 * 8 := by omega
  have hlt : a.val < 2 ^ (64 * (i / 8)) * 2 ^ (i % 8 * 8) := by
    rw [ha, ← Nat.pow_add, ← ei, ← pow256]; exact beN_lt f n i
  have hdiv : a.val / 2 ^ (64 * (i / 8)) < 2 ^ (i % 8 * 8) := Nat.div_lt_of_lt_mul hlt
  have hg : (a.get (i / 8)).toNat < 2 ^ (i % 8 * 8) := by omega
  have hs := a.set_val (i / 8) (a.get (i / 8) ||| shl64 (f (n - 1 - i)).toUInt64 (i % 8 * 8)) hj
  rw [or_low_byte (by omega) hg, Nat.mul_add] at hs
  have e : 2 ^ (64 * (i / 8)) * ((f (n - 1 - i)).toNat * 2 ^ (i % 8 * 8)) = (f (n - 1 - i)).toNat * 256 ^ i := by
    rw [pow256, ei, Nat.pow_add, Nat.mul_left_comm]
  rw [e] at hs
  show _ = numOf _ (i + 1)
  simp only [numOf]
  unfold beN at ha
  omega
def ofN (f : Nat → UInt8) (n : Nat) : N4 := match decide (32 < n) with
  | true => ⟨0, 0, 0, 0⟩
  | false => N4.ofNat (beN f n n)
def ofE (n : Nat) : Int := match decide (32 < n) with
  | true => 2
  | false => 0
theorem ofN_end {a : N4} {f : Nat → UInt8} {n : Nat} (ha : a.val = beN f n n) : a = N4.ofNat (beN f n n) := N4.eq_ofNat ha
def bytesF (a : N4) : Nat → UInt8 := fun k => if k < 32 then UInt8.ofNat (dig a.val (31 - k)) else 0
theorem byte_out (a : N4) (i : Nat) (hi : i < 32) : (shr64 (a.get (i / 8)) (i % 8 * 8)).toUInt8 = UInt8.ofNat (dig a.val i) := by
  apply UInt8.toNat_inj.1
  have h := byte_val a i hi
  rw [and255, Nat.mul_comm] at h
  rw [UInt64.toNat_toUInt8, h, UInt8.toNat_ofNat', Nat.mod_eq_of_lt (dig_lt _ _)]
theorem bytes_step {f : Nat → UInt8} {a : N4} {i : Nat} (hi : i < 32) (h : ∀ k, f k = if k < 32 ∧ 32 ≤ k + i then UInt8.ofNat (dig a.val (31 - k)) else 0) :
    ∀ k, upd f (31 - i) (shr64 (a.get (i / 8)) (i % 8 * 8)).toUInt8 k = if k < 32 ∧ 32 ≤ k + (i + 1) then UInt8.ofNat (dig a.val (31 - k)) else 0 := fun k => by
  unfold upd
  by_cases hk : k = 31 - i
  · subst hk
    rw [if_pos rfl, if_pos (show 31 - i < 32 ∧ 32 ≤ 31 - i + (i + 1) by omega), byte_out a i hi, show 31 - (31 - i) = i by omega]
  · rw [if_neg hk, h k]
    by_cases h1 : k < 32 ∧ 32 ≤ k + i
    · rw [if_pos h1, if_pos (show k < 32 ∧ 32 ≤ k + (i + 1) by omega)]
    · rw [if_neg h1, if_neg (show ¬ (k < 32 ∧ 32 ≤ k + (i + 1)) by omega)]
theorem bytes_end {f : Nat → UInt8} {a : N4} {i : Nat} (hi : i = 32) (h : ∀ k, f k = if k < 32 ∧ 32 ≤ k + i then UInt8.ofNat (dig a.val (31 - k)) else 0) : f = bytesF a := by
  funext k
  rw [h k, bytesF]
  by_cases hk : k < 32
  · rw [if_pos hk, if_pos (show k < 32 ∧ 32 ≤ k + i by omega)]
  · rw [if_neg hk, if_neg (show ¬ (k < 32 ∧ 32 ≤ k + i) by omega)]
def sameS (f : Nat → UInt8) (n : Nat) (g : Nat → UInt8) (m : Nat) : Bool := decide (n = m ∧ ∀ k, k < n → f k = g k)
theorem same_len {f g : Nat → UInt8} {n m : Nat} (h : n ≠ m) : false = sameS f n g m := (decide_eq_false fun e => h e.1).symm
theorem same_not {f g : Nat → UInt8} {n m i : Nat} (hi : i < n) (h : f i ≠ g i) : false = sameS f n g m := (decide_eq_false fun e => h (e.2 i hi)).symm
theorem same_yes {f g : Nat → UInt8} {n m i : Nat} (hnm : n = m) (hi : i = n) (h : ∀ k, k < i → f k = g k) : true = sameS f n g m := (decide_eq_true ⟨hnm, fun k hk => h k (by omega)⟩).symm
theorem same_next {f g : Nat → UInt8} {i : Nat} (h : ∀ k, k < i → f k = g k) (he : (!(f i == g i)) = false) : ∀ k, k < i + 1 → f k = g k := fun k hk => by
  by_cases hki : k = i
  · subst hki; have := bnot_f he; exact beq_iff_eq.1 this
  · exact h k (by omega)
theorem same_ne {f g : Nat → UInt8} {i : Nat} (he : (!(f i == g i)) = true) : f i ≠ g i := fun e => by rw [e] at he; simp at he
theorem same_self (f : Nat → UInt8) (n : Nat) : sameS f n f n = true := decide_eq_true ⟨rfl, fun _ _ => rfl⟩
section
variable {P : Program} {t t' : TypeId} {x y : Operand} (a b : UInt8)
theorem is_neq8 : IsOp P (.binOp .neq t x y t') [u8 a, u8 b] (.bool (!(a == b))) := isOp_bin guard_int (by
  show some (Value.bool (!((a.toNat : Int) == (b.toNat : Int)))) = _
  have : ((a.toNat : Int) == (b.toNat : Int)) = (a == b) := by
    rw [Bool.eq_iff_iff, beq_iff_eq, beq_iff_eq]
    constructor
    · intro h; exact UInt8.toNat_inj.1 (by omega)
    · intro h; rw [h]
  rw [this])
end
end Go.Eng
namespace Go.Eng
section bytesin
open Go.ChangeShapes Go.WideShapes Go.ChangeAt Go.RowKit Go.Deep
variable {H : Type} {enc : TypeId × Value → H} {P : Program}
theorem u8_of {n : Int} (h : (Lit.int .u8 n).wf = true) : ∃ x : UInt8, Value.int .u8 n = u8 x := by
  have hx : 0 ≤ n ∧ n ≤ 255 := by simpa [Lit.wf, IntKind.min, IntKind.max, IntKind.signed, IntKind.bits] using h
  refine ⟨.ofNat n.toNat, ?_⟩
  unfold u8
  rw [UInt8.toNat_ofNat', Nat.mod_eq_of_lt (by omega)]
  congr 1
  omega
theorem lt_of_cell {W : World} {a : Addr} {v : Value} (h : W.cell? a = some v) : a.block < W.heap.size := by
  by_cases hlt : a.block < W.heap.size
  · exact hlt
  · have : W.heap[a.block]? = none := by simp; omega
    simp [World.cell?, this] at h
end bytesin
end Go.Eng
end
section
namespace Go.Eng
section
open Go.ChangeShapes Go.WideShapes Go.ChangeAt Go.RowKit Go.Deep
variable {H : Type} {enc : TypeId × Value → H} {P : Program}
theorem open_sliceE {α : Type} [Inhabited α] (K : α → List Value) {sz : Nat} (hK : ∀ a, (K a).length = sz) (hs0 : 0 < sz) {r : Reach} {b0 : Nat} {W : World} {base : Nat} {sp : Nat → Bool} {held : Bool} {t e : TypeId} {v : Value} {d : DataW H} {ps : List MemPlace} (ht : P.underlying t = some (.slice e))
    (hc : P.cellsOf e = sz) (hel : ∀ n cs x, cs.length = sz → DataW.trod enc P W base sp held n e cs = some x → ∃ a, cs = K a) (hval : Value.okWide P W r b0 t v) (hd : DataW.Trod enc P W base sp held t v d ps) :
    (∃ ao c, v = .slice ao 0 c) ∨ ∃ (b o n c : Nat) (f : Nat → α), v = .slice (some ⟨b, o, none⟩) n c ∧ 0 < n ∧ n ≤ 9223372036854775807 ∧ Holds ⟨b, false, o, .tab n sz fun k => K (f k)⟩ W := by
  obtain ⟨a1, len, cap, rfl⟩ := okWide_slice ht hval
  obtain ⟨fuel, hf⟩ := hd
  by_cases h0 : len = 0
  · subst h0; exact .inl ⟨_, _, rfl⟩
  rcases open_slice ht hf with ⟨hcs, _⟩ | ⟨a, len', cap', m, n, D, Pl, hcs, _, hl, hm, hmm, _, hx⟩
  · simp [Value.cells] at hcs
    exact absurd hcs.2.1 h0
  · simp [Value.cells] at hcs
    obtain ⟨rfl, rfl, rfl⟩ := hcs
    rw [hc] at hx
    have hlm : len ≤ m := by rw [hmm]; split <;> omega
    have hV : ∀ i, i < len → ∃ x : α, ∀ j, j < sz → W.cell? ((a.add (i * sz)).add j) = (K x)[j]? := fun i hi => by
      obtain ⟨cs', h1, h2⟩ := hx i (by omega)
      obtain ⟨_, hlen, hcell⟩ := World.cells?_some h1
      obtain ⟨x, hx⟩ := hel _ _ _ hlen h2
      subst hx
      exact ⟨x, hcell⟩
    obtain ⟨f, hfV⟩ := choose_lt (α := α) (p := fun i x => ∀ j, j < sz → W.cell? ((a.add (i * sz)).add j) = (K x)[j]?) hV
    have hfirst : ∃ u, W.cell? a = some u := by
      have := hfV 0 (by omega) 0 hs0
      rw [show (a.add (0 * sz)).add 0 = a from by cases a; simp [Addr.add]] at this
      rw [this, List.getElem?_eq_getElem (by rw [hK]; exact hs0)]
      exact ⟨_, rfl⟩
    obtain ⟨u0, hu0⟩ := hfirst
    have hspot : a.spot = none := World.cell?_spot hu0
    obtain ⟨ab, ao, spot⟩ := a
    simp only at hspot
    subst hspot
    refine .inr ⟨ab, ao, len, cap, f, rfl, by omega, by unfold maxLen at hm; omega, ⟨lt_of_cell hu0, fun o v ho => ?_, (fun h => by cases h), obj_not rfl⟩⟩
    by_cases hol : o < len * sz
    · simp only [Cont.get, if_pos hol] at ho
      have := hfV (o / sz) (div_lt_row hol) (o % sz) (Nat.mod_lt _ hs0)
      rw [add_none, add_none, Nat.add_assoc, show o / sz * sz + o % sz = o by rw [Nat.mul_comm]; exact Nat.div_add_mod o sz] at this
      rw [this]; exact ho
    · rw [tabE_out hol] at ho; cases ho
instance : Inhabited N4 := ⟨⟨0, 0, 0, 0⟩⟩
end
end Go.Eng
end
section
namespace Go.Eng
theorem Runs.retell {P : Program} {f : FuncId} {args : List Value} {bs bs' : List Blk} {k : Nat} {v : List Nat → Value} {out : List Nat → List (Option Blk)} (h : Runs P f args bs k v out)
    (hb : ∀ w : World, (∀ b ∈ bs', Holds b w) → ∀ b ∈ bs, Holds b w) (hn : bs.map (fun b => (b.name, b.own)) = bs'.map fun b => (b.name, b.own)) (hro : ∀ ns p b, listMem (out ns) p = some b → b.own = true) :
    Runs P f args bs' k v out := fun w hw ha => by
  have hlk : ∀ p b, listMem (bs.map some) p = some b → ∃ b', listMem (bs'.map some) p = some b' ∧ b'.name = b.name ∧ b'.own = b.own := fun p b hp => by
    have h1 := listMem_some.1 hp
    have h2 : (bs.map fun b => (b.name, b.own))[p]? = some (b.name, b.own) := by rw [List.getElem?_map, h1]; rfl
    rw [hn, List.getElem?_map] at h2
    cases h3 : bs'[p]? with
    | none => rw [h3] at h2; cases h2
    | some b' =>
      rw [h3] at h2
      simp at h2
      exact ⟨b', listMem_some.2 h3, h2.1, h2.2⟩
  have hlk' : ∀ p b, listMem (bs'.map some) p = some b → ∃ b', listMem (bs.map some) p = some b' ∧ b'.name = b.name ∧ b'.own = b.own := fun p b hp => by
    have h1 := listMem_some.1 hp
    have h2 : (bs'.map fun b => (b.name, b.own))[p]? = some (b.name, b.own) := by rw [List.getElem?_map, h1]; rfl
    rw [← hn, List.getElem?_map] at h2
    cases h3 : bs[p]? with
    | none => rw [h3] at h2; cases h2
    | some b' =>
      rw [h3] at h2
      simp at h2
      exact ⟨b', listMem_some.2 h3, h2.1, h2.2⟩
  refine Calls.mono (h w (hb w hw) fun p q b c hpq hp hq ho => ?_) fun e w' ⟨ns, h1, h2, h3⟩ => ⟨ns, h1, h2, h3.holds, h3.apart, ⟨h3.adv.os, h3.adv.output, h3.adv.tape, h3.adv.size, fun j hj hno => h3.adv.heap j hj fun ⟨p, b, hp, ho, he⟩ => ?_, fun j hj => ?_, fun p b hp ho => ?_⟩⟩
  · obtain ⟨b', hb1, hb2, hb3⟩ := hlk p b hp
    obtain ⟨c', hc1, hc2, hc3⟩ := hlk q c hq
    rw [← hb2, ← hc2]
    exact ha p q b' c' hpq hb1 hc1 (hb3.trans ho)
  · obtain ⟨b', hb1, hb2, hb3⟩ := hlk p b hp
    exact hno ⟨p, b', hb1, hb3.trans ho, hb2.trans he⟩
  · rcases h3.adv.names j hj with ⟨p, b, hp, ho, he⟩ | h4
    · obtain ⟨b', hb1, hb2, hb3⟩ := hlk p b hp
      exact .inl ⟨p, b', hb1, hb3.trans ho, hb2.trans he⟩
    · exact .inr h4
  · rw [hro ns p b hp] at ho; cases ho
end Go.Eng
end
section
namespace Go.Eng
open Go.RowKit
end Go.Eng
end
section
namespace Go.Eng
section
variable {P : Program} {t e : TypeId} {x y : Operand}
end
end Go.Eng
end
section
namespace Go.Proofs.YtllalpcjfnmibaaDoor
open Go Go.Eng
set_option linter.unusedVariables false
set_option linter.unusedSimpArgs false
set_option maxRecDepth 100000
theorem one5 : OneC Tryd.prog 5 (u8 0) 1 := oneC_of (by kernel_rfl) rfl
def bytes_runs_S1 (a : N4) (n1 : Nat) (n2 : Nat) (x1 : Nat × (Nat → UInt8)) : St := ⟨[(1, .v (ptr n1 0)), (3, .v (Value.slice (some ⟨n2, 0, none⟩) 32 32)), (6, .v (nat x1.1))], [(0, some ⟨n1, true, 0, (tab4 a)⟩), (1, some ⟨n2, true, 0, (tabF 32 (fun k => u8 (x1.2 k)))⟩)], 2⟩
def bytes_runs_R1 (a : N4) (n1 : Nat) (n2 : Nat) (x1 : Nat × (Nat → UInt8)) : Prop := (x1.1 ≤ 32) ∧ (∀ k, x1.2 k = if k < 32 ∧ 32 ≤ k + x1.1 then UInt8.ofNat (dig a.val (31 - k)) else 0)
def bytes_runs_mu1 (a : N4) (n1 : Nat) (n2 : Nat) (x1 : Nat × (Nat → UInt8)) : Nat := 32 - x1.1
theorem bytes_runs (a : N4) : Runs Tryd.prog 51 [(nat4 a)] [] 1 (fun (ns : List Nat) => (Value.slice (some ⟨(ns.getD 0 0), 0, none⟩) 32 32)) (fun (ns : List Nat) => [some ⟨(ns.getD 0 0), true, 0, (tabF 32 (fun k => u8 (bytesF a k)))⟩]) :=
  runs_of_ev mix Tryd.func51 rfl rfl 400 (.regn [(0, .new), (1, .g)] (more (fun n1 => fun _ => (.regn [(0, (.oth [] 1 1 (fun ns => Value.slice (some ⟨ns.getD 0 0, 0, none⟩) 32 32) (fun ns => [some ⟨ns.getD 0 0, true, 0, (tabF 32 (fun k => u8 ((fun _ => 0) k)))⟩]))), (1, .g)] (more (fun n2 => fun _ => (.reg [(0, .g)] (.cast 0 (tab4 a) (.inv [1, 3, 6] [0, 1] 2 (bytes_runs_R1 a n1 n2) (bytes_runs_S1 a n1 n2) (bytes_runs_mu1 a n1 n2) ((0, (fun _ => 0)) : Nat × (Nat → UInt8)) (fun (x1 : Nat × (Nat → UInt8)) => (.reg [(0, (.as (Value.bool (decide (x1.1 < 32)))))] (.br (.reg [(0, .g), (1, .g)] (.reg [(0, .g), (1, .g), (2, (.as (nat (31 - x1.1)))), (3, .g), (4, (.as (nat (x1.1 / 8)))), (5, (.as (ptr n1 (0 + (x1.1 / 8) * 1)))), (6, (.ld 0 (.tab (x1.1 / 8) 0))), (7, .g), (8, (.as (nat (x1.1 % 8)))), (9, (.as (nat ((x1.1 % 8) * 8)))), (10, (.as (u64 (shr64 (a.get (x1.1 / 8)) ((x1.1 % 8) * 8))))), (11, (.as (u8 ((shr64 (a.get (x1.1 / 8)) ((x1.1 % 8) * 8)).toUInt8)))), (12, (.as (ptr n2 (0 + (31 - x1.1) * 1)))), (13, (.stc 1 (.tab (31 - x1.1) 0) (tabF 32 (fun k => u8 (upd x1.2 (31 - x1.1) ((shr64 (a.get (x1.1 / 8)) ((x1.1 % 8) * 8)).toUInt8) k)))))] (.reg [(0, (.as (nat (x1.1 + 1)))), (1, .g)] .done))) (.reg [(0, .g), (1, .g)] .done))))))))))))) [] [1] rfl
    (Eq.mp (by kernel_rfl) (fun (n1 : Nat) => And.intro (sk (sk trivial)) (fun (n2 : Nat) => And.intro (And.intro (And.intro trivial (mk_make (P := Tryd.prog) (t := 22) (e := 5) (by kernel_rfl) one5 32 (show (1 : Int) * ((32 : Nat) : Int) ≤ 281474976710656 ∧ 32 ≤ 9223372036854775807 from by omega))) (sk trivial)) (And.intro (sk trivial) (And.intro (to_tab4 a) (And.intro (show (bytes_runs_R1 a n1 n2) ((0, (fun _ => 0)) : Nat × (Nat → UInt8)) from (show (0 ≤ 32) ∧ (∀ k, (fun _ => 0) k = if k < 32 ∧ 32 ≤ k + 0 then UInt8.ofNat (dig a.val (31 - k)) else 0) from by exact ⟨by omega, fun k => by rw [if_neg (by omega)]⟩)) (And.intro (@rfl St ((bytes_runs_S1 a n1 n2) ((0, (fun _ => 0)) : Nat × (Nat → UInt8)))) (fun (x1 : Nat × (Nat → UInt8)) (hx1 : (bytes_runs_R1 a n1 n2) x1) => And.intro (And.intro (And.intro trivial (@is_lssn Tryd.prog 3 3 (.tmp 6) (.const (.int .i64 32))  x1.1 32)) trivial) (And.intro trivial (And.intro (fun (h1 : (decide (x1.1 < 32)) = true) => And.intro (sk (sk trivial)) (And.intro (sk (sk (And.intro (And.intro trivial (@is_subn Tryd.prog 3 3 (.const (.int .i64 31)) (.tmp 10)  31 x1.1 (show x1.1 ≤ 31 ∧ 31 - x1.1 ≤ 9223372036854775807 from by have B0 : x1.1 ≤ 32 := hx1.1; have B1 : ∀ k, x1.2 k = if k < 32 ∧ 32 ≤ k + x1.1 then UInt8.ofNat (dig a.val (31 - k)) else 0 := hx1.2; have f2 : (x1.1 < 32) := (of_decide_eq_true h1); omega))) (sk (And.intro (And.intro trivial (@is_quon Tryd.prog 3 3 (.tmp 12) (.const (.int .i64 8))  x1.1 8 (show 0 < 8 ∧ x1.1 ≤ 9223372036854775807 from by have B0 : x1.1 ≤ 32 := hx1.1; have B1 : ∀ k, x1.2 k = if k < 32 ∧ 32 ≤ k + x1.1 then UInt8.ofNat (dig a.val (31 - k)) else 0 := hx1.2; have f2 : (x1.1 < 32) := (of_decide_eq_true h1); omega))) (And.intro (And.intro trivial (@is_ixArr Tryd.prog 38 34 (.tmp 1) (.tmp 13) 1 4 (by kernel_rfl) (by kernel_rfl) n1 0 (x1.1 / 8) (show x1.1 / 8 < 4 from by have B0 : x1.1 ≤ 32 := hx1.1; have B1 : ∀ k, x1.2 k = if k < 32 ∧ 32 ≤ k + x1.1 then UInt8.ofNat (dig a.val (31 - k)) else 0 := hx1.2; have f2 : (x1.1 < 32) := (of_decide_eq_true h1); omega))) (And.intro (And.intro trivial (And.intro (show x1.1 / 8 < 4 from by have B0 : x1.1 ≤ 32 := hx1.1; have B1 : ∀ k, x1.2 k = if k < 32 ∧ 32 ≤ k + x1.1 then UInt8.ofNat (dig a.val (31 - k)) else 0 := hx1.2; have f2 : (x1.1 < 32) := (of_decide_eq_true h1); omega) (@rfl Value (ptr n1 (0 + (x1.1 / 8) * 1))))) (sk (And.intro (And.intro trivial (@is_remn Tryd.prog 3 3 (.tmp 16) (.const (.int .i64 8))  x1.1 8 (show 0 < 8 from by have B0 : x1.1 ≤ 32 := hx1.1; have B1 : ∀ k, x1.2 k = if k < 32 ∧ 32 ≤ k + x1.1 then UInt8.ofNat (dig a.val (31 - k)) else 0 := hx1.2; have f2 : (x1.1 < 32) := (of_decide_eq_true h1); omega))) (And.intro (And.intro trivial (@is_muln Tryd.prog 3 3 (.tmp 17) (.const (.int .i64 8))  (x1.1 % 8) 8 (show (x1.1 % 8) * 8 ≤ 9223372036854775807 from by have B0 : x1.1 ≤ 32 := hx1.1; have B1 : ∀ k, x1.2 k = if k < 32 ∧ 32 ≤ k + x1.1 then UInt8.ofNat (dig a.val (31 - k)) else 0 := hx1.2; have f2 : (x1.1 < 32) := (of_decide_eq_true h1); omega))) (And.intro (And.intro trivial (@is_shr64 Tryd.prog 34 3 (.tmp 15) (.tmp 18) (a.get (x1.1 / 8)) .i64 ((x1.1 % 8) * 8))) (And.intro (And.intro trivial (@conv_u64_u8 Tryd.prog 34 5 (.tmp 19) (by kernel_rfl) (by kernel_rfl) (shr64 (a.get (x1.1 / 8)) ((x1.1 % 8) * 8)))) (And.intro (And.intro trivial (@is_ixSl Tryd.prog 22 5 (.tmp 9) (.tmp 11) 1 (by kernel_rfl) (by kernel_rfl) n2 0 32 32 (31 - x1.1) (show 31 - x1.1 < 32 from by have B0 : x1.1 ≤ 32 := hx1.1; have B1 : ∀ k, x1.2 k = if k < 32 ∧ 32 ≤ k + x1.1 then UInt8.ofNat (dig a.val (31 - k)) else 0 := hx1.2; have f2 : (x1.1 < 32) := (of_decide_eq_true h1); omega))) (And.intro (And.intro trivial (And.intro (show 31 - x1.1 < 32 from by have B0 : x1.1 ≤ 32 := hx1.1; have B1 : ∀ k, x1.2 k = if k < 32 ∧ 32 ≤ k + x1.1 then UInt8.ofNat (dig a.val (31 - k)) else 0 := hx1.2; have f2 : (x1.1 < 32) := (of_decide_eq_true h1); omega) (And.intro (@rfl Value (ptr n2 (0 + (31 - x1.1) * 1))) (store_tabF 32 u8 x1.2 (31 - x1.1) ((shr64 (a.get (x1.1 / 8)) ((x1.1 % 8) * 8)).toUInt8))))) trivial)))))))))))))) (And.intro (And.intro (And.intro trivial (@is_addn Tryd.prog 3 3 (.tmp 6) (.const (.int .i64 1))  x1.1 1 (show x1.1 + 1 ≤ 9223372036854775807 from by have B0 : x1.1 ≤ 32 := hx1.1; have B1 : ∀ k, x1.2 k = if k < 32 ∧ 32 ≤ k + x1.1 then UInt8.ofNat (dig a.val (31 - k)) else 0 := hx1.2; have f2 : (x1.1 < 32) := (of_decide_eq_true h1); omega))) (sk trivial)) ((rnd (bytes_runs_R1 a n1 n2) (bytes_runs_S1 a n1 n2) (bytes_runs_mu1 a n1 n2) x1 ((x1.1 + 1, upd x1.2 (31 - x1.1) ((shr64 (a.get (x1.1 / 8)) ((x1.1 % 8) * 8)).toUInt8)) : Nat × (Nat → UInt8)) (show (bytes_runs_R1 a n1 n2) ((x1.1 + 1, upd x1.2 (31 - x1.1) ((shr64 (a.get (x1.1 / 8)) ((x1.1 % 8) * 8)).toUInt8)) : Nat × (Nat → UInt8)) ∧ (bytes_runs_mu1 a n1 n2) ((x1.1 + 1, upd x1.2 (31 - x1.1) ((shr64 (a.get (x1.1 / 8)) ((x1.1 % 8) * 8)).toUInt8)) : Nat × (Nat → UInt8)) < (bytes_runs_mu1 a n1 n2) x1 from (show (((x1.1 + 1) ≤ 32) ∧ (∀ k, (upd x1.2 (31 - x1.1) ((shr64 (a.get (x1.1 / 8)) ((x1.1 % 8) * 8)).toUInt8)) k = if k < 32 ∧ 32 ≤ k + (x1.1 + 1) then UInt8.ofNat (dig a.val (31 - k)) else 0)) ∧ (32 - (x1.1 + 1)) < (32 - x1.1) from by have B0 : x1.1 ≤ 32 := hx1.1; have B1 : ∀ k, x1.2 k = if k < 32 ∧ 32 ≤ k + x1.1 then UInt8.ofNat (dig a.val (31 - k)) else 0 := hx1.2; have f2 : (x1.1 < 32) := (of_decide_eq_true h1); exact ⟨⟨by omega, bytes_step (by omega) B1⟩, by omega⟩))))))) (fun (h1 : (decide (x1.1 < 32)) = false) => And.intro (sk (sk trivial)) (And.intro trivial (@Exists.intro (List Nat) (fun (ns : List Nat) => ns.length = 1 ∧ ((Value.slice (some ⟨n2, 0, none⟩) 32 32) : Value) = (fun (ns : List Nat) => (Value.slice (some ⟨(ns.getD 0 0), 0, none⟩) 32 32)) ns ∧ ([some ⟨n2, true, 0, (tabF 32 (fun k => u8 (x1.2 k)))⟩] : List (Option Blk)) = (fun (ns : List Nat) => [some ⟨(ns.getD 0 0), true, 0, (tabF 32 (fun k => u8 (bytesF a k)))⟩]) ns) [n2] (And.intro (@rfl Nat 1) (And.intro (@rfl Value (Value.slice (some ⟨n2, 0, none⟩) 32 32)) ((show ([some ⟨n2, true, 0, (tabF 32 (fun k => u8 (x1.2 k)))⟩] : List (Option Blk)) = [some ⟨n2, true, 0, (tabF 32 (fun k => u8 (bytesF a k)))⟩] from by have B0 : x1.1 ≤ 32 := hx1.1; have B1 : ∀ k, x1.2 k = if k < 32 ∧ 32 ≤ k + x1.1 then UInt8.ofNat (dig a.val (31 - k)) else 0 := hx1.2; have f2 : ¬ (x1.1 < 32) := (of_decide_eq_false h1); have e : x1.2 = bytesF a := bytes_end (by omega) B1; rw [e] <;> rfl)))))))))))))))))
def of_runs_S1 (b : Nat) (o : Nat) (n : Nat) (c : Nat) (f : Nat → UInt8) (n1 : Nat) (n2 : Nat) (x1 : Nat × N4) : St := ⟨[(0, .v (Value.slice (some ⟨b, o, none⟩) n c)), (2, .v (ptr n1 0)), (4, .v (ptr n2 0)), (11, .v (nat n)), (12, .v (nat x1.1))], [(0, some ⟨b, false, o, (tabF n (fun k => u8 (f k)))⟩), (1, some ⟨n1, true, 0, (.lit [(u64 0), (u64 0), (u64 0), (u64 0)])⟩), (2, some ⟨n2, true, 0, (tab4 x1.2)⟩)], 3⟩
def of_runs_R1 (b : Nat) (o : Nat) (n : Nat) (c : Nat) (f : Nat → UInt8) (n1 : Nat) (n2 : Nat) (x1 : Nat × N4) : Prop := (x1.1 ≤ n) ∧ ((x1.2).val = beN f n x1.1)
def of_runs_mu1 (b : Nat) (o : Nat) (n : Nat) (c : Nat) (f : Nat → UInt8) (n1 : Nat) (n2 : Nat) (x1 : Nat × N4) : Nat := n - x1.1
theorem of_runs (b o n c : Nat) (f : Nat → UInt8) (hn : n ≤ 9223372036854775807) : Runs Tryd.prog 57 [(Value.slice (some ⟨b, o, none⟩) n c)] [⟨b, false, o, (tabF n (fun k => u8 (f k)))⟩] 0 (fun (_ : List Nat) => Value.tuple #[nat4 (ofN f n), int (ofE n)]) (fun (_ : List Nat) => [some ⟨b, false, o, (tabF n (fun k => u8 (f k)))⟩]) :=
  runs_of_ev mix Tryd.func57 rfl rfl 400 (.regn [(0, .new), (1, .g)] (more (fun n1 => fun _ => (.reg [(0, .g), (1, (.as (nat n))), (2, (.as (Value.bool (decide (32 < n)))))] (.br (.reg [(0, .g), (1, (.st 1 (.lit 0))), (2, .g)] .done) (.regn [(0, .new)] (more (fun n2 => fun _ => (.reg [(0, .g), (1, (.as (nat n))), (2, .g)] (.cast 2 (tab4 (N4.mk 0 0 0 0)) (.inv [0, 2, 4, 11, 12] [0, 1, 2] 3 (of_runs_R1 b o n c f n1 n2) (of_runs_S1 b o n c f n1 n2) (of_runs_mu1 b o n c f n1 n2) ((0, (N4.mk 0 0 0 0)) : Nat × N4) (fun (x1 : Nat × N4) => (.reg [(0, (.as (Value.bool (decide (x1.1 < n)))))] (.br (.reg [(0, .g), (1, .g)] (.reg [(0, .g), (1, (.as (nat (x1.1 / 8)))), (2, (.as (ptr n2 (0 + (x1.1 / 8) * 1)))), (3, (.ld 2 (.tab (x1.1 / 8) 0))), (4, .g), (5, .g), (6, (.as (nat n))), (7, (.as (nat (n - 1)))), (8, .g), (9, (.as (nat ((n - 1) - x1.1)))), (10, (.as (ptr b (o + ((n - 1) - x1.1) * 1)))), (11, (.ld 0 (.tab ((n - 1) - x1.1) 0))), (12, (.as (u64 ((f ((n - 1) - x1.1)).toUInt64)))), (13, .g), (14, (.as (nat (x1.1 % 8)))), (15, (.as (nat ((x1.1 % 8) * 8)))), (16, (.as (u64 (shl64 ((f ((n - 1) - x1.1)).toUInt64) ((x1.1 % 8) * 8))))), (17, (.as (u64 ((x1.2.get (x1.1 / 8)) ||| (shl64 ((f ((n - 1) - x1.1)).toUInt64) ((x1.1 % 8) * 8)))))), (18, (.as (ptr n2 (0 + (x1.1 / 8) * 1)))), (19, (.stc 2 (.tab (x1.1 / 8) 0) (tab4 (x1.2.set (x1.1 / 8) ((x1.2.get (x1.1 / 8)) ||| (shl64 ((f ((n - 1) - x1.1)).toUInt64) ((x1.1 % 8) * 8)))))))] (.reg [(0, (.as (nat (x1.1 + 1)))), (1, .g)] .done))) (.cast 2 (lit4 x1.2) (.reg [(0, (.ld 2 (.lit 0))), (1, (.st 1 (.lit 0))), (2, .g)] .done)))))))))))))))) [(1, 0)] [] rfl
    (Eq.mp (by kernel_rfl) (fun (n1 : Nat) => And.intro (sk (sk trivial)) (And.intro (sk (And.intro (And.intro trivial (@is_len Tryd.prog 22 5 (.tmp 6) (by kernel_rfl) (some ⟨b, o, none⟩) n c)) (And.intro (And.intro trivial (@is_gtrn Tryd.prog 3 3 (.tmp 7) (.const (.int .i64 32))  n 32)) trivial))) (And.intro trivial (And.intro (fun (h1 : (decide (32 < n)) = true) => And.intro (sk (And.intro (And.intro trivial (ad n1 0)) (sk trivial))) (And.intro (And.intro (@rfl Value (ptr n1 0)) trivial) (@Exists.intro (List Nat) (fun (ns : List Nat) => ns.length = 0 ∧ ((Value.tuple #[(Value.agg #[(u64 0), (u64 0), (u64 0), (u64 0)]), (int 2)]) : Value) = (fun (_ : List Nat) => Value.tuple #[nat4 (ofN f n), int (ofE n)]) ns ∧ ([some ⟨b, false, o, (tabF n (fun k => u8 (f k)))⟩] : List (Option Blk)) = (fun (_ : List Nat) => [some ⟨b, false, o, (tabF n (fun k => u8 (f k)))⟩]) ns) [] (And.intro (@rfl Nat 0) (And.intro ((show (Value.tuple #[(Value.agg #[(u64 0), (u64 0), (u64 0), (u64 0)]), (int 2)]) = Value.tuple #[nat4 (ofN f n), int (ofE n)] from by rw [ofN, ofE, h1] <;> rfl)) (@rfl (List (Option Blk)) [some ⟨b, false, o, (tabF n (fun k => u8 (f k)))⟩])))))) (fun (h1 : (decide (32 < n)) = false) => fun (n2 : Nat) => And.intro (sk trivial) (And.intro (sk (And.intro (And.intro trivial (@is_len Tryd.prog 22 5 (.tmp 10) (by kernel_rfl) (some ⟨b, o, none⟩) n c)) (sk trivial))) (And.intro (to_tab4 (N4.mk 0 0 0 0)) (And.intro (show (of_runs_R1 b o n c f n1 n2) ((0, (N4.mk 0 0 0 0)) : Nat × N4) from (show (0 ≤ n) ∧ (((N4.mk 0 0 0 0)).val = beN f n 0) from by have f0 : n ≤ 9223372036854775807 := hn; have f1 : ¬ (32 < n) := (of_decide_eq_false h1); exact ⟨by omega, rfl⟩)) (And.intro (@rfl St ((of_runs_S1 b o n c f n1 n2) ((0, (N4.mk 0 0 0 0)) : Nat × N4))) (fun (x1 : Nat × N4) (hx1 : (of_runs_R1 b o n c f n1 n2) x1) => And.intro (And.intro (And.intro trivial (@is_lssn Tryd.prog 3 3 (.tmp 12) (.tmp 11)  x1.1 n)) trivial) (And.intro trivial (And.intro (fun (h2 : (decide (x1.1 < n)) = true) => And.intro (sk (sk trivial)) (And.intro (sk (And.intro (And.intro trivial (@is_quon Tryd.prog 3 3 (.tmp 15) (.const (.int .i64 8))  x1.1 8 (show 0 < 8 ∧ x1.1 ≤ 9223372036854775807 from by have f0 : n ≤ 9223372036854775807 := hn; have f1 : ¬ (32 < n) := (of_decide_eq_false h1); have B0 : x1.1 ≤ n := hx1.1; have B1 : (x1.2).val = beN f n x1.1 := hx1.2; have f4 : (x1.1 < n) := (of_decide_eq_true h2); omega))) (And.intro (And.intro trivial (@is_ixArr Tryd.prog 38 34 (.tmp 4) (.tmp 16) 1 4 (by kernel_rfl) (by kernel_rfl) n2 0 (x1.1 / 8) (show x1.1 / 8 < 4 from by have f0 : n ≤ 9223372036854775807 := hn; have f1 : ¬ (32 < n) := (of_decide_eq_false h1); have B0 : x1.1 ≤ n := hx1.1; have B1 : (x1.2).val = beN f n x1.1 := hx1.2; have f4 : (x1.1 < n) := (of_decide_eq_true h2); omega))) (And.intro (And.intro trivial (And.intro (show x1.1 / 8 < 4 from by have f0 : n ≤ 9223372036854775807 := hn; have f1 : ¬ (32 < n) := (of_decide_eq_false h1); have B0 : x1.1 ≤ n := hx1.1; have B1 : (x1.2).val = beN f n x1.1 := hx1.2; have f4 : (x1.1 < n) := (of_decide_eq_true h2); omega) (@rfl Value (ptr n2 (0 + (x1.1 / 8) * 1))))) (sk (sk (And.intro (And.intro trivial (@is_len Tryd.prog 22 5 (.tmp 20) (by kernel_rfl) (some ⟨b, o, none⟩) n c)) (And.intro (And.intro trivial (@is_subn Tryd.prog 3 3 (.tmp 21) (.const (.int .i64 1))  n 1 (show 1 ≤ n ∧ n - 1 ≤ 9223372036854775807 from by have f0 : n ≤ 9223372036854775807 := hn; have f1 : ¬ (32 < n) := (of_decide_eq_false h1); have B0 : x1.1 ≤ n := hx1.1; have B1 : (x1.2).val = beN f n x1.1 := hx1.2; have f4 : (x1.1 < n) := (of_decide_eq_true h2); omega))) (sk (And.intro (And.intro trivial (@is_subn Tryd.prog 3 3 (.tmp 22) (.tmp 23)  (n - 1) x1.1 (show x1.1 ≤ (n - 1) ∧ (n - 1) - x1.1 ≤ 9223372036854775807 from by have f0 : n ≤ 9223372036854775807 := hn; have f1 : ¬ (32 < n) := (of_decide_eq_false h1); have B0 : x1.1 ≤ n := hx1.1; have B1 : (x1.2).val = beN f n x1.1 := hx1.2; have f4 : (x1.1 < n) := (of_decide_eq_true h2); omega))) (And.intro (And.intro trivial (@is_ixSl Tryd.prog 22 5 (.tmp 19) (.tmp 24) 1 (by kernel_rfl) (by kernel_rfl) b o n c ((n - 1) - x1.1) (show (n - 1) - x1.1 < n from by have f0 : n ≤ 9223372036854775807 := hn; have f1 : ¬ (32 < n) := (of_decide_eq_false h1); have B0 : x1.1 ≤ n := hx1.1; have B1 : (x1.2).val = beN f n x1.1 := hx1.2; have f4 : (x1.1 < n) := (of_decide_eq_true h2); omega))) (And.intro (And.intro trivial (And.intro (show (n - 1) - x1.1 < n from by have f0 : n ≤ 9223372036854775807 := hn; have f1 : ¬ (32 < n) := (of_decide_eq_false h1); have B0 : x1.1 ≤ n := hx1.1; have B1 : (x1.2).val = beN f n x1.1 := hx1.2; have f4 : (x1.1 < n) := (of_decide_eq_true h2); omega) (@rfl Value (ptr b (o + ((n - 1) - x1.1) * 1))))) (And.intro (And.intro trivial (@conv_u8_u64 Tryd.prog 5 34 (.tmp 26) (by kernel_rfl) (by kernel_rfl) (f ((n - 1) - x1.1)))) (sk (And.intro (And.intro trivial (@is_remn Tryd.prog 3 3 (.tmp 28) (.const (.int .i64 8))  x1.1 8 (show 0 < 8 from by have f0 : n ≤ 9223372036854775807 := hn; have f1 : ¬ (32 < n) := (of_decide_eq_false h1); have B0 : x1.1 ≤ n := hx1.1; have B1 : (x1.2).val = beN f n x1.1 := hx1.2; have f4 : (x1.1 < n) := (of_decide_eq_true h2); omega))) (And.intro (And.intro trivial (@is_muln Tryd.prog 3 3 (.tmp 29) (.const (.int .i64 8))  (x1.1 % 8) 8 (show (x1.1 % 8) * 8 ≤ 9223372036854775807 from by have f0 : n ≤ 9223372036854775807 := hn; have f1 : ¬ (32 < n) := (of_decide_eq_false h1); have B0 : x1.1 ≤ n := hx1.1; have B1 : (x1.2).val = beN f n x1.1 := hx1.2; have f4 : (x1.1 < n) := (of_decide_eq_true h2); omega))) (And.intro (And.intro trivial (@is_shl64 Tryd.prog 34 3 (.tmp 27) (.tmp 30) ((f ((n - 1) - x1.1)).toUInt64) .i64 ((x1.1 % 8) * 8))) (And.intro (And.intro trivial (@is_or64 Tryd.prog 34 34 (.tmp 18) (.tmp 31) (x1.2.get (x1.1 / 8)) (shl64 ((f ((n - 1) - x1.1)).toUInt64) ((x1.1 % 8) * 8)))) (And.intro (And.intro trivial (@is_ixArr Tryd.prog 38 34 (.tmp 4) (.tmp 16) 1 4 (by kernel_rfl) (by kernel_rfl) n2 0 (x1.1 / 8) (show x1.1 / 8 < 4 from by have f0 : n ≤ 9223372036854775807 := hn; have f1 : ¬ (32 < n) := (of_decide_eq_false h1); have B0 : x1.1 ≤ n := hx1.1; have B1 : (x1.2).val = beN f n x1.1 := hx1.2; have f4 : (x1.1 < n) := (of_decide_eq_true h2); omega))) (And.intro (And.intro trivial (And.intro (show x1.1 / 8 < 4 from by have f0 : n ≤ 9223372036854775807 := hn; have f1 : ¬ (32 < n) := (of_decide_eq_false h1); have B0 : x1.1 ≤ n := hx1.1; have B1 : (x1.2).val = beN f n x1.1 := hx1.2; have f4 : (x1.1 < n) := (of_decide_eq_true h2); omega) (And.intro (@rfl Value (ptr n2 (0 + (x1.1 / 8) * 1))) (store_tab4 x1.2 (x1.1 / 8) ((x1.2.get (x1.1 / 8)) ||| (shl64 ((f ((n - 1) - x1.1)).toUInt64) ((x1.1 % 8) * 8))) (show x1.1 / 8 < 4 from by have f0 : n ≤ 9223372036854775807 := hn; have f1 : ¬ (32 < n) := (of_decide_eq_false h1); have B0 : x1.1 ≤ n := hx1.1; have B1 : (x1.2).val = beN f n x1.1 := hx1.2; have f4 : (x1.1 < n) := (of_decide_eq_true h2); omega))))) trivial)))))))))))))))))))) (And.intro (And.intro (And.intro trivial (@is_addn Tryd.prog 3 3 (.tmp 12) (.const (.int .i64 1))  x1.1 1 (show x1.1 + 1 ≤ 9223372036854775807 from by have f0 : n ≤ 9223372036854775807 := hn; have f1 : ¬ (32 < n) := (of_decide_eq_false h1); have B0 : x1.1 ≤ n := hx1.1; have B1 : (x1.2).val = beN f n x1.1 := hx1.2; have f4 : (x1.1 < n) := (of_decide_eq_true h2); omega))) (sk trivial)) ((rnd (of_runs_R1 b o n c f n1 n2) (of_runs_S1 b o n c f n1 n2) (of_runs_mu1 b o n c f n1 n2) x1 ((x1.1 + 1, x1.2.set (x1.1 / 8) ((x1.2.get (x1.1 / 8)) ||| (shl64 ((f ((n - 1) - x1.1)).toUInt64) ((x1.1 % 8) * 8)))) : Nat × N4) (show (of_runs_R1 b o n c f n1 n2) ((x1.1 + 1, x1.2.set (x1.1 / 8) ((x1.2.get (x1.1 / 8)) ||| (shl64 ((f ((n - 1) - x1.1)).toUInt64) ((x1.1 % 8) * 8)))) : Nat × N4) ∧ (of_runs_mu1 b o n c f n1 n2) ((x1.1 + 1, x1.2.set (x1.1 / 8) ((x1.2.get (x1.1 / 8)) ||| (shl64 ((f ((n - 1) - x1.1)).toUInt64) ((x1.1 % 8) * 8)))) : Nat × N4) < (of_runs_mu1 b o n c f n1 n2) x1 from (show (((x1.1 + 1) ≤ n) ∧ (((x1.2.set (x1.1 / 8) ((x1.2.get (x1.1 / 8)) ||| (shl64 ((f ((n - 1) - x1.1)).toUInt64) ((x1.1 % 8) * 8))))).val = beN f n (x1.1 + 1))) ∧ (n - (x1.1 + 1)) < (n - x1.1) from by have f0 : n ≤ 9223372036854775807 := hn; have f1 : ¬ (32 < n) := (of_decide_eq_false h1); have B0 : x1.1 ≤ n := hx1.1; have B1 : (x1.2).val = beN f n x1.1 := hx1.2; have f4 : (x1.1 < n) := (of_decide_eq_true h2); exact ⟨⟨by omega, of_step x1.2 f n x1.1 (by omega) B1⟩, by omega⟩))))))) (fun (h2 : (decide (x1.1 < n)) = false) => And.intro (to_lit4 x1.2) (And.intro (And.intro (And.intro trivial (ad n2 0)) (And.intro (And.intro trivial (ad n1 0)) (sk trivial))) (And.intro (And.intro (@rfl Value (ptr n1 0)) trivial) (@Exists.intro (List Nat) (fun (ns : List Nat) => ns.length = 0 ∧ ((Value.tuple #[(nat4 x1.2), (int 0)]) : Value) = (fun (_ : List Nat) => Value.tuple #[nat4 (ofN f n), int (ofE n)]) ns ∧ ([some ⟨b, false, o, (tabF n (fun k => u8 (f k)))⟩] : List (Option Blk)) = (fun (_ : List Nat) => [some ⟨b, false, o, (tabF n (fun k => u8 (f k)))⟩]) ns) [] (And.intro (@rfl Nat 0) (And.intro ((show (Value.tuple #[(nat4 x1.2), (int 0)]) = Value.tuple #[nat4 (ofN f n), int (ofE n)] from by have f0 : n ≤ 9223372036854775807 := hn; have f1 : ¬ (32 < n) := (of_decide_eq_false h1); have B0 : x1.1 ≤ n := hx1.1; have B1 : (x1.2).val = beN f n x1.1 := hx1.2; have f4 : ¬ (x1.1 < n) := (of_decide_eq_false h2); have e : x1.1 = n := (by omega); rw [e] at B1; rw [ofN, ofE, h1]; simp only []; rw [← ofN_end B1] <;> rfl)) (@rfl (List (Option Blk)) [some ⟨b, false, o, (tabF n (fun k => u8 (f k)))⟩]))))))))))))))))))))
def same_runs_S1 (b : Nat) (o : Nat) (n : Nat) (c : Nat) (p : Nat) (q : Nat) (m : Nat) (e : Nat) (f : Nat → UInt8) (g : Nat → UInt8) (x1 : Nat) : St := ⟨[(0, .v (Value.slice (some ⟨b, o, none⟩) n c)), (1, .v (Value.slice (some ⟨p, q, none⟩) m e)), (5, .v (nat x1))], [(0, some ⟨b, false, o, (tabF n (fun k => u8 (f k)))⟩), (1, some ⟨p, false, q, (tabF m (fun k => u8 (g k)))⟩)], 2⟩
def same_runs_R1 (b : Nat) (o : Nat) (n : Nat) (c : Nat) (p : Nat) (q : Nat) (m : Nat) (e : Nat) (f : Nat → UInt8) (g : Nat → UInt8) (x1 : Nat) : Prop := (x1 ≤ n) ∧ (∀ k, k < x1 → f k = g k)
def same_runs_mu1 (b : Nat) (o : Nat) (n : Nat) (c : Nat) (p : Nat) (q : Nat) (m : Nat) (e : Nat) (f : Nat → UInt8) (g : Nat → UInt8) (x1 : Nat) : Nat := n - x1
theorem same_runs (b o n c p q m e : Nat) (f g : Nat → UInt8) (hn : n ≤ 9223372036854775807 ∧ m ≤ 9223372036854775807) : Runs Tryd.prog 17 [(Value.slice (some ⟨b, o, none⟩) n c), (Value.slice (some ⟨p, q, none⟩) m e)] [⟨b, false, o, (tabF n (fun k => u8 (f k)))⟩, ⟨p, false, q, (tabF m (fun k => u8 (g k)))⟩] 0 (fun (_ : List Nat) => Value.bool (sameS f n g m)) (fun (_ : List Nat) => [some ⟨b, false, o, (tabF n (fun k => u8 (f k)))⟩, some ⟨p, false, q, (tabF m (fun k => u8 (g k)))⟩]) :=
  runs_of_ev mix Tryd.func17 rfl rfl 400 (.reg [(0, .g)] (.reg [(0, .g), (1, (.as (nat n))), (2, .g), (3, (.as (nat m))), (4, (.as (Value.bool (!(decide (n = m))))))] (.br (.reg [(0, .g)] .done) (.reg [(0, .g)] (.inv [0, 1, 5] [0, 1] 2 (same_runs_R1 b o n c p q m e f g) (same_runs_S1 b o n c p q m e f g) (same_runs_mu1 b o n c p q m e f g) (0 : Nat) (fun (x1 : Nat) => (.reg [(0, .g), (1, .g), (2, (.as (nat n))), (3, (.as (Value.bool (decide (x1 < n)))))] (.br (.reg [(0, .g), (1, .g), (2, (.as (ptr b (o + x1 * 1)))), (3, (.ld 0 (.tab x1 0))), (4, .g), (5, .g), (6, (.as (ptr p (q + x1 * 1)))), (7, (.ld 1 (.tab x1 0))), (8, (.as (Value.bool (!((f x1) == (g x1))))))] (.br (.reg [(0, .g)] .done) (.reg [(0, .g), (1, (.as (nat (x1 + 1)))), (2, .g)] .done))) (.reg [(0, .g)] .done))))))))) [] [] rfl
    (Eq.mp (by kernel_rfl) (And.intro (sk trivial) (And.intro (sk (And.intro (And.intro trivial (@is_len Tryd.prog 22 5 (.tmp 6) (by kernel_rfl) (some ⟨b, o, none⟩) n c)) (sk (And.intro (And.intro trivial (@is_len Tryd.prog 22 5 (.tmp 8) (by kernel_rfl) (some ⟨p, q, none⟩) m e)) (And.intro (And.intro trivial (@is_neqn Tryd.prog 3 3 (.tmp 7) (.tmp 9)  n m)) trivial))))) (And.intro trivial (And.intro (fun (h1 : (!(decide (n = m))) = true) => And.intro (sk trivial) (And.intro trivial (@Exists.intro (List Nat) (fun (ns : List Nat) => ns.length = 0 ∧ ((Value.bool false) : Value) = (fun (_ : List Nat) => Value.bool (sameS f n g m)) ns ∧ ([some ⟨b, false, o, (tabF n (fun k => u8 (f k)))⟩, some ⟨p, false, q, (tabF m (fun k => u8 (g k)))⟩] : List (Option Blk)) = (fun (_ : List Nat) => [some ⟨b, false, o, (tabF n (fun k => u8 (f k)))⟩, some ⟨p, false, q, (tabF m (fun k => u8 (g k)))⟩]) ns) [] (And.intro (@rfl Nat 0) (And.intro ((show (Value.bool false) = Value.bool (sameS f n g m) from congrArg Value.bool (by have f0 : n ≤ 9223372036854775807 ∧ m ≤ 9223372036854775807 := hn; have f1 : ¬ (n = m) := (of_decide_eq_false (bnot_t h1)); first | exact same_len (by omega) | exact same_not (by omega) (same_ne (by assumption))))) (@rfl (List (Option Blk)) [some ⟨b, false, o, (tabF n (fun k => u8 (f k)))⟩, some ⟨p, false, q, (tabF m (fun k => u8 (g k)))⟩])))))) (fun (h1 : (!(decide (n = m))) = false) => And.intro (sk trivial) (And.intro (show (same_runs_R1 b o n c p q m e f g) (0 : Nat) from (show (0 ≤ n) ∧ (∀ k, k < 0 → f k = g k) from by have f0 : n ≤ 9223372036854775807 ∧ m ≤ 9223372036854775807 := hn; have f1 : (n = m) := (of_decide_eq_true (bnot_f h1)); exact ⟨by omega, fun k hk => absurd hk (by omega)⟩)) (And.intro (@rfl St ((same_runs_S1 b o n c p q m e f g) (0 : Nat))) (fun (x1 : Nat) (hx1 : (same_runs_R1 b o n c p q m e f g) x1) => And.intro (sk (sk (And.intro (And.intro trivial (@is_len Tryd.prog 22 5 (.tmp 12) (by kernel_rfl) (some ⟨b, o, none⟩) n c)) (And.intro (And.intro trivial (@is_lssn Tryd.prog 3 3 (.tmp 11) (.tmp 13)  x1 n)) trivial)))) (And.intro trivial (And.intro (fun (h2 : (decide (x1 < n)) = true) => And.intro (sk (sk (And.intro (And.intro trivial (@is_ixSl Tryd.prog 22 5 (.tmp 17) (.tmp 18) 1 (by kernel_rfl) (by kernel_rfl) b o n c x1 (show x1 < n from by have f0 : n ≤ 9223372036854775807 ∧ m ≤ 9223372036854775807 := hn; have f1 : (n = m) := (of_decide_eq_true (bnot_f h1)); have B0 : x1 ≤ n := hx1.1; have B1 : ∀ k, k < x1 → f k = g k := hx1.2; have f4 : (x1 < n) := (of_decide_eq_true h2); omega))) (And.intro (And.intro trivial (And.intro (show x1 < n from by have f0 : n ≤ 9223372036854775807 ∧ m ≤ 9223372036854775807 := hn; have f1 : (n = m) := (of_decide_eq_true (bnot_f h1)); have B0 : x1 ≤ n := hx1.1; have B1 : ∀ k, k < x1 → f k = g k := hx1.2; have f4 : (x1 < n) := (of_decide_eq_true h2); omega) (@rfl Value (ptr b (o + x1 * 1))))) (sk (sk (And.intro (And.intro trivial (@is_ixSl Tryd.prog 22 5 (.tmp 21) (.tmp 22) 1 (by kernel_rfl) (by kernel_rfl) p q m e x1 (show x1 < m from by have f0 : n ≤ 9223372036854775807 ∧ m ≤ 9223372036854775807 := hn; have f1 : (n = m) := (of_decide_eq_true (bnot_f h1)); have B0 : x1 ≤ n := hx1.1; have B1 : ∀ k, k < x1 → f k = g k := hx1.2; have f4 : (x1 < n) := (of_decide_eq_true h2); omega))) (And.intro (And.intro trivial (And.intro (show x1 < m from by have f0 : n ≤ 9223372036854775807 ∧ m ≤ 9223372036854775807 := hn; have f1 : (n = m) := (of_decide_eq_true (bnot_f h1)); have B0 : x1 ≤ n := hx1.1; have B1 : ∀ k, k < x1 → f k = g k := hx1.2; have f4 : (x1 < n) := (of_decide_eq_true h2); omega) (@rfl Value (ptr p (q + x1 * 1))))) (And.intro (And.intro trivial (@is_neq8 Tryd.prog 5 5 (.tmp 20) (.tmp 24) (f x1) (g x1))) trivial))))))))) (And.intro trivial (And.intro (fun (h3 : (!((f x1) == (g x1))) = true) => And.intro (sk trivial) (And.intro trivial (@Exists.intro (List Nat) (fun (ns : List Nat) => ns.length = 0 ∧ ((Value.bool false) : Value) = (fun (_ : List Nat) => Value.bool (sameS f n g m)) ns ∧ ([some ⟨b, false, o, (tabF n (fun k => u8 (f k)))⟩, some ⟨p, false, q, (tabF m (fun k => u8 (g k)))⟩] : List (Option Blk)) = (fun (_ : List Nat) => [some ⟨b, false, o, (tabF n (fun k => u8 (f k)))⟩, some ⟨p, false, q, (tabF m (fun k => u8 (g k)))⟩]) ns) [] (And.intro (@rfl Nat 0) (And.intro ((show (Value.bool false) = Value.bool (sameS f n g m) from congrArg Value.bool (by have f0 : n ≤ 9223372036854775807 ∧ m ≤ 9223372036854775807 := hn; have f1 : (n = m) := (of_decide_eq_true (bnot_f h1)); have B0 : x1 ≤ n := hx1.1; have B1 : ∀ k, k < x1 → f k = g k := hx1.2; have f4 : (x1 < n) := (of_decide_eq_true h2); have f5 : ((f x1) == (g x1)) = false := (bnot_t h3); first | exact same_len (by omega) | exact same_not (by omega) (same_ne (by assumption))))) (@rfl (List (Option Blk)) [some ⟨b, false, o, (tabF n (fun k => u8 (f k)))⟩, some ⟨p, false, q, (tabF m (fun k => u8 (g k)))⟩])))))) (fun (h3 : (!((f x1) == (g x1))) = false) => And.intro (sk (And.intro (And.intro trivial (@is_addn Tryd.prog 3 3 (.tmp 15) (.const (.int .i64 1))  x1 1 (show x1 + 1 ≤ 9223372036854775807 from by have f0 : n ≤ 9223372036854775807 ∧ m ≤ 9223372036854775807 := hn; have f1 : (n = m) := (of_decide_eq_true (bnot_f h1)); have B0 : x1 ≤ n := hx1.1; have B1 : ∀ k, k < x1 → f k = g k := hx1.2; have f4 : (x1 < n) := (of_decide_eq_true h2); have f5 : ((f x1) == (g x1)) = true := (bnot_f h3); omega))) (sk trivial))) ((rnd (same_runs_R1 b o n c p q m e f g) (same_runs_S1 b o n c p q m e f g) (same_runs_mu1 b o n c p q m e f g) x1 (x1 + 1 : Nat) (show (same_runs_R1 b o n c p q m e f g) (x1 + 1 : Nat) ∧ (same_runs_mu1 b o n c p q m e f g) (x1 + 1 : Nat) < (same_runs_mu1 b o n c p q m e f g) x1 from (show (((x1 + 1) ≤ n) ∧ (∀ k, k < (x1 + 1) → f k = g k)) ∧ (n - (x1 + 1)) < (n - x1) from by have f0 : n ≤ 9223372036854775807 ∧ m ≤ 9223372036854775807 := hn; have f1 : (n = m) := (of_decide_eq_true (bnot_f h1)); have B0 : x1 ≤ n := hx1.1; have B1 : ∀ k, k < x1 → f k = g k := hx1.2; have f4 : (x1 < n) := (of_decide_eq_true h2); have f5 : ((f x1) == (g x1)) = true := (bnot_f h3); exact ⟨⟨by omega, same_next B1 (by assumption)⟩, by omega⟩)))))))) (fun (h2 : (decide (x1 < n)) = false) => And.intro (sk trivial) (And.intro trivial (@Exists.intro (List Nat) (fun (ns : List Nat) => ns.length = 0 ∧ ((Value.bool true) : Value) = (fun (_ : List Nat) => Value.bool (sameS f n g m)) ns ∧ ([some ⟨b, false, o, (tabF n (fun k => u8 (f k)))⟩, some ⟨p, false, q, (tabF m (fun k => u8 (g k)))⟩] : List (Option Blk)) = (fun (_ : List Nat) => [some ⟨b, false, o, (tabF n (fun k => u8 (f k)))⟩, some ⟨p, false, q, (tabF m (fun k => u8 (g k)))⟩]) ns) [] (And.intro (@rfl Nat 0) (And.intro ((show (Value.bool true) = Value.bool (sameS f n g m) from congrArg Value.bool (by have f0 : n ≤ 9223372036854775807 ∧ m ≤ 9223372036854775807 := hn; have f1 : (n = m) := (of_decide_eq_true (bnot_f h1)); have B0 : x1 ≤ n := hx1.1; have B1 : ∀ k, k < x1 → f k = g k := hx1.2; have f4 : ¬ (x1 < n) := (of_decide_eq_false h2); exact same_yes (by omega) (by omega) B1))) (@rfl (List (Option Blk)) [some ⟨b, false, o, (tabF n (fun k => u8 (f k)))⟩, some ⟨p, false, q, (tabF m (fun k => u8 (g k)))⟩])))))))))))))))))
end Go.Proofs.YtllalpcjfnmibaaDoor
end
