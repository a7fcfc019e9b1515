/-
  Many in one: LimbByt, EngZ, EngT, EngU, EngV, LimbBytFns, Purse.
-/
import Derived.Test.YtnijgepnoijkbaaDoorZDrawBegins6
import Derived.Deep.Slices
section
namespace Go.Eng
theorem or_low_byte {g : UInt64} {b : UInt8} {s : Nat} (hs : s ≤ 56) (hg : g.toNat < 2 ^ s) : (g ||| shl64 b.toUInt64 s).toNat = g.toNat + b.toNat * 2 ^ s := by
  have hb := b.toNat_lt
  have hp : 2 ^ s ≤ 2 ^ 56 := Nat.pow_le_pow_right (by omega) hs
  have h1 : b.toNat * 2 ^ s ≤ 255 * 2 ^ s := Nat.mul_le_mul_right _ (by omega)
  rw [UInt64.toNat_or, shl64_toNat, UInt8.toNat_toUInt64, Nat.mod_eq_of_lt (show b.toNat * 2 ^ s < 18446744073709551616 by omega), Nat.mul_comm, or_parts hg]
def beN (f : Nat → UInt8) (n i : Nat) : Nat := numOf (fun j => (f (n - 1 - j)).toNat) i
theorem beN_lt (f : Nat → UInt8) (n i : Nat) : beN f n i < 256 ^ i := numOf_lt fun _ _ => (f _).toNat_lt
theorem of_step (a : N4) (f : Nat → UInt8) (n i : Nat) (hi : i < 32) (ha : a.val = beN f n i) :
    (a.set (i / 8) (a.get (i / 8) ||| shl64 (f (n - 1 - i)).toUInt64 (i % 8 * 8))).val = beN f n (i + 1) := by
  have hj : i / 8 < 4 := by omega
  obtain ⟨q, hq⟩ := word_of a (i / 8) hj
  have ei : 8 * i = 64 * (i / 8) + i % 8 * 8 := by omega
  have hlt : a.val < 2 ^ (64 * (i / 8)) * 2 ^ (i % 8 * 8) := by
    rw [ha, ← Nat.pow_add, ← ei, ← pow256]; exact beN_lt f n i
  have hdiv : a.val / 2 ^ (64 * (i / 8)) < 2 ^ (i % 8 * 8) := Nat.div_lt_of_lt_mul hlt
  have hg : (a.get (i / 8)).toNat < 2 ^ (i % 8 * 8) := by omega
  have hs := a.set_val (i / 8) (a.get (i / 8) ||| shl64 (f (n - 1 - i)).toUInt64 (i % 8 * 8)) hj
  rw [or_low_byte (by omega) hg, Nat.mul_add] at hs
  have e : 2 ^ (64 * (i / 8)) * ((f (n - 1 - i)).toNat * 2 ^ (i % 8 * 8)) = (f (n - 1 - i)).toNat * 256 ^ i := by
    rw [pow256, ei, Nat.pow_add, Nat.mul_left_comm]
  rw [e] at hs
  show _ = numOf _ (i + 1)
  simp only [numOf]
  unfold beN at ha
  omega
def ofN (f : Nat → UInt8) (n : Nat) : N4 := match decide (32 < n) with
  | true => ⟨0, 0, 0, 0⟩
  | false => N4.ofNat (beN f n n)
def ofE (n : Nat) : Int := match decide (32 < n) with
  | true => 2
  | false => 0
theorem ofN_end {a : N4} {f : Nat → UInt8} {n : Nat} (ha : a.val = beN f n n) : a = N4.ofNat (beN f n n) := N4.eq_ofNat ha
def bytesF (a : N4) : Nat → UInt8 := fun k => if k < 32 then UInt8.ofNat (dig a.val (31 - k)) else 0
theorem byte_out (a : N4) (i : Nat) (hi : i < 32) : (shr64 (a.get (i / 8)) (i % 8 * 8)).toUInt8 = UInt8.ofNat (dig a.val i) := by
  apply UInt8.toNat_inj.1
  have h := byte_val a i hi
  rw [and255, Nat.mul_comm] at h
  rw [UInt64.toNat_toUInt8, h, UInt8.toNat_ofNat', Nat.mod_eq_of_lt (dig_lt _ _)]
theorem bytes_step {f : Nat → UInt8} {a : N4} {i : Nat} (hi : i < 32) (h : ∀ k, f k = if k < 32 ∧ 32 ≤ k + i then UInt8.ofNat (dig a.val (31 - k)) else 0) :
    ∀ k, upd f (31 - i) (shr64 (a.get (i / 8)) (i % 8 * 8)).toUInt8 k = if k < 32 ∧ 32 ≤ k + (i + 1) then UInt8.ofNat (dig a.val (31 - k)) else 0 := fun k => by
  unfold upd
  by_cases hk : k = 31 - i
  · subst hk
    rw [if_pos rfl, if_pos (show 31 - i < 32 ∧ 32 ≤ 31 - i + (i + 1) by omega), byte_out a i hi, show 31 - (31 - i) = i by omega]
  · rw [if_neg hk, h k]
    by_cases h1 : k < 32 ∧ 32 ≤ k + i
    · rw [if_pos h1, if_pos (show k < 32 ∧ 32 ≤ k + (i + 1) by omega)]
    · rw [if_neg h1, if_neg (show ¬ (k < 32 ∧ 32 ≤ k + (i + 1)) by omega)]
theorem bytes_end {f : Nat → UInt8} {a : N4} {i : Nat} (hi : i = 32) (h : ∀ k, f k = if k < 32 ∧ 32 ≤ k + i then UInt8.ofNat (dig a.val (31 - k)) else 0) : f = bytesF a := by
  funext k
  rw [h k, bytesF]
  by_cases hk : k < 32
  · rw [if_pos hk, if_pos (show k < 32 ∧ 32 ≤ k + i by omega)]
  · rw [if_neg hk, if_neg (show ¬ (k < 32 ∧ 32 ≤ k + i) by omega)]
section
variable {P : Program} {t t' : TypeId} {x y : Operand} (a b : UInt8)
end
end Go.Eng
namespace Go.Eng
section bytesin
open Go.ChangeShapes Go.WideShapes Go.ChangeAt Go.RowKit Go.Deep
variable {H : Type} {enc : TypeId × Value → H} {P : Program}
theorem u8_of {n : Int} (h : (Lit.int .u8 n).wf = true) : ∃ x : UInt8, Value.int .u8 n = u8 x := by
  have hx : 0 ≤ n ∧ n ≤ 255 := by simpa [Lit.wf, IntKind.min, IntKind.max, IntKind.signed, IntKind.bits] using h
  refine ⟨.ofNat n.toNat, ?_⟩
  unfold u8
  rw [UInt8.toNat_ofNat', Nat.mod_eq_of_lt (by omega)]
  congr 1
  omega
theorem lt_of_cell {W : World} {a : Addr} {v : Value} (h : W.cell? a = some v) : a.block < W.heap.size := by
  by_cases hlt : a.block < W.heap.size
  · exact hlt
  · have : W.heap[a.block]? = none := by simp; omega
    simp [World.cell?, this] at h
end bytesin
end Go.Eng
end
section
namespace Go.Eng
open Go.RowKit
theorem sband_nt {a : Bool} (h : selB a true false = false) : a = false := match a, h with
  | false, _ => rfl
end Go.Eng
end
section
namespace Go.Eng
section
open Go.ChangeShapes Go.WideShapes Go.ChangeAt Go.RowKit Go.Deep
variable {H : Type} {enc : TypeId × Value → H} {P : Program}
instance : Inhabited N4 := ⟨⟨0, 0, 0, 0⟩⟩
end
end Go.Eng
end
section
namespace Go.Eng
theorem Runs.retell {P : Program} {f : FuncId} {args : List Value} {bs bs' : List Blk} {k : Nat} {v : List Nat → Value} {out : List Nat → List (Option Blk)} (h : Runs P f args bs k v out)
    (hb : ∀ w : World, (∀ b ∈ bs', Holds b w) → ∀ b ∈ bs, Holds b w) (hn : bs.map (fun b => (b.name, b.own)) = bs'.map fun b => (b.name, b.own)) (hro : ∀ ns p b, listMem (out ns) p = some b → b.own = true) :
    Runs P f args bs' k v out := fun w hw ha => by
  have hlk : ∀ p b, listMem (bs.map some) p = some b → ∃ b', listMem (bs'.map some) p = some b' ∧ b'.name = b.name ∧ b'.own = b.own := fun p b hp => by
    have h1 := listMem_some.1 hp
    have h2 : (bs.map fun b => (b.name, b.own))[p]? = some (b.name, b.own) := by rw [List.getElem?_map, h1]; rfl
    rw [hn, List.getElem?_map] at h2
    cases h3 : bs'[p]? with
    | none => rw [h3] at h2; cases h2
    | some b' =>
      rw [h3] at h2
      simp at h2
      exact ⟨b', listMem_some.2 h3, h2.1, h2.2⟩
  have hlk' : ∀ p b, listMem (bs'.map some) p = some b → ∃ b', listMem (bs.map some) p = some b' ∧ b'.name = b.name ∧ b'.own = b.own := fun p b hp => by
    have h1 := listMem_some.1 hp
    have h2 : (bs'.map fun b => (b.name, b.own))[p]? = some (b.name, b.own) := by rw [List.getElem?_map, h1]; rfl
    rw [← hn, List.getElem?_map] at h2
    cases h3 : bs[p]? with
    | none => rw [h3] at h2; cases h2
    | some b' =>
      rw [h3] at h2
      simp at h2
      exact ⟨b', listMem_some.2 h3, h2.1, h2.2⟩
  refine Calls.mono (h w (hb w hw) fun p q b c hpq hp hq ho => ?_) fun e w' ⟨ns, h1, h2, h3⟩ => ⟨ns, h1, h2, h3.holds, h3.apart, ⟨h3.adv.os, h3.adv.output, h3.adv.tape, h3.adv.size, fun j hj hno => h3.adv.heap j hj fun ⟨p, b, hp, ho, he⟩ => ?_, fun j hj => ?_, fun p b hp ho => ?_⟩⟩
  · obtain ⟨b', hb1, hb2, hb3⟩ := hlk p b hp
    obtain ⟨c', hc1, hc2, hc3⟩ := hlk q c hq
    rw [← hb2, ← hc2]
    exact ha p q b' c' hpq hb1 hc1 (hb3.trans ho)
  · obtain ⟨b', hb1, hb2, hb3⟩ := hlk p b hp
    exact hno ⟨p, b', hb1, hb3.trans ho, hb2.trans he⟩
  · rcases h3.adv.names j hj with ⟨p, b, hp, ho, he⟩ | h4
    · obtain ⟨b', hb1, hb2, hb3⟩ := hlk p b hp
      exact .inl ⟨p, b', hb1, hb3.trans ho, hb2.trans he⟩
    · exact .inr h4
  · rw [hro ns p b hp] at ho; cases ho
end Go.Eng
end
section
namespace Go.Eng
section
variable {P : Program} {t e : TypeId} {x y : Operand}
theorem is_slTo {sz : Nat} (ht : P.underlying t = some (.slice e)) (hs : sizeB P e = some sz) (n o len cap i : Nat) (hi : i ≤ cap) : IsOp P (.slice t x none (some y) none) [.slice (some ⟨n, o, none⟩) len cap, nat i] (.slice (some ⟨n, o, none⟩) i cap) := by
  intro ρ o' ho hv
  rw [ho] at hv
  have hv' : [ρ x, ρ y] = [Value.slice (some ⟨n, o, none⟩) len cap, nat i] := hv
  injection hv' with h1 hv'
  injection hv' with h2 _
  unfold execOp
  rw [ho]
  simp only [Option.map]
  show pureRun P (Sem.bind (Instr.sliceAt t (ρ x) none (some (ρ y)) none) fun v => Sem.pure (Next.value v)) = _
  rw [pureRun_bind, h1, h2]
  have hi' : 0 ≤ (i : Int) ∧ (i : Int) ≤ (cap : Int) := by omega
  have e : pureRun P (Instr.sliceAt t (.slice (some ⟨n, o, none⟩) len cap) none (some (nat i)) none) = some (.slice (some ⟨n, o, none⟩) i cap) := by
    simp only [Instr.sliceAt, Instr.slice, Instr.sliceBounds, Instr.sliceBound, nat, pureRun_bind', asIntOf, pureRun, pure, pureRun_underlying ht, hi', and_self, if_true, pureRun_sizeOf hs, Int.toNat_natCast]
    simp [add_none]
  rw [e]
  rfl
end
end Go.Eng
end
section
namespace Go.Proofs.YtnijgepnoijkbaaDoor
open Go Go.Eng
set_option linter.unusedVariables false
set_option linter.unusedSimpArgs false
set_option maxRecDepth 100000
theorem one5 : OneC Tryd.prog 5 (u8 0) 1 := oneC_of (by kernel_rfl) rfl
def bytes_runs_S1 (a : N4) (n1 : Nat) (n2 : Nat) (x1 : Nat × (Nat → UInt8)) : St := ⟨[(1, .v (ptr n1 0)), (3, .v (Value.slice (some ⟨n2, 0, none⟩) 32 32)), (6, .v (nat x1.1))], [(0, some ⟨n1, true, 0, (tab4 a)⟩), (1, some ⟨n2, true, 0, (tabF 32 (fun k => u8 (x1.2 k)))⟩)], 2⟩
def bytes_runs_R1 (a : N4) (n1 : Nat) (n2 : Nat) (x1 : Nat × (Nat → UInt8)) : Prop := (x1.1 ≤ 32) ∧ (∀ k, x1.2 k = if k < 32 ∧ 32 ≤ k + x1.1 then UInt8.ofNat (dig a.val (31 - k)) else 0)
def bytes_runs_mu1 (a : N4) (n1 : Nat) (n2 : Nat) (x1 : Nat × (Nat → UInt8)) : Nat := 32 - x1.1
theorem bytes_runs (a : N4) : Runs Tryd.prog 69 [(nat4 a)] [] 1 (fun (ns : List Nat) => (Value.slice (some ⟨(ns.getD 0 0), 0, none⟩) 32 32)) (fun (ns : List Nat) => [some ⟨(ns.getD 0 0), true, 0, (tabF 32 (fun k => u8 (bytesF a k)))⟩]) :=
  runs_of_ev mix Tryd.func69 rfl rfl 400 (.regn [(0, .new), (1, .g)] (more (fun n1 => fun _ => (.regn [(0, (.oth [] 1 1 (fun ns => Value.slice (some ⟨ns.getD 0 0, 0, none⟩) 32 32) (fun ns => [some ⟨ns.getD 0 0, true, 0, (tabF 32 (fun k => u8 ((fun _ => 0) k)))⟩]))), (1, .g)] (more (fun n2 => fun _ => (.reg [(0, .g)] (.cast 0 (tab4 a) (.inv [1, 3, 6] [0, 1] 2 (bytes_runs_R1 a n1 n2) (bytes_runs_S1 a n1 n2) (bytes_runs_mu1 a n1 n2) ((0, (fun _ => 0)) : Nat × (Nat → UInt8)) (fun (x1 : Nat × (Nat → UInt8)) => (.reg [(0, (.as (Value.bool (decide (x1.1 < 32)))))] (.br (.reg [(0, .g), (1, .g)] (.reg [(0, .g), (1, .g), (2, (.as (nat (31 - x1.1)))), (3, .g), (4, (.as (nat (x1.1 / 8)))), (5, (.as (ptr n1 (0 + (x1.1 / 8) * 1)))), (6, (.ld 0 (.tab (x1.1 / 8) 0))), (7, .g), (8, (.as (nat (x1.1 % 8)))), (9, (.as (nat ((x1.1 % 8) * 8)))), (10, (.as (u64 (shr64 (a.get (x1.1 / 8)) ((x1.1 % 8) * 8))))), (11, (.as (u8 ((shr64 (a.get (x1.1 / 8)) ((x1.1 % 8) * 8)).toUInt8)))), (12, (.as (ptr n2 (0 + (31 - x1.1) * 1)))), (13, (.stc 1 (.tab (31 - x1.1) 0) (tabF 32 (fun k => u8 (upd x1.2 (31 - x1.1) ((shr64 (a.get (x1.1 / 8)) ((x1.1 % 8) * 8)).toUInt8) k)))))] (.reg [(0, (.as (nat (x1.1 + 1)))), (1, .g)] .done))) (.reg [(0, .g), (1, .g)] .done))))))))))))) [] [1] rfl
    (Eq.mp (by kernel_rfl) (fun (n1 : Nat) => And.intro (sk (sk trivial)) (fun (n2 : Nat) => And.intro (And.intro (And.intro trivial (mk_make (P := Tryd.prog) (t := 69) (e := 5) (by kernel_rfl) one5 32 (show (1 : Int) * ((32 : Nat) : Int) ≤ 281474976710656 ∧ 32 ≤ 9223372036854775807 from by omega))) (sk trivial)) (And.intro (sk trivial) (And.intro (to_tab4 a) (And.intro (show (bytes_runs_R1 a n1 n2) ((0, (fun _ => 0)) : Nat × (Nat → UInt8)) from (show (0 ≤ 32) ∧ (∀ k, (fun _ => 0) k = if k < 32 ∧ 32 ≤ k + 0 then UInt8.ofNat (dig a.val (31 - k)) else 0) from by exact ⟨by omega, fun k => by rw [if_neg (by omega)]⟩)) (And.intro (@rfl St ((bytes_runs_S1 a n1 n2) ((0, (fun _ => 0)) : Nat × (Nat → UInt8)))) (fun (x1 : Nat × (Nat → UInt8)) (hx1 : (bytes_runs_R1 a n1 n2) x1) => And.intro (And.intro (And.intro trivial (@is_lssn Tryd.prog 3 3 (.tmp 6) (.const (.int .i64 32))  x1.1 32)) trivial) (And.intro trivial (And.intro (fun (h1 : (decide (x1.1 < 32)) = true) => And.intro (sk (sk trivial)) (And.intro (sk (sk (And.intro (And.intro trivial (@is_subn Tryd.prog 3 3 (.const (.int .i64 31)) (.tmp 10)  31 x1.1 (show x1.1 ≤ 31 ∧ 31 - x1.1 ≤ 9223372036854775807 from by have B0 : x1.1 ≤ 32 := hx1.1; have B1 : ∀ k, x1.2 k = if k < 32 ∧ 32 ≤ k + x1.1 then UInt8.ofNat (dig a.val (31 - k)) else 0 := hx1.2; have f2 : (x1.1 < 32) := (of_decide_eq_true h1); omega))) (sk (And.intro (And.intro trivial (@is_quon Tryd.prog 3 3 (.tmp 12) (.const (.int .i64 8))  x1.1 8 (show 0 < 8 ∧ x1.1 ≤ 9223372036854775807 from by have B0 : x1.1 ≤ 32 := hx1.1; have B1 : ∀ k, x1.2 k = if k < 32 ∧ 32 ≤ k + x1.1 then UInt8.ofNat (dig a.val (31 - k)) else 0 := hx1.2; have f2 : (x1.1 < 32) := (of_decide_eq_true h1); omega))) (And.intro (And.intro trivial (@is_ixArr Tryd.prog 58 44 (.tmp 1) (.tmp 13) 1 4 (by kernel_rfl) (by kernel_rfl) n1 0 (x1.1 / 8) (show x1.1 / 8 < 4 from by have B0 : x1.1 ≤ 32 := hx1.1; have B1 : ∀ k, x1.2 k = if k < 32 ∧ 32 ≤ k + x1.1 then UInt8.ofNat (dig a.val (31 - k)) else 0 := hx1.2; have f2 : (x1.1 < 32) := (of_decide_eq_true h1); omega))) (And.intro (And.intro trivial (And.intro (show x1.1 / 8 < 4 from by have B0 : x1.1 ≤ 32 := hx1.1; have B1 : ∀ k, x1.2 k = if k < 32 ∧ 32 ≤ k + x1.1 then UInt8.ofNat (dig a.val (31 - k)) else 0 := hx1.2; have f2 : (x1.1 < 32) := (of_decide_eq_true h1); omega) (@rfl Value (ptr n1 (0 + (x1.1 / 8) * 1))))) (sk (And.intro (And.intro trivial (@is_remn Tryd.prog 3 3 (.tmp 16) (.const (.int .i64 8))  x1.1 8 (show 0 < 8 from by have B0 : x1.1 ≤ 32 := hx1.1; have B1 : ∀ k, x1.2 k = if k < 32 ∧ 32 ≤ k + x1.1 then UInt8.ofNat (dig a.val (31 - k)) else 0 := hx1.2; have f2 : (x1.1 < 32) := (of_decide_eq_true h1); omega))) (And.intro (And.intro trivial (@is_muln Tryd.prog 3 3 (.tmp 17) (.const (.int .i64 8))  (x1.1 % 8) 8 (show (x1.1 % 8) * 8 ≤ 9223372036854775807 from by have B0 : x1.1 ≤ 32 := hx1.1; have B1 : ∀ k, x1.2 k = if k < 32 ∧ 32 ≤ k + x1.1 then UInt8.ofNat (dig a.val (31 - k)) else 0 := hx1.2; have f2 : (x1.1 < 32) := (of_decide_eq_true h1); omega))) (And.intro (And.intro trivial (@is_shr64 Tryd.prog 44 3 (.tmp 15) (.tmp 18) (a.get (x1.1 / 8)) .i64 ((x1.1 % 8) * 8))) (And.intro (And.intro trivial (@conv_u64_u8 Tryd.prog 44 5 (.tmp 19) (by kernel_rfl) (by kernel_rfl) (shr64 (a.get (x1.1 / 8)) ((x1.1 % 8) * 8)))) (And.intro (And.intro trivial (@is_ixSl Tryd.prog 69 5 (.tmp 9) (.tmp 11) 1 (by kernel_rfl) (by kernel_rfl) n2 0 32 32 (31 - x1.1) (show 31 - x1.1 < 32 from by have B0 : x1.1 ≤ 32 := hx1.1; have B1 : ∀ k, x1.2 k = if k < 32 ∧ 32 ≤ k + x1.1 then UInt8.ofNat (dig a.val (31 - k)) else 0 := hx1.2; have f2 : (x1.1 < 32) := (of_decide_eq_true h1); omega))) (And.intro (And.intro trivial (And.intro (show 31 - x1.1 < 32 from by have B0 : x1.1 ≤ 32 := hx1.1; have B1 : ∀ k, x1.2 k = if k < 32 ∧ 32 ≤ k + x1.1 then UInt8.ofNat (dig a.val (31 - k)) else 0 := hx1.2; have f2 : (x1.1 < 32) := (of_decide_eq_true h1); omega) (And.intro (@rfl Value (ptr n2 (0 + (31 - x1.1) * 1))) (store_tabF 32 u8 x1.2 (31 - x1.1) ((shr64 (a.get (x1.1 / 8)) ((x1.1 % 8) * 8)).toUInt8))))) trivial)))))))))))))) (And.intro (And.intro (And.intro trivial (@is_addn Tryd.prog 3 3 (.tmp 6) (.const (.int .i64 1))  x1.1 1 (show x1.1 + 1 ≤ 9223372036854775807 from by have B0 : x1.1 ≤ 32 := hx1.1; have B1 : ∀ k, x1.2 k = if k < 32 ∧ 32 ≤ k + x1.1 then UInt8.ofNat (dig a.val (31 - k)) else 0 := hx1.2; have f2 : (x1.1 < 32) := (of_decide_eq_true h1); omega))) (sk trivial)) ((rnd (bytes_runs_R1 a n1 n2) (bytes_runs_S1 a n1 n2) (bytes_runs_mu1 a n1 n2) x1 ((x1.1 + 1, upd x1.2 (31 - x1.1) ((shr64 (a.get (x1.1 / 8)) ((x1.1 % 8) * 8)).toUInt8)) : Nat × (Nat → UInt8)) (show (bytes_runs_R1 a n1 n2) ((x1.1 + 1, upd x1.2 (31 - x1.1) ((shr64 (a.get (x1.1 / 8)) ((x1.1 % 8) * 8)).toUInt8)) : Nat × (Nat → UInt8)) ∧ (bytes_runs_mu1 a n1 n2) ((x1.1 + 1, upd x1.2 (31 - x1.1) ((shr64 (a.get (x1.1 / 8)) ((x1.1 % 8) * 8)).toUInt8)) : Nat × (Nat → UInt8)) < (bytes_runs_mu1 a n1 n2) x1 from (show (((x1.1 + 1) ≤ 32) ∧ (∀ k, (upd x1.2 (31 - x1.1) ((shr64 (a.get (x1.1 / 8)) ((x1.1 % 8) * 8)).toUInt8)) k = if k < 32 ∧ 32 ≤ k + (x1.1 + 1) then UInt8.ofNat (dig a.val (31 - k)) else 0)) ∧ (32 - (x1.1 + 1)) < (32 - x1.1) from by have B0 : x1.1 ≤ 32 := hx1.1; have B1 : ∀ k, x1.2 k = if k < 32 ∧ 32 ≤ k + x1.1 then UInt8.ofNat (dig a.val (31 - k)) else 0 := hx1.2; have f2 : (x1.1 < 32) := (of_decide_eq_true h1); exact ⟨⟨by omega, bytes_step (by omega) B1⟩, by omega⟩))))))) (fun (h1 : (decide (x1.1 < 32)) = false) => And.intro (sk (sk trivial)) (And.intro trivial (@Exists.intro (List Nat) (fun (ns : List Nat) => ns.length = 1 ∧ ((Value.slice (some ⟨n2, 0, none⟩) 32 32) : Value) = (fun (ns : List Nat) => (Value.slice (some ⟨(ns.getD 0 0), 0, none⟩) 32 32)) ns ∧ ([some ⟨n2, true, 0, (tabF 32 (fun k => u8 (x1.2 k)))⟩] : List (Option Blk)) = (fun (ns : List Nat) => [some ⟨(ns.getD 0 0), true, 0, (tabF 32 (fun k => u8 (bytesF a k)))⟩]) ns) [n2] (And.intro (@rfl Nat 1) (And.intro (@rfl Value (Value.slice (some ⟨n2, 0, none⟩) 32 32)) ((show ([some ⟨n2, true, 0, (tabF 32 (fun k => u8 (x1.2 k)))⟩] : List (Option Blk)) = [some ⟨n2, true, 0, (tabF 32 (fun k => u8 (bytesF a k)))⟩] from by have B0 : x1.1 ≤ 32 := hx1.1; have B1 : ∀ k, x1.2 k = if k < 32 ∧ 32 ≤ k + x1.1 then UInt8.ofNat (dig a.val (31 - k)) else 0 := hx1.2; have f2 : ¬ (x1.1 < 32) := (of_decide_eq_false h1); have e : x1.2 = bytesF a := bytes_end (by omega) B1; rw [e] <;> rfl)))))))))))))))))
def of_runs_S1 (b : Nat) (o : Nat) (n : Nat) (c : Nat) (f : Nat → UInt8) (n1 : Nat) (n2 : Nat) (x1 : Nat × N4) : St := ⟨[(0, .v (Value.slice (some ⟨b, o, none⟩) n c)), (2, .v (ptr n1 0)), (4, .v (ptr n2 0)), (11, .v (nat n)), (12, .v (nat x1.1))], [(0, some ⟨b, false, o, (tabF n (fun k => u8 (f k)))⟩), (1, some ⟨n1, true, 0, (.lit [(u64 0), (u64 0), (u64 0), (u64 0)])⟩), (2, some ⟨n2, true, 0, (tab4 x1.2)⟩)], 3⟩
def of_runs_R1 (b : Nat) (o : Nat) (n : Nat) (c : Nat) (f : Nat → UInt8) (n1 : Nat) (n2 : Nat) (x1 : Nat × N4) : Prop := (x1.1 ≤ n) ∧ ((x1.2).val = beN f n x1.1)
def of_runs_mu1 (b : Nat) (o : Nat) (n : Nat) (c : Nat) (f : Nat → UInt8) (n1 : Nat) (n2 : Nat) (x1 : Nat × N4) : Nat := n - x1.1
theorem of_runs (b o n c : Nat) (f : Nat → UInt8) (hn : n ≤ 9223372036854775807) : Runs Tryd.prog 40 [(Value.slice (some ⟨b, o, none⟩) n c)] [⟨b, false, o, (tabF n (fun k => u8 (f k)))⟩] 0 (fun (_ : List Nat) => Value.tuple #[nat4 (ofN f n), int (ofE n)]) (fun (_ : List Nat) => [some ⟨b, false, o, (tabF n (fun k => u8 (f k)))⟩]) :=
  runs_of_ev mix Tryd.func40 rfl rfl 400 (.regn [(0, .new), (1, .g)] (more (fun n1 => fun _ => (.reg [(0, .g), (1, (.as (nat n))), (2, (.as (Value.bool (decide (32 < n)))))] (.br (.reg [(0, .g), (1, (.st 1 (.lit 0))), (2, .g)] .done) (.regn [(0, .new)] (more (fun n2 => fun _ => (.reg [(0, .g), (1, (.as (nat n))), (2, .g)] (.cast 2 (tab4 (N4.mk 0 0 0 0)) (.inv [0, 2, 4, 11, 12] [0, 1, 2] 3 (of_runs_R1 b o n c f n1 n2) (of_runs_S1 b o n c f n1 n2) (of_runs_mu1 b o n c f n1 n2) ((0, (N4.mk 0 0 0 0)) : Nat × N4) (fun (x1 : Nat × N4) => (.reg [(0, (.as (Value.bool (decide (x1.1 < n)))))] (.br (.reg [(0, .g), (1, .g)] (.reg [(0, .g), (1, (.as (nat (x1.1 / 8)))), (2, (.as (ptr n2 (0 + (x1.1 / 8) * 1)))), (3, (.ld 2 (.tab (x1.1 / 8) 0))), (4, .g), (5, .g), (6, (.as (nat n))), (7, (.as (nat (n - 1)))), (8, .g), (9, (.as (nat ((n - 1) - x1.1)))), (10, (.as (ptr b (o + ((n - 1) - x1.1) * 1)))), (11, (.ld 0 (.tab ((n - 1) - x1.1) 0))), (12, (.as (u64 ((f ((n - 1) - x1.1)).toUInt64)))), (13, .g), (14, (.as (nat (x1.1 % 8)))), (15, (.as (nat ((x1.1 % 8) * 8)))), (16, (.as (u64 (shl64 ((f ((n - 1) - x1.1)).toUInt64) ((x1.1 % 8) * 8))))), (17, (.as (u64 ((x1.2.get (x1.1 / 8)) ||| (shl64 ((f ((n - 1) - x1.1)).toUInt64) ((x1.1 % 8) * 8)))))), (18, (.as (ptr n2 (0 + (x1.1 / 8) * 1)))), (19, (.stc 2 (.tab (x1.1 / 8) 0) (tab4 (x1.2.set (x1.1 / 8) ((x1.2.get (x1.1 / 8)) ||| (shl64 ((f ((n - 1) - x1.1)).toUInt64) ((x1.1 % 8) * 8)))))))] (.reg [(0, (.as (nat (x1.1 + 1)))), (1, .g)] .done))) (.cast 2 (lit4 x1.2) (.reg [(0, (.ld 2 (.lit 0))), (1, (.st 1 (.lit 0))), (2, .g)] .done)))))))))))))))) [(1, 0)] [] rfl
    (Eq.mp (by kernel_rfl) (fun (n1 : Nat) => And.intro (sk (sk trivial)) (And.intro (sk (And.intro (And.intro trivial (@is_len Tryd.prog 69 5 (.tmp 6) (by kernel_rfl) (some ⟨b, o, none⟩) n c)) (And.intro (And.intro trivial (@is_gtrn Tryd.prog 3 3 (.tmp 7) (.const (.int .i64 32))  n 32)) trivial))) (And.intro trivial (And.intro (fun (h1 : (decide (32 < n)) = true) => And.intro (sk (And.intro (And.intro trivial (ad n1 0)) (sk trivial))) (And.intro (And.intro (@rfl Value (ptr n1 0)) trivial) (@Exists.intro (List Nat) (fun (ns : List Nat) => ns.length = 0 ∧ ((Value.tuple #[(Value.agg #[(u64 0), (u64 0), (u64 0), (u64 0)]), (int 2)]) : Value) = (fun (_ : List Nat) => Value.tuple #[nat4 (ofN f n), int (ofE n)]) ns ∧ ([some ⟨b, false, o, (tabF n (fun k => u8 (f k)))⟩] : List (Option Blk)) = (fun (_ : List Nat) => [some ⟨b, false, o, (tabF n (fun k => u8 (f k)))⟩]) ns) [] (And.intro (@rfl Nat 0) (And.intro ((show (Value.tuple #[(Value.agg #[(u64 0), (u64 0), (u64 0), (u64 0)]), (int 2)]) = Value.tuple #[nat4 (ofN f n), int (ofE n)] from by rw [ofN, ofE, h1] <;> rfl)) (@rfl (List (Option Blk)) [some ⟨b, false, o, (tabF n (fun k => u8 (f k)))⟩])))))) (fun (h1 : (decide (32 < n)) = false) => fun (n2 : Nat) => And.intro (sk trivial) (And.intro (sk (And.intro (And.intro trivial (@is_len Tryd.prog 69 5 (.tmp 10) (by kernel_rfl) (some ⟨b, o, none⟩) n c)) (sk trivial))) (And.intro (to_tab4 (N4.mk 0 0 0 0)) (And.intro (show (of_runs_R1 b o n c f n1 n2) ((0, (N4.mk 0 0 0 0)) : Nat × N4) from (show (0 ≤ n) ∧ (((N4.mk 0 0 0 0)).val = beN f n 0) from by have f0 : n ≤ 9223372036854775807 := hn; have f1 : ¬ (32 < n) := (of_decide_eq_false h1); exact ⟨by omega, rfl⟩)) (And.intro (@rfl St ((of_runs_S1 b o n c f n1 n2) ((0, (N4.mk 0 0 0 0)) : Nat × N4))) (fun (x1 : Nat × N4) (hx1 : (of_runs_R1 b o n c f n1 n2) x1) => And.intro (And.intro (And.intro trivial (@is_lssn Tryd.prog 3 3 (.tmp 12) (.tmp 11)  x1.1 n)) trivial) (And.intro trivial (And.intro (fun (h2 : (decide (x1.1 < n)) = true) => And.intro (sk (sk trivial)) (And.intro (sk (And.intro (And.intro trivial (@is_quon Tryd.prog 3 3 (.tmp 15) (.const (.int .i64 8))  x1.1 8 (show 0 < 8 ∧ x1.1 ≤ 9223372036854775807 from by have f0 : n ≤ 9223372036854775807 := hn; have f1 : ¬ (32 < n) := (of_decide_eq_false h1); have B0 : x1.1 ≤ n := hx1.1; have B1 : (x1.2).val = beN f n x1.1 := hx1.2; have f4 : (x1.1 < n) := (of_decide_eq_true h2); omega))) (And.intro (And.intro trivial (@is_ixArr Tryd.prog 58 44 (.tmp 4) (.tmp 16) 1 4 (by kernel_rfl) (by kernel_rfl) n2 0 (x1.1 / 8) (show x1.1 / 8 < 4 from by have f0 : n ≤ 9223372036854775807 := hn; have f1 : ¬ (32 < n) := (of_decide_eq_false h1); have B0 : x1.1 ≤ n := hx1.1; have B1 : (x1.2).val = beN f n x1.1 := hx1.2; have f4 : (x1.1 < n) := (of_decide_eq_true h2); omega))) (And.intro (And.intro trivial (And.intro (show x1.1 / 8 < 4 from by have f0 : n ≤ 9223372036854775807 := hn; have f1 : ¬ (32 < n) := (of_decide_eq_false h1); have B0 : x1.1 ≤ n := hx1.1; have B1 : (x1.2).val = beN f n x1.1 := hx1.2; have f4 : (x1.1 < n) := (of_decide_eq_true h2); omega) (@rfl Value (ptr n2 (0 + (x1.1 / 8) * 1))))) (sk (sk (And.intro (And.intro trivial (@is_len Tryd.prog 69 5 (.tmp 20) (by kernel_rfl) (some ⟨b, o, none⟩) n c)) (And.intro (And.intro trivial (@is_subn Tryd.prog 3 3 (.tmp 21) (.const (.int .i64 1))  n 1 (show 1 ≤ n ∧ n - 1 ≤ 9223372036854775807 from by have f0 : n ≤ 9223372036854775807 := hn; have f1 : ¬ (32 < n) := (of_decide_eq_false h1); have B0 : x1.1 ≤ n := hx1.1; have B1 : (x1.2).val = beN f n x1.1 := hx1.2; have f4 : (x1.1 < n) := (of_decide_eq_true h2); omega))) (sk (And.intro (And.intro trivial (@is_subn Tryd.prog 3 3 (.tmp 22) (.tmp 23)  (n - 1) x1.1 (show x1.1 ≤ (n - 1) ∧ (n - 1) - x1.1 ≤ 9223372036854775807 from by have f0 : n ≤ 9223372036854775807 := hn; have f1 : ¬ (32 < n) := (of_decide_eq_false h1); have B0 : x1.1 ≤ n := hx1.1; have B1 : (x1.2).val = beN f n x1.1 := hx1.2; have f4 : (x1.1 < n) := (of_decide_eq_true h2); omega))) (And.intro (And.intro trivial (@is_ixSl Tryd.prog 69 5 (.tmp 19) (.tmp 24) 1 (by kernel_rfl) (by kernel_rfl) b o n c ((n - 1) - x1.1) (show (n - 1) - x1.1 < n from by have f0 : n ≤ 9223372036854775807 := hn; have f1 : ¬ (32 < n) := (of_decide_eq_false h1); have B0 : x1.1 ≤ n := hx1.1; have B1 : (x1.2).val = beN f n x1.1 := hx1.2; have f4 : (x1.1 < n) := (of_decide_eq_true h2); omega))) (And.intro (And.intro trivial (And.intro (show (n - 1) - x1.1 < n from by have f0 : n ≤ 9223372036854775807 := hn; have f1 : ¬ (32 < n) := (of_decide_eq_false h1); have B0 : x1.1 ≤ n := hx1.1; have B1 : (x1.2).val = beN f n x1.1 := hx1.2; have f4 : (x1.1 < n) := (of_decide_eq_true h2); omega) (@rfl Value (ptr b (o + ((n - 1) - x1.1) * 1))))) (And.intro (And.intro trivial (@conv_u8_u64 Tryd.prog 5 44 (.tmp 26) (by kernel_rfl) (by kernel_rfl) (f ((n - 1) - x1.1)))) (sk (And.intro (And.intro trivial (@is_remn Tryd.prog 3 3 (.tmp 28) (.const (.int .i64 8))  x1.1 8 (show 0 < 8 from by have f0 : n ≤ 9223372036854775807 := hn; have f1 : ¬ (32 < n) := (of_decide_eq_false h1); have B0 : x1.1 ≤ n := hx1.1; have B1 : (x1.2).val = beN f n x1.1 := hx1.2; have f4 : (x1.1 < n) := (of_decide_eq_true h2); omega))) (And.intro (And.intro trivial (@is_muln Tryd.prog 3 3 (.tmp 29) (.const (.int .i64 8))  (x1.1 % 8) 8 (show (x1.1 % 8) * 8 ≤ 9223372036854775807 from by have f0 : n ≤ 9223372036854775807 := hn; have f1 : ¬ (32 < n) := (of_decide_eq_false h1); have B0 : x1.1 ≤ n := hx1.1; have B1 : (x1.2).val = beN f n x1.1 := hx1.2; have f4 : (x1.1 < n) := (of_decide_eq_true h2); omega))) (And.intro (And.intro trivial (@is_shl64 Tryd.prog 44 3 (.tmp 27) (.tmp 30) ((f ((n - 1) - x1.1)).toUInt64) .i64 ((x1.1 % 8) * 8))) (And.intro (And.intro trivial (@is_or64 Tryd.prog 44 44 (.tmp 18) (.tmp 31) (x1.2.get (x1.1 / 8)) (shl64 ((f ((n - 1) - x1.1)).toUInt64) ((x1.1 % 8) * 8)))) (And.intro (And.intro trivial (@is_ixArr Tryd.prog 58 44 (.tmp 4) (.tmp 16) 1 4 (by kernel_rfl) (by kernel_rfl) n2 0 (x1.1 / 8) (show x1.1 / 8 < 4 from by have f0 : n ≤ 9223372036854775807 := hn; have f1 : ¬ (32 < n) := (of_decide_eq_false h1); have B0 : x1.1 ≤ n := hx1.1; have B1 : (x1.2).val = beN f n x1.1 := hx1.2; have f4 : (x1.1 < n) := (of_decide_eq_true h2); omega))) (And.intro (And.intro trivial (And.intro (show x1.1 / 8 < 4 from by have f0 : n ≤ 9223372036854775807 := hn; have f1 : ¬ (32 < n) := (of_decide_eq_false h1); have B0 : x1.1 ≤ n := hx1.1; have B1 : (x1.2).val = beN f n x1.1 := hx1.2; have f4 : (x1.1 < n) := (of_decide_eq_true h2); omega) (And.intro (@rfl Value (ptr n2 (0 + (x1.1 / 8) * 1))) (store_tab4 x1.2 (x1.1 / 8) ((x1.2.get (x1.1 / 8)) ||| (shl64 ((f ((n - 1) - x1.1)).toUInt64) ((x1.1 % 8) * 8))) (show x1.1 / 8 < 4 from by have f0 : n ≤ 9223372036854775807 := hn; have f1 : ¬ (32 < n) := (of_decide_eq_false h1); have B0 : x1.1 ≤ n := hx1.1; have B1 : (x1.2).val = beN f n x1.1 := hx1.2; have f4 : (x1.1 < n) := (of_decide_eq_true h2); omega))))) trivial)))))))))))))))))))) (And.intro (And.intro (And.intro trivial (@is_addn Tryd.prog 3 3 (.tmp 12) (.const (.int .i64 1))  x1.1 1 (show x1.1 + 1 ≤ 9223372036854775807 from by have f0 : n ≤ 9223372036854775807 := hn; have f1 : ¬ (32 < n) := (of_decide_eq_false h1); have B0 : x1.1 ≤ n := hx1.1; have B1 : (x1.2).val = beN f n x1.1 := hx1.2; have f4 : (x1.1 < n) := (of_decide_eq_true h2); omega))) (sk trivial)) ((rnd (of_runs_R1 b o n c f n1 n2) (of_runs_S1 b o n c f n1 n2) (of_runs_mu1 b o n c f n1 n2) x1 ((x1.1 + 1, x1.2.set (x1.1 / 8) ((x1.2.get (x1.1 / 8)) ||| (shl64 ((f ((n - 1) - x1.1)).toUInt64) ((x1.1 % 8) * 8)))) : Nat × N4) (show (of_runs_R1 b o n c f n1 n2) ((x1.1 + 1, x1.2.set (x1.1 / 8) ((x1.2.get (x1.1 / 8)) ||| (shl64 ((f ((n - 1) - x1.1)).toUInt64) ((x1.1 % 8) * 8)))) : Nat × N4) ∧ (of_runs_mu1 b o n c f n1 n2) ((x1.1 + 1, x1.2.set (x1.1 / 8) ((x1.2.get (x1.1 / 8)) ||| (shl64 ((f ((n - 1) - x1.1)).toUInt64) ((x1.1 % 8) * 8)))) : Nat × N4) < (of_runs_mu1 b o n c f n1 n2) x1 from (show (((x1.1 + 1) ≤ n) ∧ (((x1.2.set (x1.1 / 8) ((x1.2.get (x1.1 / 8)) ||| (shl64 ((f ((n - 1) - x1.1)).toUInt64) ((x1.1 % 8) * 8))))).val = beN f n (x1.1 + 1))) ∧ (n - (x1.1 + 1)) < (n - x1.1) from by have f0 : n ≤ 9223372036854775807 := hn; have f1 : ¬ (32 < n) := (of_decide_eq_false h1); have B0 : x1.1 ≤ n := hx1.1; have B1 : (x1.2).val = beN f n x1.1 := hx1.2; have f4 : (x1.1 < n) := (of_decide_eq_true h2); exact ⟨⟨by omega, of_step x1.2 f n x1.1 (by omega) B1⟩, by omega⟩))))))) (fun (h2 : (decide (x1.1 < n)) = false) => And.intro (to_lit4 x1.2) (And.intro (And.intro (And.intro trivial (ad n2 0)) (And.intro (And.intro trivial (ad n1 0)) (sk trivial))) (And.intro (And.intro (@rfl Value (ptr n1 0)) trivial) (@Exists.intro (List Nat) (fun (ns : List Nat) => ns.length = 0 ∧ ((Value.tuple #[(nat4 x1.2), (int 0)]) : Value) = (fun (_ : List Nat) => Value.tuple #[nat4 (ofN f n), int (ofE n)]) ns ∧ ([some ⟨b, false, o, (tabF n (fun k => u8 (f k)))⟩] : List (Option Blk)) = (fun (_ : List Nat) => [some ⟨b, false, o, (tabF n (fun k => u8 (f k)))⟩]) ns) [] (And.intro (@rfl Nat 0) (And.intro ((show (Value.tuple #[(nat4 x1.2), (int 0)]) = Value.tuple #[nat4 (ofN f n), int (ofE n)] from by have f0 : n ≤ 9223372036854775807 := hn; have f1 : ¬ (32 < n) := (of_decide_eq_false h1); have B0 : x1.1 ≤ n := hx1.1; have B1 : (x1.2).val = beN f n x1.1 := hx1.2; have f4 : ¬ (x1.1 < n) := (of_decide_eq_false h2); have e : x1.1 = n := (by omega); rw [e] at B1; rw [ofN, ofE, h1]; simp only []; rw [← ofN_end B1] <;> rfl)) (@rfl (List (Option Blk)) [some ⟨b, false, o, (tabF n (fun k => u8 (f k)))⟩]))))))))))))))))))))
end Go.Proofs.YtnijgepnoijkbaaDoor
end
section
namespace Go.Eng
open Go.RowKit Go.WideShapes Go.ChangeShapes Go.ChangeAt Go.Deep
set_option linter.unusedSimpArgs false
set_option linter.unusedVariables false
set_option maxRecDepth 100000
theorem Post.weak {m m1 m2 : Nat → Option Blk} {w w' : World} (h : Post m w m1 w')
    (hr : ∀ p b, m2 p = some b → ∃ b0, m1 p = some b0 ∧ b0.name = b.name ∧ b0.own = b.own ∧ b0.base = b.base ∧ (b.own = false → b0 = b) ∧ (b0 = b ∨ b.cont.isMap = false ∧ ∀ o v, b.cont.get o = some v → b0.cont.get o = some v)) : Post m w m2 w' := by
  refine ⟨fun p b hp => ?_, fun p q b c hpq hb hc ho => ?_, ⟨h.adv.os, h.adv.output, h.adv.tape, h.adv.size, h.adv.heap, fun j hj => ?_, fun p b hp ho => ?_⟩⟩
  · obtain ⟨b0, h0, h1, h2, h3, _, rfl | ⟨h6, h4⟩⟩ := hr p b hp
    · exact h.holds p _ h0
    have hh := (h.holds p b0 h0).recont h6 h4
    obtain ⟨n0, o0, s0, c0⟩ := b0
    obtain ⟨n1, o1, s1, c1⟩ := b
    simp only at h1 h2 h3; subst h1 h2 h3; exact hh
  · obtain ⟨b0, h0, h1, h2, _⟩ := hr p b hb
    obtain ⟨c0, k0, k1, _⟩ := hr q c hc
    rw [← h1, ← k1]; exact h.apart p q b0 c0 hpq h0 k0 (h2.trans ho)
  · obtain ⟨p, b, hp, ho, rfl⟩ := hj
    obtain ⟨b0, h0, h1, h2, _⟩ := hr p b hp
    exact h.adv.names _ ⟨p, b0, h0, h2.trans ho, h1⟩
  · obtain ⟨b0, h0, _, _, _, h5, _⟩ := hr p b hp
    rw [← h5 ho]; exact h.adv.ro p b0 h0 (by rw [h5 ho]; exact ho)
theorem Runs.weak {P : Program} {f : FuncId} {args : List Value} {bs : List Blk} {k : Nat} {v : List Nat → Value} {out out' : List Nat → List (Option Blk)} (h : Runs P f args bs k v out)
    (hr : ∀ ns p b, listMem (out' ns) p = some b → ∃ b0, listMem (out ns) p = some b0 ∧ b0.name = b.name ∧ b0.own = b.own ∧ b0.base = b.base ∧ (b.own = false → b0 = b) ∧ (b0 = b ∨ b.cont.isMap = false ∧ ∀ o v, b.cont.get o = some v → b0.cont.get o = some v)) :
    Runs P f args bs k v out' := fun w hb ha => Calls.mono (h w hb ha) fun _ _ ⟨ns, h1, h2, h3⟩ => ⟨ns, h1, h2, h3.weak (hr ns)⟩
theorem SRuns.weak {P : Program} {s : Sem Next} {bs : List Blk} {k : Nat} {v : List Nat → Value} {out out' : List Nat → List (Option Blk)} (h : SRuns P s bs k v out)
    (hr : ∀ ns p b, listMem (out' ns) p = some b → ∃ b0, listMem (out ns) p = some b0 ∧ b0.name = b.name ∧ b0.own = b.own ∧ b0.base = b.base ∧ (b.own = false → b0 = b) ∧ (b0 = b ∨ b.cont.isMap = false ∧ ∀ o v, b.cont.get o = some v → b0.cont.get o = some v)) :
    SRuns P s bs k v out' := fun w hb ha => have ⟨ns, w', h1, h2, h3⟩ := h w hb ha; ⟨ns, w', h1, h2, h3.weak (hr ns)⟩
theorem SRuns.retell {P : Program} {s : Sem Next} {bs bs' : List Blk} {k : Nat} {v : List Nat → Value} {out : List Nat → List (Option Blk)} (h : SRuns P s bs k v out)
    (hb : ∀ w : World, (∀ b ∈ bs', Holds b w) → ∀ b ∈ bs, Holds b w) (hn : bs.map (fun b => (b.name, b.own)) = bs'.map fun b => (b.name, b.own)) (hro : ∀ ns p b, listMem (out ns) p = some b → b.own = true) :
    SRuns P s bs' k v out := fun w hw ha => by
  have hlk : ∀ p b, listMem (bs.map some) p = some b → ∃ b', listMem (bs'.map some) p = some b' ∧ b'.name = b.name ∧ b'.own = b.own := fun p b hp => by
    have h1 := listMem_some.1 hp
    have h2 : (bs.map fun b => (b.name, b.own))[p]? = some (b.name, b.own) := by rw [List.getElem?_map, h1]; rfl
    rw [hn, List.getElem?_map] at h2
    cases h3 : bs'[p]? with
    | none => rw [h3] at h2; cases h2
    | some b' =>
      rw [h3] at h2
      simp at h2
      exact ⟨b', listMem_some.2 h3, h2.1, h2.2⟩
  obtain ⟨ns, w', h1, h2, h3⟩ := h w (hb w hw) fun p q b c hpq hp hq ho => by
    obtain ⟨b', hb1, hb2, hb3⟩ := hlk p b hp
    obtain ⟨c', hc1, hc2, hc3⟩ := hlk q c hq
    rw [← hb2, ← hc2]
    exact ha p q b' c' hpq hb1 hc1 (hb3.trans ho)
  refine ⟨ns, w', h1, h2, ⟨h3.holds, h3.apart, ⟨h3.adv.os, h3.adv.output, h3.adv.tape, h3.adv.size, fun j hj hno => h3.adv.heap j hj fun ⟨p, b, hp, ho, he⟩ => ?_, fun j hj => ?_, fun p b hp ho => ?_⟩⟩⟩
  · obtain ⟨b', hb1, hb2, hb3⟩ := hlk p b hp
    exact hno ⟨p, b', hb1, hb3.trans ho, hb2.trans he⟩
  · rcases h3.adv.names j hj with ⟨p, b, hp, ho, he⟩ | h4
    · obtain ⟨b', hb1, hb2, hb3⟩ := hlk p b hp
      exact .inl ⟨p, b', hb1, hb3.trans ho, hb2.trans he⟩
    · exact .inr h4
  · exact absurd (hro ns p b hp) (by rw [ho]; decide)
section
variable {P : Program} {t ty e : TypeId}
end
section bytesin
variable {H : Type} {enc : TypeId × Value → H} {P : Program}
end bytesin
end Go.Eng
end
