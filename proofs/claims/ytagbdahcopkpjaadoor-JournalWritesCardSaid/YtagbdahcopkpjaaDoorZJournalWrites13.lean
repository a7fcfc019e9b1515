/-
  Many in one: ShaLaw.
-/
import Derived.Test.YtagbdahcopkpjaaDoorZJournalWrites12
import Derived.ChangeSame
import Derived.LaidLaws
import Derived.LaidMore
import Derived.Stop.Joined
section
set_option linter.unusedSimpArgs false
set_option linter.unusedVariables false
set_option maxRecDepth 100000
namespace Go.Eng
open Go.RowKit Go.WideShapes Go.ChangeShapes Go.ChangeAt
section
variable {P : Program} {t e t' : TypeId} {x y : Operand} {n : Nat}
end
def bysO (nm n c : Nat) (f : Nat → BytL) : BytS := ⟨some ⟨nm, 0, none⟩, n, c, nm, 0, f⟩
def brow (l : List BytL) : Nat → BytL := fun k => l.getD k (bytZ none 0)
theorem oks_own {nm n c : Nat} {f : Nat → BytL} (h1 : n ≤ c) (h2 : n ≤ 9223372036854775807) (h3 : ∀ k, k < n → OkB (f k)) : OkS (bysO nm n c f) := ⟨h1, fun _ => rfl, h2, h3⟩
theorem holds_own {nm n c : Nat} {l : List Value} {f : Nat → BytL} {F : Blk → Prop} (hT : ∀ x, famT x → F x) (hl : l = (List.range n).map fun k => slqV (f k)) (hB : ∀ k, k < n → ∀ w : World, FamH F w → FamH (famB (f k)) w) :
    ∀ w : World, FamH F w → (∀ b ∈ [(⟨nm, false, 0, .lit l⟩ : Blk)], Holds b w) → FamH (famTS (bysO nm n c f)) w := fun w hF hb x hx => by
  rcases hx with hx | ⟨h0, rfl⟩ | ⟨k, hk, hx⟩
  · exact hF x (hT x hx)
  · subst hl
    refine ⟨(hb _ (List.Mem.head _)).recont rfl fun j v hj => ?_, rfl⟩
    have hj' : (tabF n fun k => slqV (f k)).get j = some v := hj
    show ((List.range n).map fun k => slqV (f k))[j]? = some v
    by_cases hl : j < n
    · rw [tabF_in hl] at hj'
      rw [map_get slqV f n j hl]; exact hj'
    · rw [tabF_out hl] at hj'; cases hj'
  · exact hB k hk w hF x hx
theorem tab_cell {P : Program} {W : World} {g t e : Nat} {n : Nat} {name : String} {zs : List Int} (hname : P.globalNamed name = some g) (hty : (P.globals[g]?).map (·.type) = some t) (ht : P.underlying t = some (.array n e)) (he : P.underlying e = some (.int .u32)) (hc : P.cellsOf e = 1) (hlen : zs.length = n)
    (h : ∃ (g' t' : Nat) (cs : Array Value) (fuel : Nat) (q : List MemPlace), P.globalNamed name = some g' ∧ (P.globals[g']?).map (·.type) = some t' ∧ W.var? P name = some cs ∧ DataW.trod (fun _ => ()) P W 0 (fun _ => true) false fuel t' cs.toList = some (.agg (zs.map fun z => .lit (.int .u32 z)), q)) (r : Nat) (hr : r < n) :
    W.cell? ⟨g, r, none⟩ = some (.int .u32 (zs.getD r 0)) := by
  obtain ⟨g', t', cs, fuel, q, hg, htt, hv, hd⟩ := h
  obtain rfl := Option.some.inj (hname.symm.trans hg)
  obtain rfl := Option.some.inj (hty.symm.trans htt)
  obtain ⟨xs, m, _, ex, _, hl, hel⟩ := DataW.trod_array ht hd
  have hE := hel r hr
  rw [hc, Nat.mul_one, List.getElem?_eq_getElem (by omega)] at hE
  obtain ⟨z, e1, e2, _⟩ := DataW.trod_int he hE
  have e3 : (xs.map (·.1)) = zs.map fun n => .lit (.int .u32 n) := (DataW.agg.inj (Prod.mk.inj ex).1).symm
  have e4 : (xs.map (·.1))[r]? = (zs.map fun n => (DataW.lit (.int .u32 n) : DataW Unit))[r]? := by rw [e3]
  rw [List.getElem?_map, List.getElem?_map, List.getElem?_eq_getElem (by omega : r < xs.length), List.getElem?_eq_getElem (by omega : r < zs.length), e2] at e4
  have hz : z = zs.getD r 0 := by
    simp only [Option.map_some, Option.some.injEq, DataW.lit.injEq, Lit.int.injEq, true_and] at e4
    rw [e4, List.getD, List.getElem?_eq_getElem (by omega : r < zs.length)]; rfl
  rw [World.var?_cell hname hv r, ← hz]
  have : cs.toList[r]? = some (.int .u32 z) := by
    have h0 : ((cs.toList.drop r).take 1)[0]? = some (.int .u32 z) := by rw [e1]; rfl
    simpa using h0
  simpa using this
end Go.Eng
namespace Go.Eng
open Go.RowKit Go.WideShapes Go.ChangeShapes Go.ChangeAt
end Go.Eng
namespace Go.Eng
open Go.RowKit Go.WideShapes Go.ChangeShapes Go.ChangeAt Go.Deep
theorem tabK (l : List Nat) (n : Nat) (hn : l.length = n) (hl : l.all (fun z => decide (z < 4294967296)) = true) (r : Nat) (hr : r < n) : Value.int .u32 ((l.map fun z : Nat => (z : Int)).getD r 0) = u32 (UInt32.ofNat (l.getD r 0)) := by
  have h1 : r < l.length := by omega
  have h2 : l[r] < 4294967296 := by
    have := List.all_eq_true.1 hl l[r] (List.getElem_mem h1)
    simpa using this
  simp only [List.getD, List.getElem?_map, List.getElem?_eq_getElem h1, Option.map_some, Option.getD_some]
  unfold u32
  rw [UInt32.toNat_ofNat', Nat.mod_eq_of_lt (by simpa using h2)]
theorem famT_cells {W : World} (h0 : ∀ r, r < 8 → W.cell? ⟨0, r, none⟩ = some (.int .u32 ((begK.map fun z : Nat => (z : Int)).getD r 0))) (h1 : ∀ r, r < 64 → W.cell? ⟨1, r, none⟩ = some (.int .u32 ((rndK.map fun z : Nat => (z : Int)).getD r 0))) : FamH famT W := fun b hb => by
  rcases hb with rfl | rfl
  · refine ⟨⟨lt_of_cell (h0 0 (by omega)), fun o v ho => ?_, (fun h => by cases h), obj_not rfl⟩, rfl⟩
    have ho' : (litF 8 fun k => u32 (begW k)).get o = some v := ho
    rw [← get_tabF] at ho'
    by_cases hl : o < 8
    · rw [tabF_in hl] at ho'
      show W.cell? ⟨0, 0 + o, none⟩ = some v
      rw [Nat.zero_add, h0 o hl, ← ho', tabK begK 8 rfl (by decide +kernel) o hl]; rfl
    · rw [tabF_out hl] at ho'; cases ho'
  · refine ⟨⟨lt_of_cell (h1 0 (by omega)), fun o v ho => ?_, (fun h => by cases h), obj_not rfl⟩, rfl⟩
    have ho' : (tabF 64 fun k => u32 (rndW k)).get o = some v := ho
    by_cases hl : o < 64
    · rw [tabF_in hl] at ho'
      show W.cell? ⟨1, 0 + o, none⟩ = some v
      rw [Nat.zero_add, h1 o hl, ← ho', tabK rndK 64 rfl (by decide +kernel) o hl]; rfl
    · rw [tabF_out hl] at ho'; cases ho'
end Go.Eng
namespace Go.Eng
theorem stands_first {g : Nat → UInt8} {m : Nat} (hm : m < 18446744073709551616) : Stands (wrH newH g m) g m := by
  have h := (stands_new g).write (g := g) (m := m) (by omega)
  rw [Nat.zero_add] at h
  exact h.congr fun k _ => by unfold catU; rw [if_neg (by omega), Nat.sub_zero]
section
variable {P : Program} {t e : TypeId} {x y z : Operand}
theorem is_slqPart (ht : P.underlying t = some (.slice e)) {sz : Nat} (hs : sizeB P e = some sz) (wa : Option Addr) (len cap i j : Nat) (hi : i ≤ j ∧ j ≤ cap) :
    IsOp P (.slice t x (some y) (some z) none) [.slice wa len cap, nat i, nat j] (.slice (fromA wa cap i sz) (j - i) (cap - i)) := by
  intro ρ o' ho hv
  rw [ho] at hv
  have hv' : [ρ x, ρ y, ρ z] = [Value.slice wa len cap, nat i, nat j] := hv
  injection hv' with h1 hv'
  injection hv' with h2 hv'
  injection hv' with h3 _
  unfold execOp
  rw [ho]
  simp only [Option.map]
  show pureRun P (Sem.bind (Instr.sliceAt t (ρ x) (some (ρ y)) (some (ρ z)) none) fun v => Sem.pure (Next.value v)) = _
  rw [pureRun_bind, h1, h2, h3]
  have hi' : 0 ≤ (i : Int) ∧ (i : Int) ≤ (j : Int) := by omega
  have hj' : 0 ≤ (j : Int) ∧ (j : Int) ≤ (cap : Int) := by omega
  have e : pureRun P (Instr.sliceAt t (.slice wa len cap) (some (nat i)) (some (nat j)) none) = some (.slice (fromA wa cap i sz) (j - i) (cap - i)) := by
    simp only [Instr.sliceAt, Instr.slice, Instr.sliceBounds, Instr.sliceBound, nat, pureRun_bind', asIntOf, pureRun, pure, pureRun_underlying ht, hi', hj', and_self, if_true, pureRun_sizeOf hs, Int.toNat_natCast]
    rfl
  rw [e]
  rfl
end
end Go.Eng
namespace Go.Eng
end Go.Eng
namespace Go.Eng
section
variable {f : Nat → BytL} {i : Nat} {G Z : HS} {A : Grw UInt8}
end
end Go.Eng
end
