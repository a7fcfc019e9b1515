/-
  Layer 6: digests held against each other; the tables that are laid; what laws need.
-/
import Derived.Test.YtkbiahdnfhokgaaDoorShaRefL
import Derived.Test.YtkbiahdnfhokgaaDoorGrow
import Derived.LaidLaws
import Derived.LaidMore
import Derived.Stop.Joined
import Derived.ChangeSame
set_option linter.unusedSimpArgs false
set_option linter.unusedVariables false
set_option maxRecDepth 100000
namespace Go.Eng
open Go.RowKit Go.WideShapes Go.ChangeShapes Go.ChangeAt
section
variable {P : Program} {t e t' : TypeId} {x y : Operand} {n : Nat}
theorem equal_vec8 (ht : P.underlying t = some (.array n e)) (he : P.underlying e = some (.int .u8)) (hs : sizeB P e = some 1) (f g : Nat → UInt8) :
    pureRun P (Op.equal t (vecV n fun k => u8 (f k)) (vecV n fun k => u8 (g k))) = some (sameS f n g n) := by
  have h := pureRun_equalIn_arr (P := P) 9998 ((List.range n).map fun k => ((f k).toNat : Int)) ((List.range n).map fun k => ((g k).toNat : Int)) ht he hs (by simp) (by simp)
  have e1 : ∀ q : Nat → UInt8, (((List.range n).map fun k => ((q k).toNat : Int)).map (Value.int .u8)).toArray = ((List.range n).map fun k => u8 (q k)).toArray := fun q => by
    rw [List.map_map]; rfl
  rw [e1, e1] at h
  show pureRun P (Op.equalIn (9998 + 2) t (vecV n _) (vecV n _)) = _
  rw [show (vecV n fun k => u8 (f k)) = .agg ((List.range n).map fun k => u8 (f k)).toArray from rfl, show (vecV n fun k => u8 (g k)) = .agg ((List.range n).map fun k => u8 (g k)).toArray from rfl, h]
  congr 1
  unfold sameS
  rw [Bool.eq_iff_iff, List.all_eq_true, decide_eq_true_eq]
  constructor
  · intro h1
    refine ⟨rfl, fun k hk => ?_⟩
    have h2 := h1 k (List.mem_range.2 hk)
    simp [List.getD, hk] at h2
    exact UInt8.toNat_inj.1 (by omega)
  · rintro ⟨_, h1⟩ k hk
    have hk' := List.mem_range.1 hk
    simp [List.getD, hk', h1 k hk']
theorem is_eqlV8 (ht : P.underlying t = some (.array n e)) (he : P.underlying e = some (.int .u8)) (hs : sizeB P e = some 1) (hg : P.eqGuardType P.depth t = false) (f g : Nat → UInt8) :
    IsOp P (.binOp .eql t x y t') [vecV n fun k => u8 (f k), vecV n fun k => u8 (g k)] (.bool (sameS f n g n)) := isOp_bin (guard_arr hg) (by
  show pureRun P (do pure (Value.bool (← Op.equal t (vecV n fun k => u8 (f k)) (vecV n fun k => u8 (g k))))) = _
  rw [pureRun_bind', equal_vec8 ht he hs]; rfl)
theorem is_neqV8 (ht : P.underlying t = some (.array n e)) (he : P.underlying e = some (.int .u8)) (hs : sizeB P e = some 1) (hg : P.eqGuardType P.depth t = false) (f g : Nat → UInt8) :
    IsOp P (.binOp .neq t x y t') [vecV n fun k => u8 (f k), vecV n fun k => u8 (g k)] (.bool (!(sameS f n g n))) := isOp_bin (guard_arr hg) (by
  show pureRun P (do pure (Value.bool (!(← Op.equal t (vecV n fun k => u8 (f k)) (vecV n fun k => u8 (g k)))))) = _
  rw [pureRun_bind', equal_vec8 ht he hs]; rfl)
end
theorem same_of {f g : Nat → UInt8} {n : Nat} (h : f = g) : sameS f n g n = true := by rw [h]; exact same_self g n
/-- A slice of slices of one's own. -/
def bysO (nm n c : Nat) (f : Nat → BytL) : BytS := ⟨some ⟨nm, 0, none⟩, n, c, nm, 0, f⟩
def brow (l : List BytL) : Nat → BytL := fun k => l.getD k (bytZ none 0)
theorem oks_own {nm n c : Nat} {f : Nat → BytL} (h1 : n ≤ c) (h2 : n ≤ 9223372036854775807) (h3 : ∀ k, k < n → OkB (f k)) : OkS (bysO nm n c f) := ⟨h1, fun _ => rfl, h2, h3⟩
theorem holds_own {nm n c : Nat} {l : List Value} {f : Nat → BytL} {F : Blk → Prop} (hT : ∀ x, famT x → F x) (hl : l = (List.range n).map fun k => slqV (f k)) (hB : ∀ k, k < n → ∀ w : World, FamH F w → FamH (famB (f k)) w) :
    ∀ w : World, FamH F w → (∀ b ∈ [(⟨nm, false, 0, .lit l⟩ : Blk)], Holds b w) → FamH (famTS (bysO nm n c f)) w := fun w hF hb x hx => by
  rcases hx with hx | ⟨h0, rfl⟩ | ⟨k, hk, hx⟩
  · exact hF x (hT x hx)
  · subst hl
    refine ⟨(hb _ (List.Mem.head _)).recont rfl fun j v hj => ?_, rfl⟩
    have hj' : (tabF n fun k => slqV (f k)).get j = some v := hj
    show ((List.range n).map fun k => slqV (f k))[j]? = some v
    by_cases hl : j < n
    · rw [tabF_in hl] at hj'
      rw [map_get slqV f n j hl]; exact hj'
    · rw [tabF_out hl] at hj'; cases hj'
  · exact hB k hk w hF x hx
/-! ### the tables -/
theorem tab_cell {P : Program} {W : World} {g t e : Nat} {n : Nat} {name : String} {zs : List Int} (hname : P.globalNamed name = some g) (hty : (P.globals[g]?).map (·.type) = some t) (ht : P.underlying t = some (.array n e)) (he : P.underlying e = some (.int .u32)) (hc : P.cellsOf e = 1) (hlen : zs.length = n)
    (h : ∃ (g' t' : Nat) (cs : Array Value) (fuel : Nat) (q : List MemPlace), P.globalNamed name = some g' ∧ (P.globals[g']?).map (·.type) = some t' ∧ W.var? P name = some cs ∧ DataW.trod (fun _ => ()) P W 0 (fun _ => true) false fuel t' cs.toList = some (.agg (zs.map fun z => .lit (.int .u32 z)), q)) (r : Nat) (hr : r < n) :
    W.cell? ⟨g, r, none⟩ = some (.int .u32 (zs.getD r 0)) := by
  obtain ⟨g', t', cs, fuel, q, hg, htt, hv, hd⟩ := h
  obtain rfl := Option.some.inj (hname.symm.trans hg)
  obtain rfl := Option.some.inj (hty.symm.trans htt)
  obtain ⟨xs, m, _, ex, _, hl, hel⟩ := DataW.trod_array ht hd
  have hE := hel r hr
  rw [hc, Nat.mul_one, List.getElem?_eq_getElem (by omega)] at hE
  obtain ⟨z, e1, e2, _⟩ := DataW.trod_int he hE
  have e3 : (xs.map (·.1)) = zs.map fun n => .lit (.int .u32 n) := (DataW.agg.inj (Prod.mk.inj ex).1).symm
  have e4 : (xs.map (·.1))[r]? = (zs.map fun n => (DataW.lit (.int .u32 n) : DataW Unit))[r]? := by rw [e3]
  rw [List.getElem?_map, List.getElem?_map, List.getElem?_eq_getElem (by omega : r < xs.length), List.getElem?_eq_getElem (by omega : r < zs.length), e2] at e4
  have hz : z = zs.getD r 0 := by
    simp only [Option.map_some, Option.some.injEq, DataW.lit.injEq, Lit.int.injEq, true_and] at e4
    rw [e4, List.getD, List.getElem?_eq_getElem (by omega : r < zs.length)]; rfl
  rw [World.var?_cell hname hv r, ← hz]
  have : cs.toList[r]? = some (.int .u32 z) := by
    have h0 : ((cs.toList.drop r).take 1)[0]? = some (.int .u32 z) := by rw [e1]; rfl
    simpa using h0
  simpa using this
end Go.Eng
namespace Go.Eng
open Go.RowKit Go.WideShapes Go.ChangeShapes Go.ChangeAt
/-! ### what was written by a slice of slices -/
def lenS (f : Nat → BytL) : Nat → Nat
  | 0 => 0
  | k + 1 => lenS f k + (f k).wn
def catS (f : Nat → BytL) : Nat → (Nat → UInt8)
  | 0 => fun _ => 0
  | k + 1 => catU (catS f k) (lenS f k) (f k).wf
theorem stands_S (f : Nat → BytL) : ∀ (n : Nat), lenS f n < 18446744073709551616 → Stands (wrS newH f n) (catS f n) (lenS f n)
  | 0, _ => stands_new _
  | n + 1, h => by
    have h' : lenS f n + (f n).wn < 18446744073709551616 := h
    exact (stands_S f n (by omega)).write h'
theorem Stands.alike {H G : HS} {f g : Nat → UInt8} {n : Nat} (h : Stands H f n) (k : Stands G g n) (hn : n < 18446744073709551488) (hfg : ∀ i, i < n → f i = g i) : sumD H = sumD G := by
  rw [h.sum (by omega), k.sum (by omega)]; exact digOf_congr hfg
theorem of_one {b : BytL} (h : b.wn ≤ 1000000) : sumD (wrS newH (brow [b]) 1) = digOf b.wf b.wn := by
  have h1 : lenS (brow [b]) 1 = b.wn := Nat.zero_add _
  rw [(stands_S (brow [b]) 1 (by rw [h1]; omega)).sum (by rw [h1]; omega), h1]
  exact digOf_congr fun k hk => by
    show catU (fun _ => 0) 0 b.wf k = _
    unfold catU; rw [if_neg (by omega), Nat.sub_zero]
/-- A law's own run. -/
theorem famTB_holds {b : BytL} {w : World} (hT : FamH famT w) (hb : FamH (famB b) w) : FamH (famTB b) w := hold_or hT hb
end Go.Eng
namespace Go.Eng
open Go.RowKit Go.WideShapes Go.ChangeShapes Go.ChangeAt Go.Deep
theorem tabK (l : List Nat) (n : Nat) (hn : l.length = n) (hl : l.all (fun z => decide (z < 4294967296)) = true) (r : Nat) (hr : r < n) : Value.int .u32 ((l.map fun z : Nat => (z : Int)).getD r 0) = u32 (UInt32.ofNat (l.getD r 0)) := by
  have h1 : r < l.length := by omega
  have h2 : l[r] < 4294967296 := by
    have := List.all_eq_true.1 hl l[r] (List.getElem_mem h1)
    simpa using this
  simp only [List.getD, List.getElem?_map, List.getElem?_eq_getElem h1, Option.map_some, Option.getD_some]
  unfold u32
  rw [UInt32.toNat_ofNat', Nat.mod_eq_of_lt (by simpa using h2)]
theorem famT_cells {W : World} (h0 : ∀ r, r < 8 → W.cell? ⟨0, r, none⟩ = some (.int .u32 ((begK.map fun z : Nat => (z : Int)).getD r 0))) (h1 : ∀ r, r < 64 → W.cell? ⟨1, r, none⟩ = some (.int .u32 ((rndK.map fun z : Nat => (z : Int)).getD r 0))) : FamH famT W := fun b hb => by
  rcases hb with rfl | rfl
  · refine ⟨⟨lt_of_cell (h0 0 (by omega)), fun o v ho => ?_, (fun h => by cases h), obj_not rfl⟩, rfl⟩
    have ho' : (litF 8 fun k => u32 (begW k)).get o = some v := ho
    rw [← get_tabF] at ho'
    by_cases hl : o < 8
    · rw [tabF_in hl] at ho'
      show W.cell? ⟨0, 0 + o, none⟩ = some v
      rw [Nat.zero_add, h0 o hl, ← ho', tabK begK 8 rfl (by decide +kernel) o hl]; rfl
    · rw [tabF_out hl] at ho'; cases ho'
  · refine ⟨⟨lt_of_cell (h1 0 (by omega)), fun o v ho => ?_, (fun h => by cases h), obj_not rfl⟩, rfl⟩
    have ho' : (tabF 64 fun k => u32 (rndW k)).get o = some v := ho
    by_cases hl : o < 64
    · rw [tabF_in hl] at ho'
      show W.cell? ⟨1, 0 + o, none⟩ = some v
      rw [Nat.zero_add, h1 o hl, ← ho', tabK rndK 64 rfl (by decide +kernel) o hl]; rfl
    · rw [tabF_out hl] at ho'; cases ho'
end Go.Eng
namespace Go.Eng
/-- Families of two slices of bytes. -/
def fam3 (a b : BytL) (x : Blk) : Prop := famT x ∨ famB a x ∨ famB b x
theorem fam3_holds {a b : BytL} {w : World} (hT : FamH famT w) (ha : FamH (famB a) w) (hb : FamH (famB b) w) : FamH (fam3 a b) w := hold_or hT (hold_or ha hb)
theorem stands_first {g : Nat → UInt8} {m : Nat} (hm : m < 18446744073709551616) : Stands (wrH newH g m) g m := by
  have h := (stands_new g).write (g := g) (m := m) (by omega)
  rw [Nat.zero_add] at h
  exact h.congr fun k _ => by unfold catU; rw [if_neg (by omega), Nat.sub_zero]
theorem stands_nil {H : HS} {f g : Nat → UInt8} {n : Nat} (h : Stands H f n) (hn : n < 18446744073709551616) : Stands (wrH H g 0) f n :=
  (h.write (g := g) (m := 0) (by omega)).congr fun k hk => by unfold catU; rw [if_pos (by omega)]
theorem nothing_end {a b : BytL} (ha : a.wn ≤ 300) (hb : b.wn ≤ 300) {g : Nat → UInt8} :
    sumD (wrH newH a.wf a.wn) = sumD (wrH (wrH newH a.wf a.wn) g 0) ∧ (wrH (wrH newH a.wf a.wn) g 0).n = UInt64.ofNat a.wn ∧ (wrH (wrH (wrH newH a.wf a.wn) g 0) b.wf b.wn).n = (wrH (wrH newH a.wf a.wn) g 0).n + UInt64.ofNat b.wn := by
  have h1 := stands_first (g := a.wf) (m := a.wn) (by omega)
  have h2 := stands_nil (g := g) h1 (by omega)
  have h3 := h2.write (g := b.wf) (m := b.wn) (by omega)
  refine ⟨h1.alike h2 (by omega) fun _ _ => rfl, h2.num, ?_⟩
  rw [h3.num, h2.num]
  apply UInt64.toNat_inj.1
  simp only [UInt64.toNat_add, UInt64.toNat_ofNat']
  omega
/-- What three parts make. -/
theorem stands_three {f : Nat → UInt8} {i j n : Nat} (hi : i ≤ j) (hj : j ≤ n) (hn : n ≤ 1000000) : Stands (wrH (wrH (wrH newH f i) (fun k => f (k + i)) (j - i)) (fun k => f (k + j)) (n - j)) f n := by
  have h1 := stands_first (g := f) (m := i) (by omega)
  have h2 := h1.write (g := fun k => f (k + i)) (m := j - i) (by omega)
  rw [show i + (j - i) = j by omega] at h2
  have h2' : Stands (wrH (wrH newH f i) (fun k => f (k + i)) (j - i)) f j := h2.congr fun k hk => by
    unfold catU
    by_cases hk1 : k < i
    · rw [if_pos hk1]
    · rw [if_neg hk1]; exact congrArg f (Nat.sub_add_cancel (by omega))
  have h3 := h2'.write (g := fun k => f (k + j)) (m := n - j) (by omega)
  rw [show j + (n - j) = n by omega] at h3
  exact h3.congr fun k hk => by
    unfold catU
    by_cases hk1 : k < j
    · rw [if_pos hk1]
    · rw [if_neg hk1]; exact congrArg f (Nat.sub_add_cancel (by omega))
theorem stands_four {b : BytL} {i j : Nat} (hi : i ≤ j) (hj : j ≤ b.wn) (hn : b.wn ≤ 1000000) : Stands (wrS newH (brow [bytT b i, bytZ none 0, bytF (bytT b j) i, bytF b j]) 4) b.wf b.wn := by
  show Stands (wrH (wrH (wrH (wrH newH b.wf i) (fun _ => 0) 0) (fun k => b.wf (k + i)) (j - i)) (fun k => b.wf (k + j)) (b.wn - j)) b.wf b.wn
  have h1 := stands_nil (g := fun _ => 0) (stands_first (g := b.wf) (m := i) (by omega)) (by omega)
  have h2 := h1.write (g := fun k => b.wf (k + i)) (m := j - i) (by omega)
  rw [show i + (j - i) = j by omega] at h2
  have h2' : Stands (wrH (wrH (wrH newH b.wf i) (fun _ => 0) 0) (fun k => b.wf (k + i)) (j - i)) b.wf j := h2.congr fun k hk => by
    unfold catU
    by_cases hk1 : k < i
    · rw [if_pos hk1]
    · rw [if_neg hk1]; exact congrArg b.wf (Nat.sub_add_cancel (by omega))
  have h3 := h2'.write (g := fun k => b.wf (k + j)) (m := b.wn - j) (by omega)
  rw [show j + (b.wn - j) = b.wn by omega] at h3
  exact h3.congr fun k hk => by
    unfold catU
    by_cases hk1 : k < j
    · rw [if_pos hk1]
    · rw [if_neg hk1]; exact congrArg b.wf (Nat.sub_add_cancel (by omega))
theorem pieces_end {b : BytL} {i j : Nat} (hi : i ≤ j) (hj : j ≤ b.wn) (hn : b.wn ≤ 500) :
    sumD (wrH (wrH (wrH newH b.wf i) (fun k => b.wf (k + i)) (j - i)) (fun k => b.wf (k + j)) (b.wn - j)) = sumD (wrS newH (brow [b]) 1) ∧
    sumD (wrH (wrH (wrH newH b.wf i) (fun k => b.wf (k + i)) (j - i)) (fun k => b.wf (k + j)) (b.wn - j)) = sumD (wrS newH (brow [bytT b i, bytZ none 0, bytF (bytT b j) i, bytF b j]) 4) := by
  have h := stands_three (f := b.wf) hi hj (by omega)
  refine ⟨?_, h.alike (stands_four hi hj (by omega)) (by omega) fun _ _ => rfl⟩
  rw [of_one (by omega), h.sum (by omega)]
section
variable {P : Program} {t e : TypeId} {x y z : Operand}
theorem is_slqPart (ht : P.underlying t = some (.slice e)) {sz : Nat} (hs : sizeB P e = some sz) (wa : Option Addr) (len cap i j : Nat) (hi : i ≤ j ∧ j ≤ cap) :
    IsOp P (.slice t x (some y) (some z) none) [.slice wa len cap, nat i, nat j] (.slice (fromA wa cap i sz) (j - i) (cap - i)) := by
  intro ρ o' ho hv
  rw [ho] at hv
  have hv' : [ρ x, ρ y, ρ z] = [Value.slice wa len cap, nat i, nat j] := hv
  injection hv' with h1 hv'
  injection hv' with h2 hv'
  injection hv' with h3 _
  unfold execOp
  rw [ho]
  simp only [Option.map]
  show pureRun P (Sem.bind (Instr.sliceAt t (ρ x) (some (ρ y)) (some (ρ z)) none) fun v => Sem.pure (Next.value v)) = _
  rw [pureRun_bind, h1, h2, h3]
  have hi' : 0 ≤ (i : Int) ∧ (i : Int) ≤ (j : Int) := by omega
  have hj' : 0 ≤ (j : Int) ∧ (j : Int) ≤ (cap : Int) := by omega
  have e : pureRun P (Instr.sliceAt t (.slice wa len cap) (some (nat i)) (some (nat j)) none) = some (.slice (fromA wa cap i sz) (j - i) (cap - i)) := by
    simp only [Instr.sliceAt, Instr.slice, Instr.sliceBounds, Instr.sliceBound, nat, pureRun_bind', asIntOf, pureRun, pure, pureRun_underlying ht, hi', hj', and_self, if_true, pureRun_sizeOf hs, Int.toNat_natCast]
    rfl
  rw [e]
  rfl
end
end Go.Eng
namespace Go.Eng
/-- A call whose family follows from another one, block by block of the same names. -/
theorem RunsF.lendP {F F' : Blk → Prop} {P : Program} {f : FuncId} {args : List Value} {bs : List Blk} {k : Nat} {v : List Nat → Value} {out : List Nat → List (Option Blk)}
    (hF : ∀ w : World, FamH F' w → FamH F w) (hn : ∀ x, F x → ∃ y, F' y ∧ y.name = x.name) (h : RunsF F P f args bs k v out) : RunsF F' P f args bs k v out := fun w hb ha hF' => h w hb ha fun b hb' => by
  obtain ⟨h1, h2⟩ := hF w (fun x hx => ⟨(hF' x hx).1, (hF' x hx).2.1⟩) b hb'
  obtain ⟨y, hy, he⟩ := hn b hb'
  exact ⟨h1, h2, by rw [← he]; exact (hF' y hy).2.2⟩
theorem part_name {b c : BytL} {x : Blk} (h : 0 < c.wn → 0 < b.wn) (hx : famTB c x) (hb : c.wb = b.wb := by rfl) : ∃ y, famTB b y ∧ y.name = x.name := by
  rcases hx with hx | ⟨h0, rfl⟩
  · exact ⟨x, .inl hx, rfl⟩
  · exact ⟨bytB b, .inr ⟨h h0, rfl⟩, hb.symm⟩
end Go.Eng
namespace Go.Eng
theorem famTS_holds {q : BytS} {w : World} (hT : FamH famT w) (hq : FamH (famS q) w) : FamH (famTS q) w := hold_or hT hq
theorem lenS_le {f : Nat → BytL} : ∀ {n : Nat}, (∀ k, k < n → (f k).wn ≤ 200) → lenS f n ≤ 200 * n
  | 0, _ => Nat.le_refl _
  | n + 1, h => by
    have h1 := lenS_le (f := f) (n := n) fun k hk => h k (by omega)
    have h2 := h n (by omega)
    show lenS f n + (f n).wn ≤ _
    omega
/-- What ShaGoes' loop keeps. -/
structure GoesR (f : Nat → BytL) (i : Nat) (G Z : HS) (A : Grw UInt8) : Prop where
  g : Stands G (catS f i) (lenS f i)
  z : Stands Z (catS f i) (lenS f i)
  n : A.n = lenS f i
  ff : ∀ k, k < A.n → A.f k = catS f i k
  nil : A.z = true → A.n = 0
  le : lenS f i ≤ 200 * i
theorem goes_init {f : Nat → BytL} : GoesR f 0 newH newH (Grw.mk true 0 0 0 (fun _ => 0)) := ⟨stands_new _, stands_new _, rfl, fun k hk => absurd hk (Nat.not_lt_zero _), fun _ => rfl, Nat.le_refl _⟩
section
variable {f : Nat → BytL} {i : Nat} {G Z : HS} {A : Grw UInt8}
theorem goes_next (h : GoesR f i G Z A) (hi : i < 10) (hl : (f i).wn ≤ 200) {A' : Grw UInt8} (hn : A'.n = lenS f i + (f i).wn) (hf : ∀ k, k < A'.n → A'.f k = catU (catS f i) (lenS f i) (f i).wf k) (hz : A'.z = true → A'.n = 0) :
    GoesR f (i + 1) (wrH G (f i).wf (f i).wn) (wrH Z (f i).wf (f i).wn) A' := by
  have hle := h.le
  refine ⟨h.g.write (by omega), h.z.write (by omega), hn, hf, hz, ?_⟩
  show lenS f i + (f i).wn ≤ _
  omega
theorem goes_same (h : GoesR f i G Z A) (hi : i < 10) (hl : (f i).wn ≤ 200) (h0 : ¬ 0 < (f i).wn) {n : Nat} {g : Nat → UInt8} (hn : n = lenS f i) (hf : ∀ k, k < n → g k = catS f i k) : n = lenS f i + (f i).wn ∧ ∀ k, k < n → g k = catU (catS f i) (lenS f i) (f i).wf k := by
  refine ⟨by omega, fun k hk => ?_⟩
  unfold catU
  rw [if_pos (by omega), hf k hk]
theorem goes_first (h : GoesR f i G Z A) (hz : A.z = true) : lenS f i = 0 := by have := h.nil hz; rw [← h.n, this]
theorem goes_digs (h : GoesR f i G Z A) (hi : i < 10) (hl : (f i).wn ≤ 200) {n : Nat} {g : Nat → UInt8} (hn : n = lenS f i + (f i).wn) (hf : ∀ k, k < n → g k = catU (catS f i) (lenS f i) (f i).wf k) :
    sumD (wrH G (f i).wf (f i).wn) = digOf g n ∧ sumD (wrH G (f i).wf (f i).wn) = sumD (wrH Z (f i).wf (f i).wn) ∧ (wrH G (f i).wf (f i).wn).n = UInt64.ofNat n := by
  have hle := h.le
  have h1 := h.g.write (g := (f i).wf) (m := (f i).wn) (by omega)
  have h2 := h.z.write (g := (f i).wf) (m := (f i).wn) (by omega)
  subst hn
  refine ⟨?_, h1.alike h2 (by omega) fun _ _ => rfl, h1.num⟩
  rw [h1.sum (by omega)]
  exact digOf_congr fun k hk => (hf k hk).symm
theorem goes_cat (h : GoesR f i G Z A) : A.n + (f i).wn = lenS f i + (f i).wn ∧ ∀ k, k < A.n + (f i).wn → catU A.f A.n (f i).wf k = catU (catS f i) (lenS f i) (f i).wf k := by
  refine ⟨by rw [h.n], fun k hk => ?_⟩
  unfold catU
  rw [← h.n]
  by_cases h1 : k < A.n
  · rw [if_pos h1, if_pos h1, h.ff k h1]
  · rw [if_neg h1, if_neg h1]
theorem goes_new (h : GoesR f i G Z A) (hz : A.z = true) : (f i).wn = lenS f i + (f i).wn ∧ ∀ k, k < (f i).wn → (f i).wf k = catU (catS f i) (lenS f i) (f i).wf k := by
  have h0 := goes_first h hz
  refine ⟨by omega, fun k hk => ?_⟩
  unfold catU
  rw [if_neg (by omega), h0, Nat.sub_zero]
theorem goes_none (h : GoesR f i G Z A) (hz : A.z = true) (h0 : ¬ 0 < (f i).wn) {g : Nat → UInt8} : 0 = lenS f i + (f i).wn ∧ ∀ k, k < 0 → g k = catU (catS f i) (lenS f i) (f i).wf k := by
  have h1 := goes_first h hz
  exact ⟨by omega, fun k hk => absurd hk (Nat.not_lt_zero _)⟩
theorem goes_keep (h : GoesR f i G Z A) (h0 : ¬ 0 < (f i).wn) : A.n = lenS f i + (f i).wn ∧ ∀ k, k < A.n → A.f k = catU (catS f i) (lenS f i) (f i).wf k := by
  refine ⟨by rw [h.n]; omega, fun k hk => ?_⟩
  unfold catU
  have := h.n
  rw [if_pos (by omega), h.ff k hk]
end
end Go.Eng
