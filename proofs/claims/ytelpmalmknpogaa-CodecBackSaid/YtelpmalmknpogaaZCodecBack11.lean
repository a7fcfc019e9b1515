/-
  Many in one: Str, CodW, CodDw.
-/
import Derived.Test.YtelpmalmknpogaaZCodecBack10
import Derived.Deep.AppendSrc
import Derived.Lib.ConvBytes
section
namespace Go.Eng
set_option linter.unusedSimpArgs false
set_option linter.unusedVariables false
set_option maxRecDepth 100000
def appXSem (t tx ty : TypeId) (x y : Value) : Sem Next := do pure (.value (← Builtin.append_ #[t, tx] ty #[x, y]))
theorem listMem_one (x x' : Blk) : memApply (listMem [some x]) [(0, some x')] = listMem [some x'] := by
  funext p
  rcases p with _ | p <;> rfl
section
variable {P : Program} {t tx ty e : TypeId} {i : TypeInfo} {z : Value}
theorem arun_append_src (ht : P.underlying t = some (.slice e)) (hi : P.info? e = some i) (hz : i.zero = some z) (hsz : i.size = 1) (hzc : z.cells = #[z])
    {b len r n : Nat} {g h : Nat → Value} {x : Value} (w : World) (hall : ∀ c ∈ [(⟨b, true, 0, spr (len + r) len g z⟩ : Blk)], Holds c w) (ha : Apart (listMem ([(⟨b, true, 0, spr (len + r) len g z⟩ : Blk)].map some)))
    (hsrc : Go.Src P 1 tx x n ((List.range n).map h) w)
    (hb : (len + n) * i.bytes ≤ 140737488355328) (hb2 : len + n ≤ 9223372036854775807) :
    ∃ (ns : List Nat) (w' : World), ns.length = 2 ∧ (((appXSem t tx ty (.slice (some ⟨b, 0, none⟩) len (len + r)) x).run P w = .ok (.value (.slice (some ⟨ns.getD 0 0, 0, none⟩) (len + n) (len + n + ns.getD 1 0))) w') ∨
        ((appXSem t tx ty (.slice (some ⟨b, 0, none⟩) len (len + r)) x).run P w = .ok .skip w' ∧ Value.slice (some ⟨ns.getD 0 0, 0, none⟩) (len + n) (len + n + ns.getD 1 0) = undef)) ∧
      Post (listMem ([(⟨b, true, 0, spr (len + r) len g z⟩ : Blk)].map some)) w (listMem [some ⟨ns.getD 0 0, true, 0, spr (len + n + ns.getD 1 0) (len + n) (catV g len h) z⟩]) w' := by
  have hA : Holds ⟨b, true, 0, spr (len + r) len g z⟩ w := hall _ (by simp)
  have hm : ∀ p c, listMem [some ⟨b, true, 0, spr (len + r) len g z⟩] p = some c → Holds c w := fun p c hc => hall c (List.mem_of_getElem? (listMem_some (l := [⟨b, true, 0, spr (len + r) len g z⟩]).1 hc))
  by_cases hr : n ≤ r
  · have hget : ∀ j, j < n → (spr (len + r) len g z).get (len + j) = some z := fun j hj => by
      rw [spr, tabF_in (by omega), if_neg (by omega)]
    have hrun := run_append_room_src (P := P) w t tx ty e i ht hi b 0 len (len + r) x n ((List.range n).map h) (by rw [hsz]; exact hsrc) (by omega)
      (fun j hj => by
        have hj' : j < n := by simpa using hj
        have := hA.cell _ _ (hget j hj')
        rw [show 0 + len * i.size + j = 0 + (len + j) by rw [hsz]; omega, this]; rfl)
      (fun j hj => by
        have hj' : j < n := by simpa using hj
        have := hA.free rfl _ _ (hget j hj')
        rw [show 0 + len * i.size + j = 0 + (len + j) by rw [hsz]; omega]; exact this)
    have hrun2 : (Builtin.append_ #[t, tx] ty #[.slice (some ⟨b, 0, none⟩) len (len + r), x]).run P w = .ok (.slice (some ⟨b, 0, none⟩) (len + n) (len + n + (r - n))) (w.setCells b (0 + len * i.size) ((List.range n).map h)) := by
      rw [show len + n + (r - n) = len + r by omega]; exact hrun
    refine ⟨[b, r - n], _, rfl, .inl (run_value hrun2), ?_⟩
    have hp := post_cells (m := listMem [some ⟨b, true, 0, spr (len + r) len g z⟩]) (w := w) (p := 0) (b := ⟨b, true, 0, spr (len + r) len g z⟩) (o0 := len) (cs := (List.range n).map h)
      (c := spr (len + r) (len + n) (catV g len h) z) hm ha rfl rfl rfl rfl (fun j hj => ⟨z, hget j (by simpa using hj)⟩) (fun j => by
        have hlen : ((List.range n).map h).length = n := by simp
        rw [hlen]
        by_cases hj : j < len + r
        · rw [spr, spr, tabF_in hj, tabF_in hj]
          by_cases h2 : j < len
          · rw [if_neg (show ¬ (len ≤ j ∧ j < len + n) by omega), if_pos h2, if_pos (show j < len + n by omega), catV, if_pos h2]
          · by_cases h3 : j < len + n
            · rw [if_pos (show len ≤ j ∧ j < len + n by omega), if_pos h3, catV, if_neg h2, List.getElem?_map, List.getElem?_range (by omega)]; rfl
            · rw [if_neg (show ¬ (len ≤ j ∧ j < len + n) by omega), if_neg h3, if_neg h2]
        · rw [spr, spr, tabF_out hj, tabF_out hj, if_neg (show ¬ (len ≤ j ∧ j < len + n) by omega)])
    rw [listMem_one] at hp
    have e1 : len + n + (r - n) = len + r := by omega
    simpa [hsz, e1] using hp
  · have hg : len + r < len + n := by omega
    have hold : (Builtin.firstCells i.size len (.slice (some ⟨b, 0, none⟩) len (len + r))).run P w.drew = .ok ((List.range len).map g).toArray w.drew :=
      run_firstCells_some w.drew i.size len ⟨b, 0, none⟩ len (len + r) ((List.range len).map g) (by simp [hsz]) (fun j v hj => by
        obtain ⟨hjn, rfl⟩ := map_range_get hj
        rw [add_none, Nat.zero_add]
        have := hA.cell j (g j) (by rw [spr, tabF_in (by omega), if_pos hjn])
        rw [Nat.zero_add] at this
        simpa using this)
    have hrun := run_append_grow_src (P := P) w t tx ty e i z ht hi hz (some ⟨b, 0, none⟩) len (len + r) ((List.range len).map g) hold x n ((List.range n).map h) (by rw [hsz]; exact hsrc) hg (by omega) (growslice_fits hg hb)
    have hge := grownCap_ge w (len + n) (len + r) e
    obtain ⟨q, hq⟩ : ∃ q, grownCap w (len + n) (len + r) e = len + n + q := ⟨_, (Nat.add_sub_cancel' hge).symm⟩
    rw [hq] at hrun
    refine ⟨[w.heap.size, q], _, rfl, .inl (run_value hrun), ?_⟩
    have hp0 := Post.drew hm ha
    have hp := hp0.trans (post_new hp0.holds hp0.apart 0 (((List.range len).map g ++ (List.range n).map h).toArray ++ Builtin.zeroCells z.cells (len + n + q - (len + n))) e)
    rw [show w.drew.heap.size = w.heap.size from rfl, listMem_one] at hp
    have hc : ∀ o v, (spr (len + n + q) (len + n) (catV g len h) z).get o = some v →
        (Cont.lit (((List.range len).map g ++ (List.range n).map h).toArray ++ Builtin.zeroCells z.cells (len + n + q - (len + n))).toList).get o = some v := fun o v ho => by
      rw [hzc, show len + n + q - (len + n) = q by omega]
      simp only [Cont.get, Array.toList_append, List.append_assoc, zeroCells_one]
      by_cases h0 : o < len + n + q
      · rw [spr, tabF_in h0] at ho
        by_cases h2 : o < len
        · rw [if_pos (by omega), catV, if_pos h2] at ho
          rw [List.getElem?_append_left (by simp; exact h2), List.getElem?_map, List.getElem?_range h2]; exact ho
        · rw [List.getElem?_append_right (by simp; omega)]
          by_cases h3 : o < len + n
          · rw [if_pos h3, catV, if_neg h2] at ho
            rw [List.getElem?_append_left (by simp; omega), List.getElem?_map]
            simp only [List.length_map, List.length_range]
            rw [List.getElem?_range (by omega)]; exact ho
          · rw [if_neg h3] at ho
            rw [List.getElem?_append_right (by simp; omega), List.getElem?_replicate, if_pos (by simp; omega)]; exact ho
      · rw [spr, tabF_out h0] at ho; cases ho
    have hN := (hp.holds 0 _ rfl).recont rfl hc
    refine ⟨fun p c hpc => ?_, fun p p' c d hpp hc1 hd ho => ?_, ⟨hp.adv.os, hp.adv.output, hp.adv.tape, hp.adv.size, hp.adv.heap, fun j hj => ?_, fun p c hpc ho => ?_⟩⟩
    · rcases p with _ | p
      · injection hpc with hpc; subst hpc; exact hN
      · simp [listMem] at hpc
    · rcases p with _ | p
      · rcases p' with _ | p'
        · exact absurd rfl hpp
        · simp [listMem] at hd
      · simp [listMem] at hc1
    · obtain ⟨p, c, hpc, ho, hjk⟩ := hj
      rcases p with _ | p
      · injection hpc with hpc; subst hpc; exact hp.adv.names _ ⟨0, _, rfl, rfl, hjk⟩
      · simp [listMem] at hpc
    · rcases p with _ | p
      · injection hpc with hpc; subst hpc; cases ho
      · simp [listMem] at hpc
end
theorem srunF_append_rec {P : Program} {t ty e : TypeId} {B : Nat} {F : Blk → Prop} (ht : P.underlying t = some (.slice e)) (h1 : OneC P e (u8 0) B) (b len r : Nat) (g : Nat → UInt8) (x : BytL) (hx : OkB x) (hF : ∀ c, famB x c → F c)
    (hb : (len + x.wn) * B ≤ 140737488355328 ∧ len + x.wn ≤ 9223372036854775807) :
    SRunsF F P (appXSem t t ty (.slice (some ⟨b, 0, none⟩) len (len + r)) (.slice x.wa x.wn x.wc)) [⟨b, true, 0, spr (len + r) len (fun k => u8 (g k)) (u8 0)⟩] 2
      (fun ns => .slice (some ⟨ns.getD 0 0, 0, none⟩) (len + x.wn) (len + x.wn + ns.getD 1 0))
      (fun ns => [some ⟨ns.getD 0 0, true, 0, spr (len + x.wn + ns.getD 1 0) (len + x.wn) (fun k => u8 (catU g len x.wf k)) (u8 0)⟩]) := by
  obtain ⟨i, hi, hz, hsz, hB, hzc⟩ := h1
  subst hB
  intro w hall ha hfam
  have hsrc : Go.Src P 1 t (.slice x.wa x.wn x.wc) x.wn ((List.range x.wn).map fun k => u8 (x.wf k)) w := by
    rcases Nat.eq_zero_or_pos x.wn with h0 | h0
    · rw [h0]
      cases hxa : x.wa with
      | none => exact Go.Src.ofNil w ht x.wc
      | some a => exact Go.Src.ofSlice w ht a 0 x.wc [] (by simp) (fun j u hj => by simp at hj) (fun u hu => by cases hu)
    · rw [hx.ad h0]
      have hH := (hfam _ (hF _ ⟨h0, rfl⟩)).1
      refine Go.Src.ofSlice w ht _ x.wn x.wc _ (by simp) (fun j u hj => ?_) (fun u hu => ?_)
      · obtain ⟨hjn, rfl⟩ := map_range_get hj
        have := hH.cell j (u8 (x.wf j)) (by show (tabF x.wn _).get j = _; rw [tabF_in hjn])
        rw [add_none]; exact this
      · obtain ⟨_, _, rfl⟩ := List.mem_map.1 hu; rfl
  have := arun_append_src (P := P) (t := t) (tx := t) (ty := ty) ht hi hz hsz hzc (b := b) (len := len) (r := r) (n := x.wn) (g := fun k => u8 (g k)) (h := fun k => u8 (x.wf k)) (x := .slice x.wa x.wn x.wc) w hall ha hsrc hb.1 hb.2
  rw [catV_K] at this
  exact this
end Go.Eng
end
section
set_option linter.unusedSimpArgs false
set_option linter.unusedVariables false
set_option maxRecDepth 100000
namespace Go.Eng
theorem is_quo64 {P : Program} {t t' : TypeId} {x y : Operand} (a b : UInt64) (hb : b.toNat ≠ 0) : IsOp P (.binOp .quo t x y t') [u64 a, u64 b] (u64 (a / b)) := isOp_bin guard_int (by
  show pureRun P (Op.intDiv .quo .u64 (a.toNat : Int) (b.toNat : Int)) = _
  unfold Op.intDiv
  rw [if_neg (by omega)]
  show some (Value.int .u64 (IntKind.u64.wrap (Int.tdiv (a.toNat : Int) b.toNat))) = _
  rw [wrap_u64, u64, UInt64.toNat_div]; congr 2
  rw [Int.tdiv_eq_ediv_of_nonneg (by omega), ← Int.natCast_ediv]
  have h3 : a.toNat / b.toNat < 18446744073709551616 := Nat.lt_of_le_of_lt (Nat.div_le_self _ _) a.toNat_lt
  rw [show (18446744073709551616 : Int) = ((18446744073709551616 : Nat) : Int) from rfl, ← Int.natCast_emod, Nat.mod_eq_of_lt h3])
theorem rsm_u8 {x y : UInt64} {c : Nat} (h : y.toNat = x.toNat / 256 ^ c) : (y % 256).toUInt8 = UInt8.ofNat (x.toNat / 256 ^ c % 256) := by
  apply UInt8.toNat_inj.1
  rw [UInt64.toNat_toUInt8, UInt64.toNat_mod, h, UInt8.toNat_ofNat']
  show x.toNat / 256 ^ c % 256 % 256 = x.toNat / 256 ^ c % 256 % 256
  rfl
theorem rsm_pos {y : UInt64} (h : 0 < y) : 0 < y.toNat := by
  rw [UInt64.lt_iff_toNat_lt] at h; exact h
theorem rsm_npos {y : UInt64} (h : ¬ 0 < y) : y.toNat = 0 := by
  rw [UInt64.lt_iff_toNat_lt] at h
  have h1 : ¬ 0 < y.toNat := h
  omega
theorem rsm_step {x y : UInt64} {c : Nat} {B : Grw UInt8} (hn : B.n = c) (hy : y.toNat = x.toNat / 256 ^ c) (hf : ∀ k, k < c → B.f k = UInt8.ofNat (dig x.toNat (c - 1 - k))) (h0 : 0 < y) (a r : Nat) :
    ((⟨false, a, 1 + B.n, r, catU (fun _ => (y % 256).toUInt8) 1 B.f⟩ : Grw UInt8).ok ∧ 1 + B.n = c + 1 ∧ (y / 256).toNat = x.toNat / 256 ^ (c + 1) ∧
    (∀ k, k < c + 1 → catU (fun _ => (y % 256).toUInt8) 1 B.f k = UInt8.ofNat (dig x.toNat (c + 1 - 1 - k))) ∧ (c + 1 ≠ 0 → x.toNat / 256 ^ (c + 1 - 1) ≠ 0) ∧ c + 1 ≤ 8) ∧ (y / 256).toNat < y.toNat := by
  have h1 := rsm_pos h0
  have h2 : (y / 256).toNat = y.toNat / 256 := by rw [UInt64.toNat_div]; rfl
  refine ⟨⟨(fun h => by cases h), by omega, by rw [h2, hy, Nat.div_div_eq_div_mul, ← Nat.pow_succ], fun k hk => ?_, fun _ => ?_, ?_⟩, by omega⟩
  · rw [rsm_u8 hy]; exact rsm_next hf k hk
  · show x.toNat / 256 ^ c ≠ 0; omega
  · rcases Nat.lt_or_ge c 8 with h | h
    · omega
    · exfalso
      have h3 : 256 ^ 8 ≤ 256 ^ c := Nat.pow_le_pow_right (by omega) h
      have h4 := x.toNat_lt
      have h5 : x.toNat / 256 ^ c = 0 := Nat.div_eq_of_lt (Nat.lt_of_lt_of_le h4 h3)
      omega
theorem rsm_len {x y : UInt64} {c : Nat} {B : Grw UInt8} (hn : B.n = c) (hy : y.toNat = x.toNat / 256 ^ c) (h2 : c ≠ 0 → x.toNat / 256 ^ (c - 1) ≠ 0) (h0 : ¬ 0 < y) : szU x = B.n := by
  have h1 := rsm_npos h0
  rw [hn]; exact (rsm_end (by omega) h2).symm
def smT (x : UInt64) : Nat → UInt8 := fun k => smB x (k + 1)
theorem rsm_row {x y : UInt64} {c : Nat} {B : Grw UInt8} (hn : B.n = c) (hf : ∀ k, k < c → B.f k = UInt8.ofNat (dig x.toNat (c - 1 - k))) (h : szU x = B.n) : ∀ k, k < B.n → smT x k = B.f k := fun k hk => by
  subst hn
  rw [hf k hk]
  show smB x (k + 1) = _
  rw [smB_dig x (by omega) (by omega), h, show B.n - 1 - k = B.n - (k + 1) by omega]
theorem smT_all (x : UInt64) : catU (fun _ => UInt8.ofNat (szU x)) 1 (smT x) = smB x := by
  funext k
  unfold catU
  by_cases h : k < 1
  · rw [if_pos h, show k = 0 by omega]; unfold smB; rw [if_pos rfl]
  · rw [if_neg h]; show smB x (k - 1 + 1) = _; rw [show k - 1 + 1 = k by omega]
theorem smT_len (x : UInt64) : 1 + szU x = smN x := by unfold smN; omega
end Go.Eng
namespace Go.Eng
structure NatL where
  la : Option Addr
  ln : Nat
  lc : Nat
  lb : Nat
  lo : Nat
  lf : Nat → N4
def natLV (q : NatL) : Value := .slice q.la q.ln q.lc
def natLB (q : NatL) : Blk := ⟨q.lb, false, q.lo, tabN q.ln q.lf⟩
structure OkNL (q : NatL) : Prop where
  cap : q.ln ≤ q.lc
  ad : 0 < q.ln → q.la = some ⟨q.lb, q.lo, none⟩
  len : q.ln ≤ 9223372036854775807
def famNL (q : NatL) (b : Blk) : Prop := 0 < q.ln ∧ b = natLB q
instance : Inhabited NatL := ⟨⟨none, 0, 0, 0, 0, fun _ => N4.mk 0 0 0 0⟩⟩
end Go.Eng
end
section
namespace Go.Proofs.Ytelpmalmknpogaa
open Go Go.Eng
set_option linter.unusedVariables false
set_option linter.unusedSimpArgs false
set_option maxRecDepth 100000
set_option maxHeartbeats 1000000
theorem aggb5 : AggC Try.prog 5 [u8 0] 1 1 := aggC_of (z := u8 0) (by kernel_rfl) rfl rfl (by decide)
def rsmall0_S1 (x : UInt64) (x1 : Nat × (Grw UInt8) × UInt64) : St := ⟨[(0, .v (u64 x1.2.2)), (3, .v (gsV x1.2.1))], [(0, (gsE u8C [u8 0] 1 x1.2.1))], 1⟩
def rsmall0_R1 (x : UInt64) (x1 : Nat × (Grw UInt8) × UInt64) : Prop := x1.2.1.ok ∧ (x1.2.1.n = x1.1) ∧ (x1.2.2.toNat = x.toNat / 256 ^ x1.1) ∧ (∀ k, k < x1.1 → x1.2.1.f k = UInt8.ofNat (dig x.toNat (x1.1 - 1 - k))) ∧ (x1.1 ≠ 0 → x.toNat / 256 ^ (x1.1 - 1) ≠ 0) ∧ (x1.1 ≤ 8)
def rsmall0_mu1 (x : UInt64) (x1 : Nat × (Grw UInt8) × UInt64) : Nat := x1.2.2.toNat
theorem rsmall0 {F : Blk → Prop} (x : UInt64) : RunsO F Try.prog 24 [(u64 x)] [] 2 (fun (ns : List Nat) => (gsV (Grw.mk false (ns.getD 0 0) (1 + (szU x)) (ns.getD 1 0) (catU (fun _ => (UInt8.ofNat (szU x))) 1 (smT x))))) (fun (ns : List Nat) => [(gsE u8C [u8 0] 1 (Grw.mk false (ns.getD 0 0) (1 + (szU x)) (ns.getD 1 0) (catU (fun _ => (UInt8.ofNat (szU x))) 1 (smT x))))]) :=
  runsO_of_ev mix Try.func24 rfl rfl 400 (.reg [(0, .g)] (.keep [0, 2] [] 1 (.reg [(0, .g)] (.inv [0, 3] [0] 1 (rsmall0_R1 x) (rsmall0_S1 x) (rsmall0_mu1 x) ((0, (Grw.mk true 0 0 0 (fun _ => 0)), x) : Nat × (Grw UInt8) × UInt64) (fun (x1 : Nat × (Grw UInt8) × UInt64) => (.reg [(0, .g), (1, (.as (Value.bool (decide (0 < x1.2.2)))))] (.br (.regn [(0, .g), (1, (.as (u64 (x1.2.2 % 256)))), (2, (.as (u8 ((x1.2.2 % 256).toUInt8)))), (3, (.oth [] 1 1 (fun ns => Value.slice (some ⟨ns.getD 0 0, 0, none⟩) 1 1) (fun ns => [some ⟨ns.getD 0 0, true, 0, .lit [(u8 ((x1.2.2 % 256).toUInt8))]⟩]))), (4, .g), (5, (.othO [(1, false), (0, true)] 2 0 (fun ns => gsV (Grw.mk false (ns.getD 0 0) (1 + x1.2.1.n) (ns.getD 1 0) (catU (fun _ => ((x1.2.2 % 256).toUInt8)) 1 x1.2.1.f))) (fun ns => [(gsE u8C [u8 0] 1 (Grw.mk false (ns.getD 0 0) (1 + x1.2.1.n) (ns.getD 1 0) (catU (fun _ => ((x1.2.2 % 256).toUInt8)) 1 x1.2.1.f))), none]))), (6, .g)] (more (fun n1 => more (fun n2 => more (fun n3 => fun _ => (.renO 1 0 (.reg [(0, .g), (1, (.as (u64 (x1.2.2 / 256)))), (2, .g)] .done))))))) (.keep [3] [0] 1 (.told ⟨[(3, .v (gsV (reB x1.2.1 (szU x) (smT x))))], [(0, (gsE u8C [u8 0] 1 (reB x1.2.1 (szU x) (smT x))))], 1⟩ (.regn [(0, .g), (1, (.as (nat (szU x)))), (2, (.as (u8 (UInt8.ofNat (szU x))))), (3, (.oth [] 1 1 (fun ns => Value.slice (some ⟨ns.getD 0 0, 0, none⟩) 1 1) (fun ns => [some ⟨ns.getD 0 0, true, 0, .lit [(u8 (UInt8.ofNat (szU x)))]⟩]))), (4, .g), (5, (.othO [(1, false), (0, true)] 2 0 (fun ns => gsV (Grw.mk false (ns.getD 0 0) (1 + (szU x)) (ns.getD 1 0) (catU (fun _ => (UInt8.ofNat (szU x))) 1 (smT x)))) (fun ns => [(gsE u8C [u8 0] 1 (Grw.mk false (ns.getD 0 0) (1 + (szU x)) (ns.getD 1 0) (catU (fun _ => (UInt8.ofNat (szU x))) 1 (smT x)))), none]))), (6, .g)] (more (fun n4 => more (fun n5 => more (fun n6 => fun _ => .done)))))))))))))) [] [1] rfl
    (Eq.mp (by kernel_rfl) (And.intro (sk trivial) ((And.intro (sk trivial) (And.intro (show (rsmall0_R1 x) ((0, (Grw.mk true 0 0 0 (fun _ => 0)), x) : Nat × (Grw UInt8) × UInt64) from (show ((Grw.mk true 0 0 0 (fun _ => 0)).ok) ∧ ((Grw.mk true 0 0 0 (fun _ => 0)).n = 0) ∧ (x.toNat = x.toNat / 256 ^ 0) ∧ (∀ k, k < 0 → (Grw.mk true 0 0 0 (fun _ => 0)).f k = UInt8.ofNat (dig x.toNat (0 - 1 - k))) ∧ (0 ≠ 0 → x.toNat / 256 ^ (0 - 1) ≠ 0) ∧ (0 ≤ 8) from by exact ⟨fun _ => rfl, rfl, (Nat.div_one _).symm, fun k hk => absurd hk (Nat.not_lt_zero k), fun h => absurd rfl h, by decide⟩)) (And.intro (@rfl St ((rsmall0_S1 x) ((0, (Grw.mk true 0 0 0 (fun _ => 0)), x) : Nat × (Grw UInt8) × UInt64))) (fun (x1 : Nat × (Grw UInt8) × UInt64) (hx1 : (rsmall0_R1 x) x1) => have B0 : x1.2.1.ok := hx1.1; have B1 : x1.2.1.n = x1.1 := hx1.2.1; have B2 : x1.2.2.toNat = x.toNat / 256 ^ x1.1 := hx1.2.2.1; have B3 : ∀ k, k < x1.1 → x1.2.1.f k = UInt8.ofNat (dig x.toNat (x1.1 - 1 - k)) := hx1.2.2.2.1; have B4 : x1.1 ≠ 0 → x.toNat / 256 ^ (x1.1 - 1) ≠ 0 := hx1.2.2.2.2.1; have B5 : x1.1 ≤ 8 := hx1.2.2.2.2.2; And.intro (sk (And.intro (And.intro trivial (@is_gtr64 Try.prog 31 31 (.tmp 4) (.const (.int .u64 0)) x1.2.2 0)) trivial)) (And.intro trivial (And.intro (fun (h1 : (decide (0 < x1.2.2)) = true) => have f6 : (0 < x1.2.2) := (of_decide_eq_true h1); fun (n1 n2 n3 : Nat) => And.intro (sk (And.intro (And.intro trivial (@is_rem64 Try.prog 31 31 (.tmp 6) (.const (.int .u64 256)) x1.2.2 256 (by decide))) (And.intro (And.intro trivial (@conv_u64_u8 Try.prog 31 5 (.tmp 7) (by kernel_rfl) (by kernel_rfl) (x1.2.2 % 256))) (And.intro (And.intro trivial (mk_build (P := Try.prog) (t := 25) (e := 5) one5 1 #[(0, (u8 ((x1.2.2 % 256).toUInt8)))] #[(u8 ((x1.2.2 % 256).toUInt8))] (by kernel_rfl) (by decide) (by kernel_rfl))) (sk (And.intro (And.intro trivial (app_one (P := Try.prog) (t := 25) (ty := 25) (e := 5) (by kernel_rfl) aggb5 n1 ((x1.2.2 % 256).toUInt8) x1.2.1 (show (x1.2.1).ok from by assumption) (show (x1.2.1).n + 1 ≤ 140737488355328 from by have e0 : (x1.2.1).n = x1.2.1.n := rfl; omega))) (sk trivial))))))) (And.intro (fun b (h : (gsE u8C [u8 0] 1 (Grw.mk false n2 (1 + x1.2.1.n) n3 (catU (fun _ => ((x1.2.2 % 256).toUInt8)) 1 x1.2.1.f))) = some b) => gsE_ownG h) (And.intro (sk (And.intro (And.intro trivial (@is_quo64 Try.prog 31 31 (.tmp 12) (.const (.int .u64 256)) x1.2.2 256 (by decide))) (sk trivial))) ((rnd (rsmall0_R1 x) (rsmall0_S1 x) (rsmall0_mu1 x) x1 (((x1.1 + 1), (Grw.mk false n2 (1 + x1.2.1.n) n3 (catU (fun _ => ((x1.2.2 % 256).toUInt8)) 1 x1.2.1.f)), (x1.2.2 / 256)) : Nat × (Grw UInt8) × UInt64) (show (rsmall0_R1 x) (((x1.1 + 1), (Grw.mk false n2 (1 + x1.2.1.n) n3 (catU (fun _ => ((x1.2.2 % 256).toUInt8)) 1 x1.2.1.f)), (x1.2.2 / 256)) : Nat × (Grw UInt8) × UInt64) ∧ (rsmall0_mu1 x) (((x1.1 + 1), (Grw.mk false n2 (1 + x1.2.1.n) n3 (catU (fun _ => ((x1.2.2 % 256).toUInt8)) 1 x1.2.1.f)), (x1.2.2 / 256)) : Nat × (Grw UInt8) × UInt64) < (rsmall0_mu1 x) x1 from (show (((Grw.mk false n2 (1 + x1.2.1.n) n3 (catU (fun _ => ((x1.2.2 % 256).toUInt8)) 1 x1.2.1.f)).ok) ∧ ((Grw.mk false n2 (1 + x1.2.1.n) n3 (catU (fun _ => ((x1.2.2 % 256).toUInt8)) 1 x1.2.1.f)).n = (x1.1 + 1)) ∧ ((x1.2.2 / 256).toNat = x.toNat / 256 ^ (x1.1 + 1)) ∧ (∀ k, k < (x1.1 + 1) → (Grw.mk false n2 (1 + x1.2.1.n) n3 (catU (fun _ => ((x1.2.2 % 256).toUInt8)) 1 x1.2.1.f)).f k = UInt8.ofNat (dig x.toNat ((x1.1 + 1) - 1 - k))) ∧ ((x1.1 + 1) ≠ 0 → x.toNat / 256 ^ ((x1.1 + 1) - 1) ≠ 0) ∧ ((x1.1 + 1) ≤ 8)) ∧ ((x1.2.2 / 256).toNat) < x1.2.2.toNat from by exact rsm_step B1 B2 B3 (of_decide_eq_true h1) _ _))))))) (fun (h1 : (decide (0 < x1.2.2)) = false) => have f6 : ¬ (0 < x1.2.2) := (of_decide_eq_false h1); (have hsz : szU x = x1.2.1.n := (rsm_len B1 B2 B4 (of_decide_eq_false h1)); have hs8 : szU x ≤ 8 := (szU_le x); And.intro (show (⟨[(3, .v (gsV x1.2.1))], [(0, (gsE u8C [u8 0] 1 x1.2.1))], 1⟩ : St) = ⟨[(3, .v (gsV (reB x1.2.1 (szU x) (smT x))))], [(0, (gsE u8C [u8 0] 1 (reB x1.2.1 (szU x) (smT x))))], 1⟩ from by rw [reB_V (A := x1.2.1) (n := szU x) (f := smT x) hsz, reB_B (A := x1.2.1) (n := szU x) (f := smT x) hsz (rsm_row (y := 0) B1 B3 hsz)]) (fun (n4 n5 n6 : Nat) => And.intro (sk (And.intro (And.intro trivial (@is_len Try.prog 25 5 (.tmp 14) (by kernel_rfl) (gsA (reB x1.2.1 (szU x) (smT x))) (szU x) (gsC (reB x1.2.1 (szU x) (smT x))))) (And.intro (And.intro trivial (@conv_int_u8 Try.prog 3 5 (.tmp 15) (by kernel_rfl) (by kernel_rfl) (szU x))) (And.intro (And.intro trivial (mk_build (P := Try.prog) (t := 25) (e := 5) one5 1 #[(0, (u8 (UInt8.ofNat (szU x))))] #[(u8 (UInt8.ofNat (szU x)))] (by kernel_rfl) (by decide) (by kernel_rfl))) (sk (And.intro (And.intro trivial (app_one (P := Try.prog) (t := 25) (ty := 25) (e := 5) (by kernel_rfl) aggb5 n4 (UInt8.ofNat (szU x)) (reB x1.2.1 (szU x) (smT x)) (reB_ok (show (x1.2.1).ok from by assumption) hsz) (show (reB x1.2.1 (szU x) (smT x)).n + 1 ≤ 140737488355328 from by have e0 : (reB x1.2.1 (szU x) (smT x)).n = (szU x) := rfl; omega))) (sk trivial))))))) (And.intro trivial (@Exists.intro (List Nat) (fun (ns : List Nat) => ns.length = 2 ∧ ((gsV (Grw.mk false n5 (1 + (szU x)) n6 (catU (fun _ => (UInt8.ofNat (szU x))) 1 (smT x)))) : Value) = (fun (ns : List Nat) => (gsV (Grw.mk false (ns.getD 0 0) (1 + (szU x)) (ns.getD 1 0) (catU (fun _ => (UInt8.ofNat (szU x))) 1 (smT x))))) ns ∧ ([(gsE u8C [u8 0] 1 (Grw.mk false n5 (1 + (szU x)) n6 (catU (fun _ => (UInt8.ofNat (szU x))) 1 (smT x))))] : List (Option Blk)) = (fun (ns : List Nat) => [(gsE u8C [u8 0] 1 (Grw.mk false (ns.getD 0 0) (1 + (szU x)) (ns.getD 1 0) (catU (fun _ => (UInt8.ofNat (szU x))) 1 (smT x))))]) ns) [n5, n6] (And.intro (@rfl Nat 2) (And.intro (@rfl Value (gsV (Grw.mk false n5 (1 + (szU x)) n6 (catU (fun _ => (UInt8.ofNat (szU x))) 1 (smT x))))) (@rfl (List (Option Blk)) [(gsE u8C [u8 0] 1 (Grw.mk false n5 (1 + (szU x)) n6 (catU (fun _ => (UInt8.ofNat (szU x))) 1 (smT x))))])))))))))))))))))
def wnq_own_S1 (w : Nat) (b : Nat) (n : Nat) (r : Nat) (f : Nat → UInt8) (q : NatL) (n1 : Nat) (n2 : Nat) (x1 : Nat × Nat × Nat × (Nat → UInt8) × Nat) : St := ⟨[(0, .v (ptr w 0)), (11, .v (Value.slice q.la q.ln q.lc)), (12, .v (nat q.ln)), (13, .v (nat x1.1))], [(0, some ⟨w, true, 0, (.lit [(Value.slice (some ⟨x1.2.2.2.2, 0, none⟩) x1.2.1 (x1.2.1 + x1.2.2.1))])⟩), (1, some ⟨x1.2.2.2.2, true, 0, (spr (x1.2.1 + x1.2.2.1) x1.2.1 (fun k => u8 (x1.2.2.2.1 k)) (u8 0))⟩)], 2⟩
def wnq_own_R1 (w : Nat) (b : Nat) (n : Nat) (r : Nat) (f : Nat → UInt8) (q : NatL) (n1 : Nat) (n2 : Nat) (x1 : Nat × Nat × Nat × (Nat → UInt8) × Nat) : Prop := (x1.1 ≤ q.ln) ∧ (x1.2.1 = (n + smN (UInt64.ofNat q.ln)) + 32 * x1.1) ∧ (x1.2.2.2.1 = nbF (catU f n (smB (UInt64.ofNat q.ln))) (n + smN (UInt64.ofNat q.ln)) q.lf x1.1)
def wnq_own_mu1 (w : Nat) (b : Nat) (n : Nat) (r : Nat) (f : Nat → UInt8) (q : NatL) (n1 : Nat) (n2 : Nat) (x1 : Nat × Nat × Nat × (Nat → UInt8) × Nat) : Nat := q.ln - x1.1
theorem wnq_own (w b n r : Nat) (f : Nat → UInt8) (q : NatL) (hn : n ≤ 60000) (hq : OkNL q) (hm : q.ln ≤ 1000) : RunsF (famNL q) Try.prog 22 [(ptr w 0), (Value.slice q.la q.ln q.lc)] [⟨w, true, 0, (.lit [(Value.slice (some ⟨b, 0, none⟩) n (n + r))])⟩, ⟨b, true, 0, (spr (n + r) n (fun k => u8 (f k)) (u8 0))⟩] 2 (fun (ns : List Nat) => (Value.tuple #[])) (fun (ns : List Nat) => [some ⟨w, true, 0, (.lit [(Value.slice (some ⟨(ns.getD 0 0), 0, none⟩) (n + nwN q.ln) (n + nwN q.ln + (ns.getD 1 0)))])⟩, some ⟨(ns.getD 0 0), true, 0, (spr (n + nwN q.ln + (ns.getD 1 0)) (n + nwN q.ln) (fun k => u8 (catU f n (nwB q.lf q.ln) k)) (u8 0))⟩]) :=
  runsF_of_ev (F := (famNL q)) mix Try.func22 rfl rfl 400 (.regn [(0, .g), (1, .g), (2, (.as (nat q.ln))), (3, (.as (u64 (UInt64.ofNat q.ln)))), (4, (.call [(0, false), (1, false)] 2 0 (fun _ => Value.tuple #[]) (fun ns => [some ⟨w, true, 0, .lit [(Value.slice (some ⟨(ns.getD 0 0), 0, none⟩) (n + smN (UInt64.ofNat q.ln)) (n + smN (UInt64.ofNat q.ln) + (ns.getD 1 0)))]⟩, some ⟨(ns.getD 0 0), true, 0, (spr (n + smN (UInt64.ofNat q.ln) + (ns.getD 1 0)) (n + smN (UInt64.ofNat q.ln)) (fun k => u8 (catU f n (smB (UInt64.ofNat q.ln)) k)) (u8 0))⟩])))] (more (fun n1 => more (fun n2 => fun _ => (.reg [(0, .g), (1, (.as (nat q.ln))), (2, .g)] (.inv [0, 11, 12, 13] [0, 1] 2 (wnq_own_R1 w b n r f q n1 n2) (wnq_own_S1 w b n r f q n1 n2) (wnq_own_mu1 w b n r f q n1 n2) ((0, n + smN (UInt64.ofNat q.ln), n2, catU f n (smB (UInt64.ofNat q.ln)), n1) : Nat × Nat × Nat × (Nat → UInt8) × Nat) (fun (x1 : Nat × Nat × Nat × (Nat → UInt8) × Nat) => (.reg [(0, (.as (Value.bool (decide (x1.1 < q.ln)))))] (.br (.openr (natLB q) (.regn [(0, (.as (ptr q.lb (q.lo + x1.1 * 4)))), (1, (.ld 2 (.tab x1.1 0))), (2, .new), (3, (.st 3 (.lit 0)))] (more (fun n3 => fun _ => (.regn [(0, .g), (1, (.ld 3 (.lit 0))), (2, (.callF [(0, false), (1, false)] 2 0 (fun _ => Value.tuple #[]) (fun ns => [some ⟨w, true, 0, .lit [(Value.slice (some ⟨(ns.getD 0 0), 0, none⟩) (x1.2.1 + 32) (x1.2.1 + 32 + (ns.getD 1 0)))]⟩, some ⟨(ns.getD 0 0), true, 0, (spr (x1.2.1 + 32 + (ns.getD 1 0)) (x1.2.1 + 32) (fun k => u8 (catU x1.2.2.2.1 x1.2.1 (bytesF (q.lf x1.1)) k)) (u8 0))⟩])))] (more (fun n4 => more (fun n5 => fun _ => (.reg [(0, (.as (nat (x1.1 + 1)))), (1, .g)] .done))))))))) .done))))))))) [] [] rfl
    (have f0 : q.ln ≤ 1000 := hm; have f1 : 1 ≤ smN (UInt64.ofNat q.ln) ∧ smN (UInt64.ofNat q.ln) ≤ 9 := (smN_rng _); have f2 : n ≤ 60000 := hn; Eq.mp (by kernel_rfl) (fun (n1 n2 : Nat) => And.intro (sk (sk (And.intro (And.intro trivial (@is_len Try.prog 34 33 (.tmp 7) (by kernel_rfl) q.la q.ln q.lc)) (And.intro (And.intro trivial (@conv_int_u64 Try.prog 3 31 (.tmp 8) (by kernel_rfl) (by kernel_rfl) q.ln)) (And.intro (And.intro trivial (wsmall_own w b n r f (UInt64.ofNat q.ln) (show n ≤ 100000 from by omega))) trivial))))) (And.intro (sk (And.intro (And.intro trivial (@is_len Try.prog 34 33 (.tmp 11) (by kernel_rfl) q.la q.ln q.lc)) (sk trivial))) (And.intro (show (wnq_own_R1 w b n r f q n1 n2) ((0, n + smN (UInt64.ofNat q.ln), n2, catU f n (smB (UInt64.ofNat q.ln)), n1) : Nat × Nat × Nat × (Nat → UInt8) × Nat) from (show (0 ≤ q.ln) ∧ ((n + smN (UInt64.ofNat q.ln)) = (n + smN (UInt64.ofNat q.ln)) + 32 * 0) ∧ ((catU f n (smB (UInt64.ofNat q.ln))) = nbF (catU f n (smB (UInt64.ofNat q.ln))) (n + smN (UInt64.ofNat q.ln)) q.lf 0) from by exact ⟨by omega, by omega, rfl⟩)) (And.intro (@rfl St ((wnq_own_S1 w b n r f q n1 n2) ((0, n + smN (UInt64.ofNat q.ln), n2, catU f n (smB (UInt64.ofNat q.ln)), n1) : Nat × Nat × Nat × (Nat → UInt8) × Nat))) (fun (x1 : Nat × Nat × Nat × (Nat → UInt8) × Nat) (hx1 : (wnq_own_R1 w b n r f q n1 n2) x1) => have B0 : x1.1 ≤ q.ln := hx1.1; have B1 : x1.2.1 = (n + smN (UInt64.ofNat q.ln)) + 32 * x1.1 := hx1.2.1; have B2 : x1.2.2.2.1 = nbF (catU f n (smB (UInt64.ofNat q.ln))) (n + smN (UInt64.ofNat q.ln)) q.lf x1.1 := hx1.2.2; And.intro (And.intro (And.intro trivial (@is_lssn Try.prog 3 3 (.tmp 13) (.tmp 12)  x1.1 q.ln)) trivial) (And.intro trivial (And.intro (fun (h1 : (decide (x1.1 < q.ln)) = true) => have f6 : (x1.1 < q.ln) := (of_decide_eq_true h1); And.intro (⟨(show 0 < q.ln from by omega), rfl⟩ : famNL q (natLB q)) (fun (n3 : Nat) => And.intro (And.intro (And.intro trivial (@is_ixSq Try.prog 34 33 (.tmp 11) (.tmp 13) 4 (by kernel_rfl) (by kernel_rfl) q.lb q.lo q.ln q.lc x1.1 q.la (hq.ad (show 0 < q.ln from by omega)) (show x1.1 < q.ln from by omega))) (And.intro (And.intro trivial (And.intro (show x1.1 < q.ln from by omega) (@rfl Value (ptr q.lb (q.lo + x1.1 * 4))))) (sk (And.intro (And.intro trivial (ad n3 0)) trivial)))) (fun (n4 n5 : Nat) => And.intro (sk (And.intro (And.intro trivial (ad n3 0)) (And.intro (And.intro trivial ((Runs.toF (F := (famNL q)) (wnat_own w x1.2.2.2.2 x1.2.1 x1.2.2.1 x1.2.2.2.1 (q.lf x1.1) (show x1.2.1 ≤ 100000 from by omega))))) trivial))) (And.intro (And.intro (And.intro trivial (@is_addn Try.prog 3 3 (.tmp 13) (.const (.int .i64 1))  x1.1 1 (show x1.1 + 1 ≤ 9223372036854775807 from by omega))) (sk trivial)) ((rnd (wnq_own_R1 w b n r f q n1 n2) (wnq_own_S1 w b n r f q n1 n2) (wnq_own_mu1 w b n r f q n1 n2) x1 ((x1.1 + 1, x1.2.1 + 32, n5, catU x1.2.2.2.1 x1.2.1 (bytesF (q.lf x1.1)), n4) : Nat × Nat × Nat × (Nat → UInt8) × Nat) (show (wnq_own_R1 w b n r f q n1 n2) ((x1.1 + 1, x1.2.1 + 32, n5, catU x1.2.2.2.1 x1.2.1 (bytesF (q.lf x1.1)), n4) : Nat × Nat × Nat × (Nat → UInt8) × Nat) ∧ (wnq_own_mu1 w b n r f q n1 n2) ((x1.1 + 1, x1.2.1 + 32, n5, catU x1.2.2.2.1 x1.2.1 (bytesF (q.lf x1.1)), n4) : Nat × Nat × Nat × (Nat → UInt8) × Nat) < (wnq_own_mu1 w b n r f q n1 n2) x1 from (show (((x1.1 + 1) ≤ q.ln) ∧ ((x1.2.1 + 32) = (n + smN (UInt64.ofNat q.ln)) + 32 * (x1.1 + 1)) ∧ ((catU x1.2.2.2.1 x1.2.1 (bytesF (q.lf x1.1))) = nbF (catU f n (smB (UInt64.ofNat q.ln))) (n + smN (UInt64.ofNat q.ln)) q.lf (x1.1 + 1))) ∧ (q.ln - (x1.1 + 1)) < (q.ln - x1.1) from by exact ⟨⟨by omega, by omega, by rw [B2, B1] <;> rfl⟩, by omega⟩)))))))) (fun (h1 : (decide (x1.1 < q.ln)) = false) => have f6 : ¬ (x1.1 < q.ln) := (of_decide_eq_false h1); And.intro trivial (@Exists.intro (List Nat) (fun (ns : List Nat) => ns.length = 2 ∧ ((Value.tuple #[]) : Value) = (fun (ns : List Nat) => (Value.tuple #[])) ns ∧ ([some ⟨w, true, 0, (.lit [(Value.slice (some ⟨x1.2.2.2.2, 0, none⟩) x1.2.1 (x1.2.1 + x1.2.2.1))])⟩, some ⟨x1.2.2.2.2, true, 0, (spr (x1.2.1 + x1.2.2.1) x1.2.1 (fun k => u8 (x1.2.2.2.1 k)) (u8 0))⟩] : List (Option Blk)) = (fun (ns : List Nat) => [some ⟨w, true, 0, (.lit [(Value.slice (some ⟨(ns.getD 0 0), 0, none⟩) (n + nwN q.ln) (n + nwN q.ln + (ns.getD 1 0)))])⟩, some ⟨(ns.getD 0 0), true, 0, (spr (n + nwN q.ln + (ns.getD 1 0)) (n + nwN q.ln) (fun k => u8 (catU f n (nwB q.lf q.ln) k)) (u8 0))⟩]) ns) [x1.2.2.2.2, x1.2.2.1] (And.intro (@rfl Nat 2) (And.intro (@rfl Value (Value.tuple #[])) ((show ([some ⟨w, true, 0, (.lit [(Value.slice (some ⟨x1.2.2.2.2, 0, none⟩) x1.2.1 (x1.2.1 + x1.2.2.1))])⟩, some ⟨x1.2.2.2.2, true, 0, (spr (x1.2.1 + x1.2.2.1) x1.2.1 (fun k => u8 (x1.2.2.2.1 k)) (u8 0))⟩] : List (Option Blk)) = [some ⟨w, true, 0, (.lit [(Value.slice (some ⟨x1.2.2.2.2, 0, none⟩) (n + nwN q.ln) (n + nwN q.ln + x1.2.2.1))])⟩, some ⟨x1.2.2.2.2, true, 0, (spr (n + nwN q.ln + x1.2.2.1) (n + nwN q.ln) (fun k => u8 (catU f n (nwB q.lf q.ln) k)) (u8 0))⟩] from by have e0 : x1.1 = q.ln := (by omega); have e1 : x1.2.1 = n + nwN q.ln := (by unfold nwN; omega); rw [B2, e0, e1]; rw [spr_as (fun k hk => congrArg u8 (nats_end k hk))]))))))))))))))
def wnq_nil_S1 (w : Nat) (q : NatL) (n1 : Nat) (n2 : Nat) (x1 : Nat × Nat × Nat × (Nat → UInt8) × Nat) : St := ⟨[(0, .v (ptr w 0)), (11, .v (Value.slice q.la q.ln q.lc)), (12, .v (nat q.ln)), (13, .v (nat x1.1))], [(0, some ⟨w, true, 0, (.lit [(Value.slice (some ⟨x1.2.2.2.2, 0, none⟩) x1.2.1 (x1.2.1 + x1.2.2.1))])⟩), (1, some ⟨x1.2.2.2.2, true, 0, (spr (x1.2.1 + x1.2.2.1) x1.2.1 (fun k => u8 (x1.2.2.2.1 k)) (u8 0))⟩)], 2⟩
def wnq_nil_R1 (w : Nat) (q : NatL) (n1 : Nat) (n2 : Nat) (x1 : Nat × Nat × Nat × (Nat → UInt8) × Nat) : Prop := (x1.1 ≤ q.ln) ∧ (x1.2.1 = (smN (UInt64.ofNat q.ln)) + 32 * x1.1) ∧ (x1.2.2.2.1 = nbF (smB (UInt64.ofNat q.ln)) (smN (UInt64.ofNat q.ln)) q.lf x1.1)
def wnq_nil_mu1 (w : Nat) (q : NatL) (n1 : Nat) (n2 : Nat) (x1 : Nat × Nat × Nat × (Nat → UInt8) × Nat) : Nat := q.ln - x1.1
theorem wnq_nil (w : Nat) (q : NatL) (hq : OkNL q) (hm : q.ln ≤ 1000) : RunsF (famNL q) Try.prog 22 [(ptr w 0), (Value.slice q.la q.ln q.lc)] [⟨w, true, 0, (.lit [(Value.slice none 0 0)])⟩] 2 (fun (ns : List Nat) => (Value.tuple #[])) (fun (ns : List Nat) => [some ⟨w, true, 0, (.lit [(Value.slice (some ⟨(ns.getD 0 0), 0, none⟩) (nwN q.ln) (nwN q.ln + (ns.getD 1 0)))])⟩, some ⟨(ns.getD 0 0), true, 0, (spr (nwN q.ln + (ns.getD 1 0)) (nwN q.ln) (fun k => u8 (nwB q.lf q.ln k)) (u8 0))⟩]) :=
  runsF_of_ev (F := (famNL q)) mix Try.func22 rfl rfl 400 (.regn [(0, .g), (1, .g), (2, (.as (nat q.ln))), (3, (.as (u64 (UInt64.ofNat q.ln)))), (4, (.call [(0, false)] 2 1 (fun _ => Value.tuple #[]) (fun ns => [some ⟨w, true, 0, .lit [(Value.slice (some ⟨(ns.getD 0 0), 0, none⟩) (smN (UInt64.ofNat q.ln)) (smN (UInt64.ofNat q.ln) + (ns.getD 1 0)))]⟩, some ⟨(ns.getD 0 0), true, 0, (spr (smN (UInt64.ofNat q.ln) + (ns.getD 1 0)) (smN (UInt64.ofNat q.ln)) (fun k => u8 (smB (UInt64.ofNat q.ln) k)) (u8 0))⟩])))] (more (fun n1 => more (fun n2 => fun _ => (.reg [(0, .g), (1, (.as (nat q.ln))), (2, .g)] (.inv [0, 11, 12, 13] [0, 1] 2 (wnq_nil_R1 w q n1 n2) (wnq_nil_S1 w q n1 n2) (wnq_nil_mu1 w q n1 n2) ((0, smN (UInt64.ofNat q.ln), n2, smB (UInt64.ofNat q.ln), n1) : Nat × Nat × Nat × (Nat → UInt8) × Nat) (fun (x1 : Nat × Nat × Nat × (Nat → UInt8) × Nat) => (.reg [(0, (.as (Value.bool (decide (x1.1 < q.ln)))))] (.br (.openr (natLB q) (.regn [(0, (.as (ptr q.lb (q.lo + x1.1 * 4)))), (1, (.ld 2 (.tab x1.1 0))), (2, .new), (3, (.st 3 (.lit 0)))] (more (fun n3 => fun _ => (.regn [(0, .g), (1, (.ld 3 (.lit 0))), (2, (.callF [(0, false), (1, false)] 2 0 (fun _ => Value.tuple #[]) (fun ns => [some ⟨w, true, 0, .lit [(Value.slice (some ⟨(ns.getD 0 0), 0, none⟩) (x1.2.1 + 32) (x1.2.1 + 32 + (ns.getD 1 0)))]⟩, some ⟨(ns.getD 0 0), true, 0, (spr (x1.2.1 + 32 + (ns.getD 1 0)) (x1.2.1 + 32) (fun k => u8 (catU x1.2.2.2.1 x1.2.1 (bytesF (q.lf x1.1)) k)) (u8 0))⟩])))] (more (fun n4 => more (fun n5 => fun _ => (.reg [(0, (.as (nat (x1.1 + 1)))), (1, .g)] .done))))))))) .done))))))))) [] [1] rfl
    (have f0 : q.ln ≤ 1000 := hm; have f1 : 1 ≤ smN (UInt64.ofNat q.ln) ∧ smN (UInt64.ofNat q.ln) ≤ 9 := (smN_rng _); Eq.mp (by kernel_rfl) (fun (n1 n2 : Nat) => And.intro (sk (sk (And.intro (And.intro trivial (@is_len Try.prog 34 33 (.tmp 7) (by kernel_rfl) q.la q.ln q.lc)) (And.intro (And.intro trivial (@conv_int_u64 Try.prog 3 31 (.tmp 8) (by kernel_rfl) (by kernel_rfl) q.ln)) (And.intro (And.intro trivial (wsmall_nil w (UInt64.ofNat q.ln))) trivial))))) (And.intro (sk (And.intro (And.intro trivial (@is_len Try.prog 34 33 (.tmp 11) (by kernel_rfl) q.la q.ln q.lc)) (sk trivial))) (And.intro (show (wnq_nil_R1 w q n1 n2) ((0, smN (UInt64.ofNat q.ln), n2, smB (UInt64.ofNat q.ln), n1) : Nat × Nat × Nat × (Nat → UInt8) × Nat) from (show (0 ≤ q.ln) ∧ ((smN (UInt64.ofNat q.ln)) = (smN (UInt64.ofNat q.ln)) + 32 * 0) ∧ ((smB (UInt64.ofNat q.ln)) = nbF (smB (UInt64.ofNat q.ln)) (smN (UInt64.ofNat q.ln)) q.lf 0) from by exact ⟨by omega, by omega, rfl⟩)) (And.intro (@rfl St ((wnq_nil_S1 w q n1 n2) ((0, smN (UInt64.ofNat q.ln), n2, smB (UInt64.ofNat q.ln), n1) : Nat × Nat × Nat × (Nat → UInt8) × Nat))) (fun (x1 : Nat × Nat × Nat × (Nat → UInt8) × Nat) (hx1 : (wnq_nil_R1 w q n1 n2) x1) => have B0 : x1.1 ≤ q.ln := hx1.1; have B1 : x1.2.1 = (smN (UInt64.ofNat q.ln)) + 32 * x1.1 := hx1.2.1; have B2 : x1.2.2.2.1 = nbF (smB (UInt64.ofNat q.ln)) (smN (UInt64.ofNat q.ln)) q.lf x1.1 := hx1.2.2; And.intro (And.intro (And.intro trivial (@is_lssn Try.prog 3 3 (.tmp 13) (.tmp 12)  x1.1 q.ln)) trivial) (And.intro trivial (And.intro (fun (h1 : (decide (x1.1 < q.ln)) = true) => have f5 : (x1.1 < q.ln) := (of_decide_eq_true h1); And.intro (⟨(show 0 < q.ln from by omega), rfl⟩ : famNL q (natLB q)) (fun (n3 : Nat) => And.intro (And.intro (And.intro trivial (@is_ixSq Try.prog 34 33 (.tmp 11) (.tmp 13) 4 (by kernel_rfl) (by kernel_rfl) q.lb q.lo q.ln q.lc x1.1 q.la (hq.ad (show 0 < q.ln from by omega)) (show x1.1 < q.ln from by omega))) (And.intro (And.intro trivial (And.intro (show x1.1 < q.ln from by omega) (@rfl Value (ptr q.lb (q.lo + x1.1 * 4))))) (sk (And.intro (And.intro trivial (ad n3 0)) trivial)))) (fun (n4 n5 : Nat) => And.intro (sk (And.intro (And.intro trivial (ad n3 0)) (And.intro (And.intro trivial ((Runs.toF (F := (famNL q)) (wnat_own w x1.2.2.2.2 x1.2.1 x1.2.2.1 x1.2.2.2.1 (q.lf x1.1) (show x1.2.1 ≤ 100000 from by omega))))) trivial))) (And.intro (And.intro (And.intro trivial (@is_addn Try.prog 3 3 (.tmp 13) (.const (.int .i64 1))  x1.1 1 (show x1.1 + 1 ≤ 9223372036854775807 from by omega))) (sk trivial)) ((rnd (wnq_nil_R1 w q n1 n2) (wnq_nil_S1 w q n1 n2) (wnq_nil_mu1 w q n1 n2) x1 ((x1.1 + 1, x1.2.1 + 32, n5, catU x1.2.2.2.1 x1.2.1 (bytesF (q.lf x1.1)), n4) : Nat × Nat × Nat × (Nat → UInt8) × Nat) (show (wnq_nil_R1 w q n1 n2) ((x1.1 + 1, x1.2.1 + 32, n5, catU x1.2.2.2.1 x1.2.1 (bytesF (q.lf x1.1)), n4) : Nat × Nat × Nat × (Nat → UInt8) × Nat) ∧ (wnq_nil_mu1 w q n1 n2) ((x1.1 + 1, x1.2.1 + 32, n5, catU x1.2.2.2.1 x1.2.1 (bytesF (q.lf x1.1)), n4) : Nat × Nat × Nat × (Nat → UInt8) × Nat) < (wnq_nil_mu1 w q n1 n2) x1 from (show (((x1.1 + 1) ≤ q.ln) ∧ ((x1.2.1 + 32) = (smN (UInt64.ofNat q.ln)) + 32 * (x1.1 + 1)) ∧ ((catU x1.2.2.2.1 x1.2.1 (bytesF (q.lf x1.1))) = nbF (smB (UInt64.ofNat q.ln)) (smN (UInt64.ofNat q.ln)) q.lf (x1.1 + 1))) ∧ (q.ln - (x1.1 + 1)) < (q.ln - x1.1) from by exact ⟨⟨by omega, by omega, by rw [B2, B1] <;> rfl⟩, by omega⟩)))))))) (fun (h1 : (decide (x1.1 < q.ln)) = false) => have f5 : ¬ (x1.1 < q.ln) := (of_decide_eq_false h1); And.intro trivial (@Exists.intro (List Nat) (fun (ns : List Nat) => ns.length = 2 ∧ ((Value.tuple #[]) : Value) = (fun (ns : List Nat) => (Value.tuple #[])) ns ∧ ([some ⟨w, true, 0, (.lit [(Value.slice (some ⟨x1.2.2.2.2, 0, none⟩) x1.2.1 (x1.2.1 + x1.2.2.1))])⟩, some ⟨x1.2.2.2.2, true, 0, (spr (x1.2.1 + x1.2.2.1) x1.2.1 (fun k => u8 (x1.2.2.2.1 k)) (u8 0))⟩] : List (Option Blk)) = (fun (ns : List Nat) => [some ⟨w, true, 0, (.lit [(Value.slice (some ⟨(ns.getD 0 0), 0, none⟩) (nwN q.ln) (nwN q.ln + (ns.getD 1 0)))])⟩, some ⟨(ns.getD 0 0), true, 0, (spr (nwN q.ln + (ns.getD 1 0)) (nwN q.ln) (fun k => u8 (nwB q.lf q.ln k)) (u8 0))⟩]) ns) [x1.2.2.2.2, x1.2.2.1] (And.intro (@rfl Nat 2) (And.intro (@rfl Value (Value.tuple #[])) ((show ([some ⟨w, true, 0, (.lit [(Value.slice (some ⟨x1.2.2.2.2, 0, none⟩) x1.2.1 (x1.2.1 + x1.2.2.1))])⟩, some ⟨x1.2.2.2.2, true, 0, (spr (x1.2.1 + x1.2.2.1) x1.2.1 (fun k => u8 (x1.2.2.2.1 k)) (u8 0))⟩] : List (Option Blk)) = [some ⟨w, true, 0, (.lit [(Value.slice (some ⟨x1.2.2.2.2, 0, none⟩) (nwN q.ln) (nwN q.ln + x1.2.2.1))])⟩, some ⟨x1.2.2.2.2, true, 0, (spr (nwN q.ln + x1.2.2.1) (nwN q.ln) (fun k => u8 (nwB q.lf q.ln k)) (u8 0))⟩] from by have e0 : x1.1 = q.ln := (by omega); have e1 : x1.2.1 = nwN q.ln := (by unfold nwN; omega); rw [B2, e0, e1]; rw [spr_as (fun k hk => congrArg u8 (nats_endN k hk))]))))))))))))))
theorem wnats_Q (w : Nat) (W : Grw UInt8) (hW : W.ok) (q : NatL) (hq : OkNL q) (hm : q.ln ≤ 1000) (hn : W.n ≤ 60000) : RunsO (famNL q) Try.prog 22 [ptr w 0, natLV q] [some ⟨w, true, 0, .lit [gsV W]⟩, gsE u8C [u8 0] 1 W] 2 (fun _ => .tuple #[]) (fun ns => [some ⟨w, true, 0, .lit [gsV (W.cat (nwN q.ln) (nwB q.lf q.ln) (ns.getD 0 0) (ns.getD 1 0))]⟩, gsE u8C [u8 0] 1 (W.cat (nwN q.ln) (nwB q.lf q.ln) (ns.getD 0 0) (ns.getD 1 0))]) :=
  wr_G W hW (m := nwN q.ln) (h := nwB q.lf q.ln) (by have := nwN_rng q.ln; omega) (fun _ => wnq_own w W.nm W.n W.r W.f q hn hq hm) (wnq_nil w q hq hm)
theorem wout_G {F : Blk → Prop} (w : Nat) (W : Grw UInt8) (hW : W.ok) (h0 : W.z = false → 0 < W.n) (hl : W.n ≤ 100000) : RunsO F Try.prog 23 [ptr w 0] [some ⟨w, false, 0, .lit [gsV W]⟩, roO (gsE u8C [u8 0] 1 W)] 2 (fun ns => gsV (⟨W.z, ns.getD 0 0, W.n, ns.getD 1 0, W.f⟩ : Grw UInt8)) (fun ns => [none, none, gsE u8C [u8 0] 1 (⟨W.z, ns.getD 0 0, W.n, ns.getD 1 0, W.f⟩ : Grw UInt8)]) := by
  cases hc : W.z with
  | false =>
    have h1 := (wout_own w W.nm W.n W.r W.f (h0 hc) hl).toF (F := F) |>.toO
    rw [gsV_own hc, show gsE u8C [u8 0] 1 W = some ⟨W.nm, true, 0, spr (W.n + W.r) W.n (fun k => u8 (W.f k)) (u8 0)⟩ from by rw [gsE_u8]; unfold grO; rw [hc]]
    simp only [gsE_own8]
    exact h1.as (.refl _) id fun ns hns => ⟨hns, rfl, .dr _ (.dr _ (.refl _)), ⟨rfl, trivial⟩⟩
  | true =>
    have hn := hW hc
    have h1 := (wout_nil w).toF (F := F) |>.toO
    rw [gsV_nil hc hW, gsE_nil hc, hn]
    exact h1.as (.cons _ (.zz _)) (fun _ => [0, 0]) fun ns hns => ⟨rfl, rfl, .dr _ (.dn (.dn (.zz _))), trivial⟩
theorem rsmall {F : Blk → Prop} (x : UInt64) : RunsO F Try.prog 24 [u64 x] [] 2 (fun ns => gsV (Grw.mk false (ns.getD 0 0) (smN x) (ns.getD 1 0) (smB x))) (fun ns => [gsE u8C [u8 0] 1 (Grw.mk false (ns.getD 0 0) (smN x) (ns.getD 1 0) (smB x))]) := by
  have h := rsmall0 (F := F) x
  simp only [smT_all, smT_len] at h
  exact h
theorem rsmall_s {F : Blk → Prop} (x : UInt64) : RunsF F Try.prog 24 [u64 x] [] 2 (fun ns => .slice (some ⟨ns.getD 0 0, 0, none⟩) (smN x) (smN x + ns.getD 1 0)) (fun ns => [some ⟨ns.getD 0 0, true, 0, spr (smN x + ns.getD 1 0) (smN x) (fun k => u8 (smB x k)) (u8 0)⟩]) := by
  have h := rsmall (F := F) x
  simp only [gsE_own8] at h
  exact RunsO.toF (bs := []) h
theorem rbytes_s (q : BytL) (hq : OkB q) (hl : q.wn ≤ 100000) : RunsF (famB q) Try.prog 26 [(Value.slice q.wa q.wn q.wc)] [] 2 (fun (ns : List Nat) => (Value.slice (some ⟨(ns.getD 0 0), 0, none⟩) (smN (UInt64.ofNat q.wn) + q.wn) (smN (UInt64.ofNat q.wn) + q.wn + (ns.getD 1 0)))) (fun (ns : List Nat) => [some ⟨(ns.getD 0 0), true, 0, (spr (smN (UInt64.ofNat q.wn) + q.wn + (ns.getD 1 0)) (smN (UInt64.ofNat q.wn) + q.wn) (fun k => u8 (catU (smB (UInt64.ofNat q.wn)) (smN (UInt64.ofNat q.wn)) q.wf k)) (u8 0))⟩]) :=
  runsF_of_ev (F := (famB q)) mix Try.func26 rfl rfl 400 (.reg [(0, .g)] (.regn [(0, .g), (1, (.as (nat q.wn))), (2, (.as (u64 (UInt64.ofNat q.wn)))), (3, (.callF [] 2 1 (fun ns => Value.slice (some ⟨(ns.getD 0 0), 0, none⟩) (smN (UInt64.ofNat q.wn)) (smN (UInt64.ofNat q.wn) + (ns.getD 1 0))) (fun ns => [some ⟨(ns.getD 0 0), true, 0, (spr (smN (UInt64.ofNat q.wn) + (ns.getD 1 0)) (smN (UInt64.ofNat q.wn)) (fun k => u8 (smB (UInt64.ofNat q.wn) k)) (u8 0))⟩]))), (4, .g), (5, (.othF [(0, false)] 2 0 (fun ns => Value.slice (some ⟨(ns.getD 0 0), 0, none⟩) (smN (UInt64.ofNat q.wn) + q.wn) (smN (UInt64.ofNat q.wn) + q.wn + (ns.getD 1 0))) (fun ns => [some ⟨(ns.getD 0 0), true, 0, (spr (smN (UInt64.ofNat q.wn) + q.wn + (ns.getD 1 0)) (smN (UInt64.ofNat q.wn) + q.wn) (fun k => u8 (catU (smB (UInt64.ofNat q.wn)) (smN (UInt64.ofNat q.wn)) q.wf k)) (u8 0))⟩]))), (6, .g)] (more (fun n1 => more (fun n2 => more (fun n3 => more (fun n4 => fun _ => .done))))))) [] [0] rfl
    (have f0 : q.wn ≤ 100000 := hl; have f1 : smN (UInt64.ofNat q.wn) ≤ 9 := (smN_le _); Eq.mp (by kernel_rfl) (And.intro (sk trivial) (fun (n1 n2 n3 n4 : Nat) => And.intro (sk (And.intro (And.intro trivial (@is_len Try.prog 25 5 (.tmp 3) (by kernel_rfl) q.wa q.wn q.wc)) (And.intro (And.intro trivial (@conv_int_u64 Try.prog 3 31 (.tmp 4) (by kernel_rfl) (by kernel_rfl) q.wn)) (And.intro (And.intro trivial (rsmall_s (F := (famB q)) (UInt64.ofNat q.wn))) (sk (And.intro (And.intro trivial (srunF_append_rec (P := Try.prog) (t := 25) (ty := 25) (e := 5) (by kernel_rfl) one5 n1 (smN (UInt64.ofNat q.wn)) n2 (smB (UInt64.ofNat q.wn)) q hq (fun z hz => hz) (show (smN (UInt64.ofNat q.wn) + q.wn) * 1 ≤ 140737488355328 ∧ smN (UInt64.ofNat q.wn) + q.wn ≤ 9223372036854775807 from by have := smN_rng  (UInt64.ofNat q.wn); omega))) (sk trivial))))))) (And.intro trivial (@Exists.intro (List Nat) (fun (ns : List Nat) => ns.length = 2 ∧ ((Value.slice (some ⟨n3, 0, none⟩) (smN (UInt64.ofNat q.wn) + q.wn) (smN (UInt64.ofNat q.wn) + q.wn + n4)) : Value) = (fun (ns : List Nat) => (Value.slice (some ⟨(ns.getD 0 0), 0, none⟩) (smN (UInt64.ofNat q.wn) + q.wn) (smN (UInt64.ofNat q.wn) + q.wn + (ns.getD 1 0)))) ns ∧ ([some ⟨n3, true, 0, (spr (smN (UInt64.ofNat q.wn) + q.wn + n4) (smN (UInt64.ofNat q.wn) + q.wn) (fun k => u8 (catU (smB (UInt64.ofNat q.wn)) (smN (UInt64.ofNat q.wn)) q.wf k)) (u8 0))⟩] : List (Option Blk)) = (fun (ns : List Nat) => [some ⟨(ns.getD 0 0), true, 0, (spr (smN (UInt64.ofNat q.wn) + q.wn + (ns.getD 1 0)) (smN (UInt64.ofNat q.wn) + q.wn) (fun k => u8 (catU (smB (UInt64.ofNat q.wn)) (smN (UInt64.ofNat q.wn)) q.wf k)) (u8 0))⟩]) ns) [n3, n4] (And.intro (@rfl Nat 2) (And.intro (@rfl Value (Value.slice (some ⟨n3, 0, none⟩) (smN (UInt64.ofNat q.wn) + q.wn) (smN (UInt64.ofNat q.wn) + q.wn + n4))) (@rfl (List (Option Blk)) [some ⟨n3, true, 0, (spr (smN (UInt64.ofNat q.wn) + q.wn + n4) (smN (UInt64.ofNat q.wn) + q.wn) (fun k => u8 (catU (smB (UInt64.ofNat q.wn)) (smN (UInt64.ofNat q.wn)) q.wf k)) (u8 0))⟩]))))))))
def rnats_s_S1 (q : NatL) (n1 : Nat) (n2 : Nat) (x1 : Nat × Nat × Nat × (Nat → UInt8) × Nat) : St := ⟨[(0, .v (Value.slice q.la q.ln q.lc)), (3, .v (Value.slice (some ⟨x1.2.2.2.2, 0, none⟩) x1.2.1 (x1.2.1 + x1.2.2.1))), (4, .v (nat x1.1))], [(0, some ⟨x1.2.2.2.2, true, 0, (spr (x1.2.1 + x1.2.2.1) x1.2.1 (fun k => u8 (x1.2.2.2.1 k)) (u8 0))⟩)], 1⟩
def rnats_s_R1 (q : NatL) (n1 : Nat) (n2 : Nat) (x1 : Nat × Nat × Nat × (Nat → UInt8) × Nat) : Prop := (x1.1 ≤ q.ln) ∧ (x1.2.1 = smN (UInt64.ofNat q.ln) + 32 * x1.1) ∧ (x1.2.2.2.1 = nbF (smB (UInt64.ofNat q.ln)) (smN (UInt64.ofNat q.ln)) q.lf x1.1)
def rnats_s_mu1 (q : NatL) (n1 : Nat) (n2 : Nat) (x1 : Nat × Nat × Nat × (Nat → UInt8) × Nat) : Nat := q.ln - x1.1
theorem rnats_s (q : NatL) (hq : OkNL q) (hm : q.ln ≤ 1000) : RunsF (famNL q) Try.prog 27 [(Value.slice q.la q.ln q.lc)] [] 2 (fun (ns : List Nat) => (Value.slice (some ⟨(ns.getD 0 0), 0, none⟩) (nwN q.ln) (nwN q.ln + (ns.getD 1 0)))) (fun (ns : List Nat) => [some ⟨(ns.getD 0 0), true, 0, (spr (nwN q.ln + (ns.getD 1 0)) (nwN q.ln) (fun k => u8 (nwB q.lf q.ln k)) (u8 0))⟩]) :=
  runsF_of_ev (F := (famNL q)) mix Try.func27 rfl rfl 400 (.reg [(0, .g)] (.regn [(0, .g), (1, (.as (nat q.ln))), (2, (.as (u64 (UInt64.ofNat q.ln)))), (3, (.callF [] 2 1 (fun ns => Value.slice (some ⟨(ns.getD 0 0), 0, none⟩) (smN (UInt64.ofNat q.ln)) (smN (UInt64.ofNat q.ln) + (ns.getD 1 0))) (fun ns => [some ⟨(ns.getD 0 0), true, 0, (spr (smN (UInt64.ofNat q.ln) + (ns.getD 1 0)) (smN (UInt64.ofNat q.ln)) (fun k => u8 (smB (UInt64.ofNat q.ln) k)) (u8 0))⟩]))), (4, .g)] (more (fun n1 => more (fun n2 => fun _ => (.reg [(0, .g)] (.inv [0, 3, 4] [0] 1 (rnats_s_R1 q n1 n2) (rnats_s_S1 q n1 n2) (rnats_s_mu1 q n1 n2) ((0, smN (UInt64.ofNat q.ln), n2, smB (UInt64.ofNat q.ln), n1) : Nat × Nat × Nat × (Nat → UInt8) × Nat) (fun (x1 : Nat × Nat × Nat × (Nat → UInt8) × Nat) => (.reg [(0, .g), (1, .g), (2, (.as (nat q.ln))), (3, (.as (Value.bool (decide (x1.1 < q.ln)))))] (.br (.openr (natLB q) (.regn [(0, .g), (1, .g), (2, .g), (3, (.as (ptr q.lb (q.lo + x1.1 * 4)))), (4, (.ld 1 (.tab x1.1 0))), (5, (.call [] 2 1 (fun ns => Value.slice (some ⟨ns.getD 0 0, 0, none⟩) 32 (32 + ns.getD 1 0)) (fun ns => [some ⟨ns.getD 0 0, true, 0, tabF 32 (fun k => u8 (bytesF (q.lf x1.1) k))⟩]))), (6, (.oth [(0, false), (2, true)] 2 0 (fun ns => Value.slice (some ⟨(ns.getD 0 0), 0, none⟩) (x1.2.1 + 32) (x1.2.1 + 32 + (ns.getD 1 0))) (fun ns => [some ⟨(ns.getD 0 0), true, 0, (spr (x1.2.1 + 32 + (ns.getD 1 0)) (x1.2.1 + 32) (fun k => u8 (catU x1.2.2.2.1 x1.2.1 (bytesF (q.lf x1.1)) k)) (u8 0))⟩, none]))), (7, .g)] (more (fun n3 => more (fun n4 => more (fun n5 => more (fun n6 => fun _ => (.reg [(0, .g), (1, (.as (nat (x1.1 + 1)))), (2, .g)] .done)))))))) (.keep [3] [0] 1 (.told ⟨[(3, .v (Value.slice (some ⟨x1.2.2.2.2, 0, none⟩) (nwN q.ln) (nwN q.ln + x1.2.2.1)))], [(0, some ⟨x1.2.2.2.2, true, 0, (spr (nwN q.ln + x1.2.2.1) (nwN q.ln) (fun k => u8 (nwB q.lf q.ln k)) (u8 0))⟩)], 1⟩ (.reg [(0, .g), (1, .g)] .done))))))))))))) [] [0] rfl
    (have f0 : q.ln ≤ 1000 := hm; have f1 : 1 ≤ smN (UInt64.ofNat q.ln) ∧ smN (UInt64.ofNat q.ln) ≤ 9 := (smN_rng _); Eq.mp (by kernel_rfl) (And.intro (sk trivial) (fun (n1 n2 : Nat) => And.intro (sk (And.intro (And.intro trivial (@is_len Try.prog 34 33 (.tmp 5) (by kernel_rfl) q.la q.ln q.lc)) (And.intro (And.intro trivial (@conv_int_u64 Try.prog 3 31 (.tmp 6) (by kernel_rfl) (by kernel_rfl) q.ln)) (And.intro (And.intro trivial (rsmall_s (F := (famNL q)) (UInt64.ofNat q.ln))) (sk trivial))))) (And.intro (sk trivial) (And.intro (show (rnats_s_R1 q n1 n2) ((0, smN (UInt64.ofNat q.ln), n2, smB (UInt64.ofNat q.ln), n1) : Nat × Nat × Nat × (Nat → UInt8) × Nat) from (show (0 ≤ q.ln) ∧ ((smN (UInt64.ofNat q.ln)) = smN (UInt64.ofNat q.ln) + 32 * 0) ∧ ((smB (UInt64.ofNat q.ln)) = nbF (smB (UInt64.ofNat q.ln)) (smN (UInt64.ofNat q.ln)) q.lf 0) from by exact ⟨by omega, by omega, rfl⟩)) (And.intro (@rfl St ((rnats_s_S1 q n1 n2) ((0, smN (UInt64.ofNat q.ln), n2, smB (UInt64.ofNat q.ln), n1) : Nat × Nat × Nat × (Nat → UInt8) × Nat))) (fun (x1 : Nat × Nat × Nat × (Nat → UInt8) × Nat) (hx1 : (rnats_s_R1 q n1 n2) x1) => have B0 : x1.1 ≤ q.ln := hx1.1; have B1 : x1.2.1 = smN (UInt64.ofNat q.ln) + 32 * x1.1 := hx1.2.1; have B2 : x1.2.2.2.1 = nbF (smB (UInt64.ofNat q.ln)) (smN (UInt64.ofNat q.ln)) q.lf x1.1 := hx1.2.2; And.intro (sk (sk (And.intro (And.intro trivial (@is_len Try.prog 34 33 (.tmp 10) (by kernel_rfl) q.la q.ln q.lc)) (And.intro (And.intro trivial (@is_lssn Try.prog 3 3 (.tmp 9) (.tmp 11)  x1.1 q.ln)) trivial)))) (And.intro trivial (And.intro (fun (h1 : (decide (x1.1 < q.ln)) = true) => have f5 : (x1.1 < q.ln) := (of_decide_eq_true h1); And.intro (⟨(show 0 < q.ln from by omega), rfl⟩ : famNL q (natLB q)) (fun (n3 n4 n5 n6 : Nat) => And.intro (sk (sk (sk (And.intro (And.intro trivial (@is_ixSq Try.prog 34 33 (.tmp 16) (.tmp 17) 4 (by kernel_rfl) (by kernel_rfl) q.lb q.lo q.ln q.lc x1.1 q.la (hq.ad (show 0 < q.ln from by omega)) (show x1.1 < q.ln from by omega))) (And.intro (And.intro trivial (And.intro (show x1.1 < q.ln from by omega) (@rfl Value (ptr q.lb (q.lo + x1.1 * 4))))) (And.intro (And.intro trivial (rbytes_runs (q.lf x1.1))) (And.intro (And.intro trivial (SRuns.dark [false, true] (mk_append (P := Try.prog) (t := 25) (ty := 25) (e := 5) (by kernel_rfl) one5 x1.2.2.2.2 x1.2.1 x1.2.2.1 n3 0 0 32 (32 + n4) u8 x1.2.2.2.1 (bytesF (q.lf x1.1)) (tabF 32 (fun k => u8 (bytesF (q.lf x1.1) k))) (fun j hj => by rw [Nat.zero_add]; exact tabF_in hj) (fun _ => rfl) (show (x1.2.1 + 32) * 1 ≤ 140737488355328 ∧ x1.2.1 + 32 ≤ 9223372036854775807 from by omega)))) (sk trivial)))))))) (And.intro (sk (And.intro (And.intro trivial (@is_addn Try.prog 3 3 (.tmp 13) (.const (.int .i64 1))  x1.1 1 (show x1.1 + 1 ≤ 9223372036854775807 from by omega))) (sk trivial))) ((rnd (rnats_s_R1 q n1 n2) (rnats_s_S1 q n1 n2) (rnats_s_mu1 q n1 n2) x1 ((x1.1 + 1, x1.2.1 + 32, n6, catU x1.2.2.2.1 x1.2.1 (bytesF (q.lf x1.1)), n5) : Nat × Nat × Nat × (Nat → UInt8) × Nat) (show (rnats_s_R1 q n1 n2) ((x1.1 + 1, x1.2.1 + 32, n6, catU x1.2.2.2.1 x1.2.1 (bytesF (q.lf x1.1)), n5) : Nat × Nat × Nat × (Nat → UInt8) × Nat) ∧ (rnats_s_mu1 q n1 n2) ((x1.1 + 1, x1.2.1 + 32, n6, catU x1.2.2.2.1 x1.2.1 (bytesF (q.lf x1.1)), n5) : Nat × Nat × Nat × (Nat → UInt8) × Nat) < (rnats_s_mu1 q n1 n2) x1 from (show (((x1.1 + 1) ≤ q.ln) ∧ ((x1.2.1 + 32) = smN (UInt64.ofNat q.ln) + 32 * (x1.1 + 1)) ∧ ((catU x1.2.2.2.1 x1.2.1 (bytesF (q.lf x1.1))) = nbF (smB (UInt64.ofNat q.ln)) (smN (UInt64.ofNat q.ln)) q.lf (x1.1 + 1))) ∧ (q.ln - (x1.1 + 1)) < (q.ln - x1.1) from by exact ⟨⟨by omega, by omega, by rw [B2, B1] <;> rfl⟩, by omega⟩))))))) (fun (h1 : (decide (x1.1 < q.ln)) = false) => have f5 : ¬ (x1.1 < q.ln) := (of_decide_eq_false h1); And.intro (show (⟨[(3, .v (Value.slice (some ⟨x1.2.2.2.2, 0, none⟩) x1.2.1 (x1.2.1 + x1.2.2.1)))], [(0, some ⟨x1.2.2.2.2, true, 0, (spr (x1.2.1 + x1.2.2.1) x1.2.1 (fun k => u8 (x1.2.2.2.1 k)) (u8 0))⟩)], 1⟩ : St) = ⟨[(3, .v (Value.slice (some ⟨x1.2.2.2.2, 0, none⟩) (nwN q.ln) (nwN q.ln + x1.2.2.1)))], [(0, some ⟨x1.2.2.2.2, true, 0, (spr (nwN q.ln + x1.2.2.1) (nwN q.ln) (fun k => u8 (nwB q.lf q.ln k)) (u8 0))⟩)], 1⟩ from by have e0 : x1.1 = q.ln := (by omega); have e1 : x1.2.1 = nwN q.ln := (by unfold nwN; omega); rw [B2, e0, e1]; rw [spr_as (fun k hk => congrArg u8 (nats_endN k hk))]) (And.intro (sk (sk trivial)) (And.intro trivial (@Exists.intro (List Nat) (fun (ns : List Nat) => ns.length = 2 ∧ ((Value.slice (some ⟨x1.2.2.2.2, 0, none⟩) (nwN q.ln) (nwN q.ln + x1.2.2.1)) : Value) = (fun (ns : List Nat) => (Value.slice (some ⟨(ns.getD 0 0), 0, none⟩) (nwN q.ln) (nwN q.ln + (ns.getD 1 0)))) ns ∧ ([some ⟨x1.2.2.2.2, true, 0, (spr (nwN q.ln + x1.2.2.1) (nwN q.ln) (fun k => u8 (nwB q.lf q.ln k)) (u8 0))⟩] : List (Option Blk)) = (fun (ns : List Nat) => [some ⟨(ns.getD 0 0), true, 0, (spr (nwN q.ln + (ns.getD 1 0)) (nwN q.ln) (fun k => u8 (nwB q.lf q.ln k)) (u8 0))⟩]) ns) [x1.2.2.2.2, x1.2.2.1] (And.intro (@rfl Nat 2) (And.intro (@rfl Value (Value.slice (some ⟨x1.2.2.2.2, 0, none⟩) (nwN q.ln) (nwN q.ln + x1.2.2.1))) (@rfl (List (Option Blk)) [some ⟨x1.2.2.2.2, true, 0, (spr (nwN q.ln + x1.2.2.1) (nwN q.ln) (fun k => u8 (nwB q.lf q.ln k)) (u8 0))⟩]))))))))))))))))
end Go.Proofs.Ytelpmalmknpogaa
end
