/-
  Base texts, many in one: EngR, LimbByt, EngS, EngT, EngU, EngV, EngW, EngX, EngY, EngZ.
-/
import Derived.Test.YtekbbehnlohikaaNat4
import Derived.ArgAppend
import Derived.Laws.AppendOwn
import Derived.Deep.Slices
import Derived.Test.YtekbbehnlohikaaEngA
import Derived.OrdersIn
import Derived.RangeFuncNested
import Derived.ChangeSame
namespace Go.Eng

theorem post_cells {m : Nat → Option Blk} {w : World} (hm : ∀ p b, m p = some b → Holds b w) (ha : Apart m) {p : Nat} {b : Blk} (hp : m p = some b) (ho : b.own = true)
    {o0 : Nat} {cs : List Value} {c : Cont} (g1 : ∀ k, k < cs.length → ∃ v, b.cont.get (o0 + k) = some v) (g2 : ∀ k, c.get k = if o0 ≤ k ∧ k < o0 + cs.length then cs[k - o0]? else b.cont.get k) :
    Post m w (memApply m [(p, some { b with cont := c })]) (w.setCells b.name (b.base + o0) cs) := by
  obtain ⟨r1, r2, r3⟩ := rest_setCells b.name cs (b.base + o0) w
  have hb := hm p b hp
  have happ : ∀ q, memApply m [(p, some { b with cont := c })] q = if p = q then some { b with cont := c } else m q := fun q => by
    simp only [memApply, look_cons, look_nil]
    split <;> rename_i h <;> split at h <;> simp_all
  have hcell : ∀ o v, c.get o = some v → (w.setCells b.name (b.base + o0) cs).cell? ⟨b.name, b.base + o, none⟩ = some v := fun o v hv => by
    rw [g2] at hv
    by_cases hin : o0 ≤ o ∧ o < o0 + cs.length
    · rw [if_pos hin] at hv
      have h1 := World.cell?_setCells_in b.name cs (b.base + o0) w (fun j hj => by
        obtain ⟨u, hu⟩ := g1 j hj
        rw [Nat.add_assoc, hb.cell _ u hu]; rfl) (o - o0) (by omega)
      rw [show b.base + o = b.base + o0 + (o - o0) by omega, h1, ← List.getElem?_eq_getElem]
      exact hv
    · rw [if_neg hin] at hv
      rw [cell_setCells_out _ _ _ _ _ (by omega)]
      exact hb.cell o v hv
  have hfree : ∀ o v, c.get o = some v → (w.setCells b.name (b.base + o0) cs).frozen? ⟨b.name, b.base + o, none⟩ = false := fun o v hv => by
    rw [World.frozen?_setCells]
    rw [g2] at hv
    by_cases hin : o0 ≤ o ∧ o < o0 + cs.length
    · obtain ⟨u, hu⟩ := g1 (o - o0) (by omega)
      rw [show o0 + (o - o0) = o by omega] at hu
      exact hb.free ho o u hu
    · rw [if_neg hin] at hv
      exact hb.free ho o v hv
  refine ⟨fun q d hq => ?_, fun q r d e hqr hd he hown => ?_, ⟨r1, r2, r3, Nat.le_of_eq (size_setCells _ _ _ _).symm, fun k _ hn => heap_setCells _ _ _ _ _ (fun e => hn ⟨p, b, hp, ho, e.symm⟩), fun k hk => ?_, fun q d hq hown => ?_⟩⟩
  · rw [happ] at hq
    split at hq
    · injection hq with hq; subst hq
      exact ⟨by rw [size_setCells]; exact hb.lt, hcell, fun _ => hfree⟩
    · rename_i hpq
      exact (hm q d hq).of_heap (by rw [size_setCells]; exact Nat.le_refl _) (heap_setCells _ _ _ _ _ (fun e => ha p q b d hpq hp hq ho e.symm))
  · rw [happ] at hd he
    split at hd <;> split at he
    · rename_i h1 h2; exact absurd (h1.symm.trans h2) hqr
    · rename_i h1 h2
      injection hd with hd; subst hd; subst h1
      exact ha p r b e h2 hp he ho
    · rename_i h1 h2
      injection he with he; subst he; subst h2
      exact ha q p d b (Ne.symm h1) hd hp hown
    · exact ha q r d e hqr hd he hown
  · obtain ⟨q, d, hq, hown, rfl⟩ := hk
    rw [happ] at hq
    split at hq
    · injection hq with hq; subst hq
      exact .inl ⟨p, b, hp, ho, rfl⟩
    · exact .inl ⟨q, d, hq, hown, rfl⟩
  · rw [happ] at hq
    split at hq
    · injection hq with hq; subst hq
      rw [ho] at hown; cases hown
    · exact hq


theorem Holds.recont {b : Blk} {w : World} (h : Holds b w) {c : Cont} (hc : ∀ o v, c.get o = some v → b.cont.get o = some v) : Holds { b with cont := c } w :=
  ⟨h.lt, fun o v ho => h.cell o v (hc o v ho), fun hb o v ho => h.free hb o v (hc o v ho)⟩

/-! ### contents with room behind them -/
def spr (c len : Nat) (g : Nat → Value) (z : Value) : Cont := tabF c fun k => if k < len then g k else z
def catV (g : Nat → Value) (len : Nat) (h : Nat → Value) : Nat → Value := fun j => if j < len then g j else h (j - len)

theorem tabF_in {n : Nat} {g : Nat → Value} {o : Nat} (ho : o < n) : (tabF n g).get o = some (g o) := by
  simp [tabF, Cont.get, Nat.mod_one, ho]
theorem tabF_out {n : Nat} {g : Nat → Value} {o : Nat} (ho : ¬ o < n) : (tabF n g).get o = none := by
  simp [tabF, Cont.get, ho]
/-- The room is forgotten. -/
theorem to_noroom {c len : Nat} {g : Nat → Value} {z : Value} (h : len ≤ c) : ∀ o v, (tabF len g).get o = some v → (spr c len g z).get o = some v := fun o v ho => by
  by_cases hl : o < len
  · rw [tabF_in hl] at ho
    rw [spr, tabF_in (by omega), if_pos hl]; exact ho
  · rw [tabF_out hl] at ho; cases ho

def appendSem (t ty : TypeId) (x y : Value) : Sem Next := do pure (.value (← Builtin.append_ #[t, t] ty #[x, y]))
theorem run_value {P : Program} {s : Sem Value} {v : Value} {w w' : World} (h : s.run P w = .ok v w') : (s >>= fun v => (pure (Next.value v) : Sem Next)).run P w = .ok (Next.value v) w' := by
  rw [Sem.run_bind, h]; rfl

theorem zeroCells_one (z : Value) (m : Nat) : (Builtin.zeroCells #[z] m).toList = List.replicate m z := by
  apply List.ext_getElem?
  intro k
  by_cases hk : k < m
  · simp [Builtin.zeroCells, hk, Nat.mod_one]
  · simp [Builtin.zeroCells, hk]

theorem map_range_get {n : Nat} {h : Nat → Value} {j : Nat} {v : Value} (hj : ((List.range n).map h)[j]? = some v) : j < n ∧ v = h j := by
  rw [List.getElem?_map] at hj
  by_cases hn : j < n
  · rw [List.getElem?_range hn] at hj
    simp at hj
    exact ⟨hn, hj.symm⟩
  · rw [List.getElem?_eq_none (by simp; omega)] at hj
    simp at hj

section
variable {P : Program} {t ty e : TypeId} {i : TypeInfo} {z : Value}
theorem srun_append (ht : P.underlying t = some (.slice e)) (hi : P.info? e = some i) (hz : i.zero = some z) (hsz : i.size = 1) (hzc : z.cells = #[z])
    {b len r k bo os n cc : Nat} {g h : Nat → Value} {S : Cont} (hS : ∀ j, j < n → S.get (os + j) = some (h j)) (h1 : ∀ j, j < n → (h j).oneCell' = true)
    (hb : (len + n) * i.bytes ≤ 140737488355328) (hb2 : len + n ≤ 9223372036854775807) :
    SRuns P (appendSem t ty (.slice (some ⟨b, 0, none⟩) len (len + r)) (.slice (some ⟨k, bo + os, none⟩) n cc)) [⟨b, true, 0, spr (len + r) len g z⟩, ⟨k, false, bo, S⟩] 2
      (fun ns => .slice (some ⟨ns.getD 0 0, 0, none⟩) (len + n) (len + n + ns.getD 1 0))
      (fun ns => [some ⟨ns.getD 0 0, true, 0, spr (len + n + ns.getD 1 0) (len + n) (catV g len h) z⟩, some ⟨k, false, bo, S⟩]) := by
  intro w hall ha
  have hA : Holds ⟨b, true, 0, spr (len + r) len g z⟩ w := hall _ (by simp)
  have hK : Holds ⟨k, false, bo, S⟩ w := hall _ (by simp)
  have hnews : ∀ j u, ((List.range n).map h)[j]? = some u → w.cell? ((⟨k, bo + os, none⟩ : Addr).add j) = some u := fun j u hj => by
    obtain ⟨hjn, rfl⟩ := map_range_get hj
    rw [add_none, Nat.add_assoc]
    exact hK.cell _ _ (hS j hjn)
  have hone : ∀ u ∈ (List.range n).map h, u.oneCell' = true := fun u hu => by
    obtain ⟨j, hj, rfl⟩ := List.mem_map.1 hu
    exact h1 j (List.mem_range.1 hj)
  have hm : ∀ p c, listMem [some ⟨b, true, 0, spr (len + r) len g z⟩, some ⟨k, false, bo, S⟩] p = some c → Holds c w := fun p c hc => hall c (List.mem_of_getElem? (listMem_some (l := [⟨b, true, 0, spr (len + r) len g z⟩, ⟨k, false, bo, S⟩]).1 hc))
  by_cases hr : n ≤ r
  · -- there is room
    have hget : ∀ j, j < n → (spr (len + r) len g z).get (len + j) = some z := fun j hj => by
      rw [spr, tabF_in (by omega), if_neg (by omega)]
    have hrun := run_append_room_cells (P := P) w t ty e i ht hi b 0 len (len + r) ⟨k, bo + os, none⟩ n cc ((List.range n).map h) (by simp [hsz]) hnews hone (by omega)
      (fun j hj => by
        have hj' : j < n := by simpa using hj
        have := hA.cell _ _ (hget j hj')
        rw [show 0 + len * i.size + j = 0 + (len + j) by rw [hsz]; omega, this]; rfl)
      (fun j hj => by
        have hj' : j < n := by simpa using hj
        have := hA.free rfl _ _ (hget j hj')
        rw [show 0 + len * i.size + j = 0 + (len + j) by rw [hsz]; omega]; exact this)
    have hrun2 : (Builtin.append_ #[t, t] ty #[.slice (some ⟨b, 0, none⟩) len (len + r), .slice (some ⟨k, bo + os, none⟩) n cc]).run P w = .ok (.slice (some ⟨b, 0, none⟩) (len + n) (len + n + (r - n))) (w.setCells b (0 + len * i.size) ((List.range n).map h)) := by
      rw [show len + n + (r - n) = len + r by omega]; exact hrun
    refine ⟨[b, r - n], _, rfl, .inl (run_value hrun2), ?_⟩
    have hp := post_cells (m := listMem [some ⟨b, true, 0, spr (len + r) len g z⟩, some ⟨k, false, bo, S⟩]) (w := w) (p := 0) (b := ⟨b, true, 0, spr (len + r) len g z⟩) (o0 := len) (cs := (List.range n).map h)
      (c := spr (len + r) (len + n) (catV g len h) z) hm ha rfl rfl (fun j hj => ⟨z, hget j (by simpa using hj)⟩) (fun j => by
        have hlen : ((List.range n).map h).length = n := by simp
        rw [hlen]
        by_cases hj : j < len + r
        · rw [spr, spr, tabF_in hj, tabF_in hj]
          by_cases h2 : j < len
          · rw [if_neg (show ¬ (len ≤ j ∧ j < len + n) by omega), if_pos h2, if_pos (show j < len + n by omega), catV, if_pos h2]
          · by_cases h3 : j < len + n
            · rw [if_pos (show len ≤ j ∧ j < len + n by omega), if_pos h3, catV, if_neg h2, List.getElem?_map, List.getElem?_range (by omega)]; rfl
            · rw [if_neg (show ¬ (len ≤ j ∧ j < len + n) by omega), if_neg h3, if_neg h2]
        · rw [spr, spr, tabF_out hj, tabF_out hj, if_neg (show ¬ (len ≤ j ∧ j < len + n) by omega)])
    rw [listMem_set0] at hp
    have e1 : len + n + (r - n) = len + r := by omega
    simpa [hsz, e1] using hp
  · -- it grows
    have hg : len + r < len + n := by omega
    have hrun := run_append_grow (P := P) w t ty e i z ht hi hz ⟨b, 0, none⟩ len (len + r) ((List.range len).map g) (by simp [hsz])
      (fun j v hj => by
        obtain ⟨hjn, rfl⟩ := map_range_get hj
        rw [add_none, Nat.zero_add]
        have := hA.cell j (g j) (by rw [spr, tabF_in (by omega), if_pos hjn])
        rw [Nat.zero_add] at this; exact this)
      ⟨k, bo + os, none⟩ n cc ((List.range n).map h) (by simp [hsz]) hnews hg (by omega) (growslice_fits hg hb)
    have hge := grownCap_ge w (len + n) (len + r) e
    obtain ⟨q, hq⟩ : ∃ q, grownCap w (len + n) (len + r) e = len + n + q := ⟨_, (Nat.add_sub_cancel' hge).symm⟩
    rw [hq] at hrun
    refine ⟨[w.heap.size, q], _, rfl, .inl (run_value hrun), ?_⟩
    have hp0 := Post.drew hm ha
    have hp := hp0.trans (post_new hp0.holds hp0.apart 0 (((List.range len).map g).toArray ++ ((List.range n).map h).toArray ++ Builtin.zeroCells z.cells (len + n + q - (len + n))) e)
    rw [show w.drew.heap.size = w.heap.size from rfl, listMem_set0] at hp
    have hc : ∀ o v, (spr (len + n + q) (len + n) (catV g len h) z).get o = some v →
        (Cont.lit (((List.range len).map g).toArray ++ ((List.range n).map h).toArray ++ Builtin.zeroCells z.cells (len + n + q - (len + n))).toList).get o = some v := fun o v ho => by
      rw [hzc, show len + n + q - (len + n) = q by omega]
      simp only [Cont.get, Array.toList_append, List.append_assoc, zeroCells_one]
      by_cases h0 : o < len + n + q
      · rw [spr, tabF_in h0] at ho
        by_cases h2 : o < len
        · rw [if_pos (by omega), catV, if_pos h2] at ho
          rw [List.getElem?_append_left (by simp; exact h2), List.getElem?_map, List.getElem?_range h2]; exact ho
        · rw [List.getElem?_append_right (by simp; omega)]
          by_cases h3 : o < len + n
          · rw [if_pos h3, catV, if_neg h2] at ho
            rw [List.getElem?_append_left (by simp; omega), List.getElem?_map]
            simp only [List.length_map, List.length_range]
            rw [List.getElem?_range (by omega)]; exact ho
          · rw [if_neg h3] at ho
            rw [List.getElem?_append_right (by simp; omega), List.getElem?_replicate, if_pos (by simp; omega)]; exact ho
      · rw [spr, tabF_out h0] at ho; cases ho
    have hN := (hp.holds 0 _ rfl).recont hc
    refine ⟨fun p c hpc => ?_, fun p p' c d hpp hc1 hd ho => ?_, ⟨hp.adv.os, hp.adv.output, hp.adv.tape, hp.adv.size, hp.adv.heap, fun j hj => ?_, fun p c hpc ho => ?_⟩⟩
    · rcases p with _ | _ | p
      · injection hpc with hpc; subst hpc; exact hN
      · injection hpc with hpc; subst hpc; exact hp.holds 1 _ rfl
      · simp [listMem] at hpc
    · rcases p with _ | _ | p
      · injection hc1 with hc1; subst hc1
        rcases p' with _ | _ | p'
        · exact absurd rfl hpp
        · injection hd with hd; subst hd
          have h01 := hp.apart 0 1 _ _ (by omega) rfl rfl rfl
          exact h01
        · simp [listMem] at hd
      · injection hc1 with hc1; subst hc1; cases ho
      · simp [listMem] at hc1
    · obtain ⟨p, c, hpc, ho, rfl⟩ := hj
      rcases p with _ | _ | p
      · injection hpc with hpc; subst hpc
        exact .inr (Nat.le_refl _)
      · injection hpc with hpc; subst hpc; cases ho
      · simp [listMem] at hpc
    · rcases p with _ | _ | p
      · injection hpc with hpc; subst hpc; cases ho
      · exact hpc
      · simp [listMem] at hpc

/-- One read block, and a new one. -/
theorem post_made {x : Blk} {w w' : World} (hx : Holds x w) (hro : x.own = false) {N : Blk} (hn : N.own = true) (hname : N.name = w.heap.size) (hN : Holds N w') (hos : w'.os = w.os) (hout : w'.output = w.output) (htape : w'.tape = w.tape)
    (hsz : w.heap.size ≤ w'.heap.size) (hheap : ∀ j, j < w.heap.size → w'.heap[j]? = w.heap[j]?) : Post (listMem [some x]) w (listMem [some x, some N]) w' := by
  refine ⟨fun p c hpc => ?_, fun p p' c d hpp hc1 hd ho => ?_, ⟨hos, hout, htape, hsz, fun j hj _ => hheap j hj, fun j hj => ?_, fun p c hpc ho => ?_⟩⟩
  · rcases p with _ | _ | p
    · injection hpc with hpc; subst hpc; exact hx.of_heap hsz (hheap _ hx.lt)
    · injection hpc with hpc; subst hpc; exact hN
    · simp [listMem] at hpc
  · rcases p with _ | _ | p
    · injection hc1 with hc1; subst hc1; rw [hro] at ho; cases ho
    · injection hc1 with hc1; subst hc1
      rcases p' with _ | _ | p'
      · injection hd with hd; subst hd
        have := hx.lt
        rw [hname]; omega
      · exact absurd rfl hpp
      · simp [listMem] at hd
    · simp [listMem] at hc1
  · obtain ⟨p, c, hpc, ho, rfl⟩ := hj
    rcases p with _ | _ | p
    · injection hpc with hpc; subst hpc; rw [hro] at ho; cases ho
    · injection hpc with hpc; subst hpc; rw [hname]; exact .inr (Nat.le_refl _)
    · simp [listMem] at hpc
  · rcases p with _ | _ | p
    · exact hpc
    · injection hpc with hpc; subst hpc; rw [hn] at ho; cases ho
    · simp [listMem] at hpc

theorem srun_append_nil (ht : P.underlying t = some (.slice e)) (hi : P.info? e = some i) (hz : i.zero = some z) (hsz : i.size = 1) (hzc : z.cells = #[z])
    {k bo os n cc : Nat} {h : Nat → Value} {S : Cont} (hS : ∀ j, j < n → S.get (os + j) = some (h j)) (hn0 : 0 < n)
    (hb : n * i.bytes ≤ 140737488355328) (hb2 : n ≤ 9223372036854775807) :
    SRuns P (appendSem t ty (.slice none 0 0) (.slice (some ⟨k, bo + os, none⟩) n cc)) [⟨k, false, bo, S⟩] 2
      (fun ns => .slice (some ⟨ns.getD 0 0, 0, none⟩) n (n + ns.getD 1 0))
      (fun ns => [some ⟨k, false, bo, S⟩, some ⟨ns.getD 0 0, true, 0, spr (n + ns.getD 1 0) n h z⟩]) := by
  intro w hall ha
  have hK : Holds ⟨k, false, bo, S⟩ w := hall _ (by simp)
  have hnews : ∀ j u, ((List.range n).map h)[j]? = some u → w.cell? ((⟨k, bo + os, none⟩ : Addr).add j) = some u := fun j u hj => by
    obtain ⟨hjn, rfl⟩ := map_range_get hj
    rw [add_none, Nat.add_assoc]
    exact hK.cell _ _ (hS j hjn)
  have hrun := run_append_nil (P := P) w t ty e i z ht hi hz ⟨k, bo + os, none⟩ n cc ((List.range n).map h) (by simp [hsz]) hnews hn0 (by omega) (by omega)
  have hge := grownCap_ge w n 0 e
  obtain ⟨q, hq⟩ : ∃ q, grownCap w n 0 e = n + q := ⟨_, (Nat.add_sub_cancel' hge).symm⟩
  rw [hq] at hrun
  refine ⟨[w.heap.size, q], _, rfl, .inl (run_value hrun), ?_⟩
  have hp := post_new (m := fun _ => none) (w := w.drew) (fun p b h => by cases h) (fun p q b c _ h => by cases h) 0 (((List.range n).map h).toArray ++ Builtin.zeroCells z.cells (n + q - n)) e
  have hN0 := hp.holds 0 ⟨w.heap.size, true, 0, .lit (((List.range n).map h).toArray ++ Builtin.zeroCells z.cells (n + q - n)).toList⟩ rfl
  have hc : ∀ o v, (spr (n + q) n h z).get o = some v → (Cont.lit (((List.range n).map h).toArray ++ Builtin.zeroCells z.cells (n + q - n)).toList).get o = some v := fun o v ho => by
    rw [hzc, show n + q - n = q by omega]
    simp only [Cont.get, Array.toList_append, zeroCells_one]
    by_cases h0 : o < n + q
    · rw [spr, tabF_in h0] at ho
      by_cases h2 : o < n
      · rw [if_pos h2] at ho
        rw [List.getElem?_append_left (by simp; exact h2), List.getElem?_map, List.getElem?_range h2]; exact ho
      · rw [if_neg h2] at ho
        rw [List.getElem?_append_right (by simp; omega), List.getElem?_replicate, if_pos (by simp; omega)]; exact ho
    · rw [spr, tabF_out h0] at ho; cases ho
  exact post_made hK rfl rfl rfl (hN0.recont hc) rfl rfl rfl (by simp) (fun j hj => by
    simp only [World.alloc]
    rw [Array.getElem?_push, if_neg (by show ¬ j = w.heap.size; omega)]; rfl)

/-- What is made: a row of cells that are reckoned without looking at the world. -/
theorem srun_made {s : Sem Next} {cs : Array Value} {len cap : Nat} (hs : ∀ w : World, s.run P w = .ok (.value (.slice (some ⟨w.heap.size, 0, none⟩) len cap)) (w.alloc (.cells cs e))) :
    SRuns P s [] 1 (fun ns => .slice (some ⟨ns.getD 0 0, 0, none⟩) len cap) (fun ns => [some ⟨ns.getD 0 0, true, 0, .lit cs.toList⟩]) := by
  intro w hall ha
  have hp := post_new (m := fun _ => none) (w := w) (fun p b h => by cases h) (fun p q b c _ h => by cases h) 0 cs e
  refine ⟨[w.heap.size], _, rfl, .inl (hs w), ?_⟩
  have e0 : memApply (fun _ => none) [(0, some ⟨w.heap.size, true, 0, .lit cs.toList⟩)] = listMem [some ⟨w.heap.size, true, 0, .lit cs.toList⟩] := by
    funext p; rcases p with _ | p <;> rfl
  have e1 : (fun _ => none : Nat → Option Blk) = listMem (([] : List Blk).map some) := by funext p; simp [listMem]
  rw [e0, e1] at hp
  exact hp

def buildSem (t : TypeId) (len : Nat) (parts : Array (Nat × Value)) : Sem Next := do pure (.value (← Instr.buildSlice t len parts))
def bsCells (z : Value) (size len : Nat) (parts : Array (Nat × Value)) : Option (Array Value) :=
  Instr.fill (fun i => some (i * size, size)) ((Array.range (len * size)).map (z.cells[· % z.cells.size]!)) parts.toList
theorem srun_build (ht : P.underlying t = some (.slice e)) (hi : P.info? e = some i) (hz : i.zero = some z) {len : Nat} {parts : Array (Nat × Value)} {cs : Array Value}
    (h0 : len * i.size ≠ 0) (hb : len * i.size ≤ 16777216) (hcs : bsCells z i.size len parts = some cs) :
    SRuns P (buildSem t len parts) [] 1 (fun ns => .slice (some ⟨ns.getD 0 0, 0, none⟩) len len) (fun ns => [some ⟨ns.getD 0 0, true, 0, .lit cs.toList⟩]) := srun_made (e := e) fun w => by
  refine run_value ?_
  have hb' : ¬ (16777216 < len * i.size) := by omega
  have hcs' := hcs
  unfold bsCells at hcs'
  simp [Instr.buildSlice, run_underlying ht, sizeOf, typeInfo, hi, zeroValue, hz, h0, hb', hcs', newRow]

theorem SRuns.recont {s : Sem Next} {v : List Nat → Value} {C C' : List Nat → Cont} (h : SRuns P s [] 1 v (fun ns => [some ⟨ns.getD 0 0, true, 0, C ns⟩])) (hc : ∀ ns o v, (C' ns).get o = some v → (C ns).get o = some v) :
    SRuns P s [] 1 v (fun ns => [some ⟨ns.getD 0 0, true, 0, C' ns⟩]) := by
  intro w hall ha
  obtain ⟨ns, w', h1, h2, hp⟩ := h w hall ha
  refine ⟨ns, w', h1, h2, ⟨fun p c hpc => ?_, fun p p' c d hpp hc1 hd ho => ?_, ⟨hp.adv.os, hp.adv.output, hp.adv.tape, hp.adv.size, hp.adv.heap, fun j hj => ?_, fun p c hpc ho => ?_⟩⟩⟩
  · rcases p with _ | p
    · injection hpc with hpc; subst hpc; exact (hp.holds 0 _ rfl).recont (hc ns)
    · simp [listMem] at hpc
  · rcases p with _ | p
    · rcases p' with _ | p'
      · exact absurd rfl hpp
      · simp [listMem] at hd
    · simp [listMem] at hc1
  · obtain ⟨p, c, hpc, ho, rfl⟩ := hj
    rcases p with _ | p
    · injection hpc with hpc; subst hpc
      exact hp.adv.names _ ⟨0, _, rfl, rfl, rfl⟩
    · simp [listMem] at hpc
  · rcases p with _ | p
    · injection hpc with hpc; subst hpc; cases ho
    · simp [listMem] at hpc

def makeSem (t : TypeId) (len cap : Value) : Sem Next := do pure (.value (← Instr.makeSlice t len cap))
theorem srun_make (ht : P.underlying t = some (.slice e)) (hi : P.info? e = some i) (hz : i.zero = some z) (hsz : i.size = 1) (hzc : z.cells = #[z]) {n : Nat} (hb : (i.bytes : Int) * n ≤ 281474976710656) (hb2 : n ≤ 9223372036854775807) :
    SRuns P (makeSem t (nat n) (nat n)) [] 1 (fun ns => .slice (some ⟨ns.getD 0 0, 0, none⟩) n n) (fun ns => [some ⟨ns.getD 0 0, true, 0, tabF n fun _ => z⟩]) := by
  refine (srun_made (P := P) (e := e) (s := makeSem t (nat n) (nat n)) (cs := madeCells z.cells (n * i.size)) (len := n) (cap := n) fun w => ?_).recont fun ns o v ho => ?_
  · refine run_value ?_
    have := run_make (P := P) w t e i z ht hi hz .i64 .i64 (n : Int) (n : Int) (by omega) (by omega) hb (by omega)
    simpa [nat] using this
  · by_cases hon : o < n
    · rw [tabF_in hon] at ho
      rw [hzc, hsz]
      simp [Cont.get, madeCells, hon, Nat.mod_one]
      simpa using ho
    · rw [tabF_out hon] at ho; cases ho

theorem is_len {x : Operand} (ht : P.underlying t = some (.slice e)) (a : Option Addr) (n c : Nat) : IsOp P (.call { callee := .builtin .len, args := #[x], argTypes := #[t] }) [.slice a n c] (nat n) := by
  intro ρ o ho hv
  rw [ho] at hv
  have hv' : ρ x = .slice a n c := by simpa [Op.operands, Call.operands] using hv
  unfold execOp
  rw [ho]
  show pureRun P ((Builtin.len_ #[t] o.type (#[x].map ρ)) >>= fun v => (pure (Next.value v) : Sem Next)) = _
  have e1 : (#[x].map ρ : Array Value) = #[.slice a n c] := by simp [hv']
  have e2 : pureRun P (Builtin.len_ #[t] o.type #[.slice a n c]) = some (nat n) := by
    show pureRun P (underlying t >>= fun d => _) = _
    rw [pureRun_bind', pureRun_underlying ht]
    rfl
  rw [e1, pureRun_bind', e2]
  rfl
end
end Go.Eng
namespace Go.Eng
/-- An element of one cell. -/
def OneC (P : Program) (e : TypeId) (z : Value) (B : Nat) : Prop := ∃ i, P.info? e = some i ∧ i.zero = some z ∧ i.size = 1 ∧ i.bytes = B ∧ z.cells = #[z]
def oneB (P : Program) (e : TypeId) : Option (Value × Nat × Nat) := match P.info? e with
  | some i => match i.zero with
    | some z => some (z, i.size, i.bytes)
    | none => none
  | none => none
theorem oneC_of {P : Program} {e : TypeId} {z : Value} {B : Nat} (h : oneB P e = some (z, 1, B)) (hz : z.cells = #[z]) : OneC P e z B := by
  unfold oneB at h
  split at h
  · rename_i i hi
    split at h
    · rename_i z' hz'
      injection h with h
      injection h with h1 h2
      injection h2 with h2 h3
      subst h1
      exact ⟨i, hi, hz', h2, h3, hz⟩
    · cases h
  · cases h
def catU {α : Type} (g : Nat → α) (len : Nat) (h : Nat → α) : Nat → α := fun j => if j < len then g j else h (j - len)
theorem catV_K {α : Type} (K : α → Value) (g h : Nat → α) (len : Nat) : catV (fun k => K (g k)) len (fun k => K (h k)) = fun k => K (catU g len h k) := by
  funext k; unfold catV catU; split <;> rfl
theorem lit1_get (x : Value) : ∀ j, j < 1 → (Cont.lit [x]).get (0 + j) = some x := fun j hj => by
  have : j = 0 := by omega
  subst this; rfl
theorem to_noroomK {c len : Nat} {α : Type} {K : α → Value} {g g' : Nat → α} {z : Value} (h : len ≤ c) (hg : ∀ k, k < len → g k = g' k) : ∀ o v, (tabF len fun k => K (g k)).get o = some v → (spr c len (fun k => K (g' k)) z).get o = some v := fun o v ho => by
  by_cases hl : o < len
  · rw [tabF_in hl, hg o hl] at ho
    rw [spr, tabF_in (by omega), if_pos hl]; exact ho
  · rw [tabF_out hl] at ho; cases ho
section
variable {P : Program} {t ty e : TypeId}
theorem mk_append {B : Nat} {z : Value} (ht : P.underlying t = some (.slice e)) (h1 : OneC P e z B) (b len r k bo os n cc : Nat) {α : Type} (K : α → Value) (g h : Nat → α) (S : Cont) (hS : ∀ j, j < n → S.get (os + j) = some (K (h j)))
    (hK : ∀ a, (K a).oneCell' = true) (hb : (len + n) * B ≤ 140737488355328 ∧ len + n ≤ 9223372036854775807) :
    SRuns P (appendSem t ty (.slice (some ⟨b, 0, none⟩) len (len + r)) (.slice (some ⟨k, bo + os, none⟩) n cc)) [⟨b, true, 0, spr (len + r) len (fun k => K (g k)) z⟩, ⟨k, false, bo, S⟩] 2
      (fun ns => .slice (some ⟨ns.getD 0 0, 0, none⟩) (len + n) (len + n + ns.getD 1 0))
      (fun ns => [some ⟨ns.getD 0 0, true, 0, spr (len + n + ns.getD 1 0) (len + n) (fun k => K (catU g len h k)) z⟩, some ⟨k, false, bo, S⟩]) := by
  obtain ⟨i, hi, hz, hsz, hB, hzc⟩ := h1
  subst hB
  have := srun_append (P := P) (t := t) (ty := ty) ht hi hz hsz hzc (b := b) (len := len) (r := r) (k := k) (bo := bo) (os := os) (n := n) (cc := cc) (g := fun k => K (g k)) (h := fun k => K (h k)) (S := S) hS (fun j _ => hK _) hb.1 hb.2
  rw [catV_K] at this
  exact this
theorem mk_append_nil {B : Nat} {z : Value} (ht : P.underlying t = some (.slice e)) (h1 : OneC P e z B) (k bo os n cc : Nat) {α : Type} (K : α → Value) (h : Nat → α) (S : Cont) (hS : ∀ j, j < n → S.get (os + j) = some (K (h j)))
    (hb : 0 < n ∧ n * B ≤ 140737488355328 ∧ n ≤ 9223372036854775807) :
    SRuns P (appendSem t ty (.slice none 0 0) (.slice (some ⟨k, bo + os, none⟩) n cc)) [⟨k, false, bo, S⟩] 2
      (fun ns => .slice (some ⟨ns.getD 0 0, 0, none⟩) n (n + ns.getD 1 0))
      (fun ns => [some ⟨k, false, bo, S⟩, some ⟨ns.getD 0 0, true, 0, spr (n + ns.getD 1 0) n (fun k => K (h k)) z⟩]) := by
  obtain ⟨i, hi, hz, hsz, hB, hzc⟩ := h1
  subst hB
  exact srun_append_nil ht hi hz hsz hzc hS hb.1 hb.2.1 hb.2.2
theorem mk_make {B : Nat} {z : Value} (ht : P.underlying t = some (.slice e)) (h1 : OneC P e z B) (n : Nat) (hb : (B : Int) * (n : Int) ≤ 281474976710656 ∧ n ≤ 9223372036854775807) :
    SRuns P (makeSem t (nat n) (nat n)) [] 1 (fun ns => .slice (some ⟨ns.getD 0 0, 0, none⟩) n n) (fun ns => [some ⟨ns.getD 0 0, true, 0, tabF n fun _ => z⟩]) := by
  obtain ⟨i, hi, hz, hsz, hB, hzc⟩ := h1
  subst hB
  exact srun_make ht hi hz hsz hzc hb.1 hb.2
theorem mk_build {B : Nat} {z : Value} (h1 : OneC P e z B) (len : Nat) (parts : Array (Nat × Value)) (cs : Array Value) (ht : P.underlying t = some (.slice e)) (h0 : len ≠ 0 ∧ len ≤ 16777216) (hcs : bsCells z 1 len parts = some cs) :
    SRuns P (buildSem t len parts) [] 1 (fun ns => .slice (some ⟨ns.getD 0 0, 0, none⟩) len len) (fun ns => [some ⟨ns.getD 0 0, true, 0, .lit cs.toList⟩]) := by
  obtain ⟨i, hi, hz, hsz, hB, hzc⟩ := h1
  exact srun_build ht hi hz (by rw [hsz]; omega) (by rw [hsz]; omega) (by rw [hsz]; exact hcs)
end
end Go.Eng
namespace Go.Eng
/-! ### what is only read need not be told -/
def dkn : List Bool → List (Option Blk) → List (Option Blk)
  | _, [] => []
  | [], x :: l => x :: l
  | true :: r, _ :: l => none :: dkn r l
  | false :: r, x :: l => x :: dkn r l
theorem dkn_sub : ∀ (fl : List Bool) (l : List (Option Blk)) (p : Nat) (b : Blk), listMem (dkn fl l) p = some b → listMem l p = some b
  | [], [], p, b, h => h
  | true :: _, [], p, b, h => h
  | false :: _, [], p, b, h => h
  | [], x :: l, p, b, h => h
  | true :: r, x :: l, 0, b, h => by cases h
  | true :: r, x :: l, p + 1, b, h => dkn_sub r l p b h
  | false :: r, x :: l, 0, b, h => h
  | false :: r, x :: l, p + 1, b, h => dkn_sub r l p b h
theorem Post.sub {m m' m'' : Nat → Option Blk} {w w' : World} (h : Post m w m' w') (hs : ∀ p b, m'' p = some b → m' p = some b) : Post m w m'' w' :=
  ⟨fun p b hp => h.holds p b (hs p b hp), fun p q b c hpq hb hc ho => h.apart p q b c hpq (hs p b hb) (hs q c hc) ho,
    ⟨h.adv.os, h.adv.output, h.adv.tape, h.adv.size, h.adv.heap, fun k ⟨p, b, hp, ho, he⟩ => h.adv.names k ⟨p, b, hs p b hp, ho, he⟩, fun p b hp ho => h.adv.ro p b (hs p b hp) ho⟩⟩
theorem Runs.dark {P : Program} {f : FuncId} {args : List Value} {bs : List Blk} {k : Nat} {v : List Nat → Value} {out : List Nat → List (Option Blk)} (fl : List Bool) (h : Runs P f args bs k v out) :
    Runs P f args bs k v (fun ns => dkn fl (out ns)) := fun w hb ha => Calls.mono (h w hb ha) fun _ _ ⟨ns, h1, h2, h3⟩ => ⟨ns, h1, h2, h3.sub (dkn_sub fl (out ns))⟩
theorem SRuns.dark {P : Program} {s : Sem Next} {bs : List Blk} {k : Nat} {v : List Nat → Value} {out : List Nat → List (Option Blk)} (fl : List Bool) (h : SRuns P s bs k v out) :
    SRuns P s bs k v (fun ns => dkn fl (out ns)) := fun w hb ha => have ⟨ns, w', h1, h2, h3⟩ := h w hb ha; ⟨ns, w', h1, h2, h3.sub (dkn_sub fl (out ns))⟩
end Go.Eng

namespace Go.Eng
set_option exponentiation.threshold 600

theorem or_low_byte {g : UInt64} {b : UInt8} {s : Nat} (hs : s ≤ 56) (hg : g.toNat < 2 ^ s) : (g ||| shl64 b.toUInt64 s).toNat = g.toNat + b.toNat * 2 ^ s := by
  have hb := b.toNat_lt
  have hp : 2 ^ s ≤ 2 ^ 56 := Nat.pow_le_pow_right (by omega) hs
  have h1 : b.toNat * 2 ^ s ≤ 255 * 2 ^ s := Nat.mul_le_mul_right _ (by omega)
  rw [UInt64.toNat_or, shl64_toNat, UInt8.toNat_toUInt64, Nat.mod_eq_of_lt (show b.toNat * 2 ^ s < 18446744073709551616 by omega), Nat.mul_comm, or_parts hg]
/-- The number of some bytes, the highest one first. -/
def beN (f : Nat → UInt8) (n i : Nat) : Nat := numOf (fun j => (f (n - 1 - j)).toNat) i
theorem beN_lt (f : Nat → UInt8) (n i : Nat) : beN f n i < 256 ^ i := numOf_lt fun _ _ => (f _).toNat_lt
theorem of_step (a : N4) (f : Nat → UInt8) (n i : Nat) (hi : i < 32) (ha : a.val = beN f n i) :
    (a.set (i / 8) (a.get (i / 8) ||| shl64 (f (n - 1 - i)).toUInt64 (i % 8 * 8))).val = beN f n (i + 1) := by
  have hj : i / 8 < 4 := by omega
  obtain ⟨q, hq⟩ := word_of a (i / 8) hj
  have ei : 8 * i = 64 * (i / 8) + i % 8 * 8 := by omega
  have hlt : a.val < 2 ^ (64 * (i / 8)) * 2 ^ (i % 8 * 8) := by
    rw [ha, ← Nat.pow_add, ← ei, ← pow256]; exact beN_lt f n i
  have hdiv : a.val / 2 ^ (64 * (i / 8)) < 2 ^ (i % 8 * 8) := Nat.div_lt_of_lt_mul hlt
  have hg : (a.get (i / 8)).toNat < 2 ^ (i % 8 * 8) := by omega
  have hs := a.set_val (i / 8) (a.get (i / 8) ||| shl64 (f (n - 1 - i)).toUInt64 (i % 8 * 8)) hj
  rw [or_low_byte (by omega) hg, Nat.mul_add] at hs
  have e : 2 ^ (64 * (i / 8)) * ((f (n - 1 - i)).toNat * 2 ^ (i % 8 * 8)) = (f (n - 1 - i)).toNat * 256 ^ i := by
    rw [pow256, ei, Nat.pow_add, Nat.mul_left_comm]
  rw [e] at hs
  show _ = numOf _ (i + 1)
  simp only [numOf]
  unfold beN at ha
  omega
def ofN (f : Nat → UInt8) (n : Nat) : N4 := match decide (32 < n) with
  | true => ⟨0, 0, 0, 0⟩
  | false => N4.ofNat (beN f n n)
def ofE (n : Nat) : Int := match decide (32 < n) with
  | true => 2
  | false => 0
theorem ofN_end {a : N4} {f : Nat → UInt8} {n : Nat} (ha : a.val = beN f n n) : a = N4.ofNat (beN f n n) := N4.eq_ofNat ha

/-! ### a number's bytes -/
def bytesF (a : N4) : Nat → UInt8 := fun k => if k < 32 then UInt8.ofNat (dig a.val (31 - k)) else 0
theorem byte_out (a : N4) (i : Nat) (hi : i < 32) : (shr64 (a.get (i / 8)) (i % 8 * 8)).toUInt8 = UInt8.ofNat (dig a.val i) := by
  apply UInt8.toNat_inj.1
  have h := byte_val a i hi
  rw [and255, Nat.mul_comm] at h
  rw [UInt64.toNat_toUInt8, h, UInt8.toNat_ofNat', Nat.mod_eq_of_lt (dig_lt _ _)]
theorem bytes_step {f : Nat → UInt8} {a : N4} {i : Nat} (hi : i < 32) (h : ∀ k, f k = if k < 32 ∧ 32 ≤ k + i then UInt8.ofNat (dig a.val (31 - k)) else 0) :
    ∀ k, upd f (31 - i) (shr64 (a.get (i / 8)) (i % 8 * 8)).toUInt8 k = if k < 32 ∧ 32 ≤ k + (i + 1) then UInt8.ofNat (dig a.val (31 - k)) else 0 := fun k => by
  unfold upd
  by_cases hk : k = 31 - i
  · subst hk
    rw [if_pos rfl, if_pos (show 31 - i < 32 ∧ 32 ≤ 31 - i + (i + 1) by omega), byte_out a i hi, show 31 - (31 - i) = i by omega]
  · rw [if_neg hk, h k]
    by_cases h1 : k < 32 ∧ 32 ≤ k + i
    · rw [if_pos h1, if_pos (show k < 32 ∧ 32 ≤ k + (i + 1) by omega)]
    · rw [if_neg h1, if_neg (show ¬ (k < 32 ∧ 32 ≤ k + (i + 1)) by omega)]
theorem bytes_end {f : Nat → UInt8} {a : N4} {i : Nat} (hi : i = 32) (h : ∀ k, f k = if k < 32 ∧ 32 ≤ k + i then UInt8.ofNat (dig a.val (31 - k)) else 0) : f = bytesF a := by
  funext k
  rw [h k, bytesF]
  by_cases hk : k < 32
  · rw [if_pos hk, if_pos (show k < 32 ∧ 32 ≤ k + i by omega)]
  · rw [if_neg hk, if_neg (show ¬ (k < 32 ∧ 32 ≤ k + i) by omega)]
theorem beN_bytes (a : N4) : beN (bytesF a) 32 32 = a.val := by
  have h1 : beN (bytesF a) 32 32 = numOf (dig a.val) 32 := numOf_congr fun j hj => by
    show (bytesF a (32 - 1 - j)).toNat = _
    rw [bytesF, if_pos (show 32 - 1 - j < 32 by omega), UInt8.toNat_ofNat', Nat.mod_eq_of_lt (dig_lt _ _), show 31 - (32 - 1 - j) = j by omega]
  rw [h1, numOf_dig, Nat.mod_eq_of_lt]
  exact Nat.lt_of_lt_of_le a.val_lt (by decide)
theorem ofN_bytes (a : N4) : ofN (bytesF a) 32 = a := by
  show N4.ofNat (beN (bytesF a) 32 32) = a
  rw [beN_bytes, N4.ofNat_val]

/-! ### the document's -/
theorem rof_step {d : Nat → Nat} {f : Nat → UInt8} {n i : Nat} (hi : i < n) (h : ∀ k, d k = if k < n ∧ n ≤ k + i then (f (n - 1 - k)).toNat else 0) :
    ∀ k, upd d (n - 1 - i) (f i).toNat k = if k < n ∧ n ≤ k + (i + 1) then (f (n - 1 - k)).toNat else 0 := fun k => by
  unfold upd
  by_cases hk : k = n - 1 - i
  · subst hk
    rw [if_pos rfl, if_pos (show n - 1 - i < n ∧ n ≤ n - 1 - i + (i + 1) by omega), show n - 1 - (n - 1 - i) = i by omega]
  · rw [if_neg hk, h k]
    by_cases h1 : k < n ∧ n ≤ k + i
    · rw [if_pos h1, if_pos (show k < n ∧ n ≤ k + (i + 1) by omega)]
    · rw [if_neg h1, if_neg (show ¬ (k < n ∧ n ≤ k + (i + 1)) by omega)]
theorem rof_end {d : Nat → Nat} {f : Nat → UInt8} {n i : Nat} (hn : n ≤ 32) (hi : i = n) (h : ∀ k, d k = if k < n ∧ n ≤ k + i then (f (n - 1 - k)).toNat else 0) : vecV 64 (fun k => nat (d k)) = digV (beN f n n) := by
  have hd : ∀ k, d k < 256 := fun k => by
    rw [h k]; split
    · exact (f _).toNat_lt
    · omega
  have hnum : ∀ m, n ≤ m → numOf d m = beN f n n := fun m => by
    induction m with
    | zero => intro hm; have : n = 0 := by omega
              subst this; rfl
    | succ m ih =>
      intro hm
      by_cases hmn : n = m + 1
      · subst hmn
        exact numOf_congr fun j hj => by rw [h j, if_pos (show j < m + 1 ∧ m + 1 ≤ j + i by omega)]
      · simp only [numOf]
        rw [ih (by omega), h m, if_neg (show ¬ (m < n ∧ n ≤ m + i) by omega)]; omega
  exact vecV_ext fun k hk => by rw [dig_of_num (fun i _ => hd i) (hnum 64 (by omega)) k hk]

/-! ### alike -/
def sameS (f : Nat → UInt8) (n : Nat) (g : Nat → UInt8) (m : Nat) : Bool := decide (n = m ∧ ∀ k, k < n → f k = g k)
theorem same_len {f g : Nat → UInt8} {n m : Nat} (h : n ≠ m) : false = sameS f n g m := (decide_eq_false fun e => h e.1).symm
theorem same_not {f g : Nat → UInt8} {n m i : Nat} (hi : i < n) (h : f i ≠ g i) : false = sameS f n g m := (decide_eq_false fun e => h (e.2 i hi)).symm
theorem same_yes {f g : Nat → UInt8} {n m i : Nat} (hnm : n = m) (hi : i = n) (h : ∀ k, k < i → f k = g k) : true = sameS f n g m := (decide_eq_true ⟨hnm, fun k hk => h k (by omega)⟩).symm
theorem same_next {f g : Nat → UInt8} {i : Nat} (h : ∀ k, k < i → f k = g k) (he : (!(f i == g i)) = false) : ∀ k, k < i + 1 → f k = g k := fun k hk => by
  by_cases hki : k = i
  · subst hki; have := bnot_f he; exact beq_iff_eq.1 this
  · exact h k (by omega)
theorem same_ne {f g : Nat → UInt8} {i : Nat} (he : (!(f i == g i)) = true) : f i ≠ g i := fun e => by rw [e] at he; simp at he
theorem same_self (f : Nat → UInt8) (n : Nat) : sameS f n f n = true := decide_eq_true ⟨rfl, fun _ _ => rfl⟩
section
variable {P : Program} {t t' : TypeId} {x y : Operand} (a b : UInt8)
theorem is_neq8 : IsOp P (.binOp .neq t x y t') [u8 a, u8 b] (.bool (!(a == b))) := isOp_bin guard_int (by
  show some (Value.bool (!((a.toNat : Int) == (b.toNat : Int)))) = _
  have : ((a.toNat : Int) == (b.toNat : Int)) = (a == b) := by
    rw [Bool.eq_iff_iff, beq_iff_eq, beq_iff_eq]
    constructor
    · intro h; exact UInt8.toNat_inj.1 (by omega)
    · intro h; rw [h]
  rw [this])
end
end Go.Eng
namespace Go.Eng
section bytesin
open Go.ChangeShapes Go.WideShapes Go.ChangeAt Go.RowKit Go.Deep
variable {H : Type} {enc : TypeId × Value → H} {P : Program}
theorem u8_of {n : Int} (h : (Lit.int .u8 n).wf = true) : ∃ x : UInt8, Value.int .u8 n = u8 x := by
  have hx : 0 ≤ n ∧ n ≤ 255 := by simpa [Lit.wf, IntKind.min, IntKind.max, IntKind.signed, IntKind.bits] using h
  refine ⟨.ofNat n.toNat, ?_⟩
  unfold u8
  rw [UInt8.toNat_ofNat', Nat.mod_eq_of_lt (by omega)]
  congr 1
  omega
theorem lt_of_cell {W : World} {a : Addr} {v : Value} (h : W.cell? a = some v) : a.block < W.heap.size := by
  by_cases hlt : a.block < W.heap.size
  · exact hlt
  · have : W.heap[a.block]? = none := by simp; omega
    simp [World.cell?, this] at h
theorem open_slice8 {r : Reach} {b0 : Nat} {W : World} {base : Nat} {sp : Nat → Bool} {held : Bool} {t e : TypeId} {v : Value} {d : DataW H} {ps : List MemPlace} (ht : P.underlying t = some (.slice e)) (he : P.underlying e = some (.int .u8))
    (hc : P.cellsOf e = 1) (hval : Value.okWide P W r b0 t v) (hd : DataW.Trod enc P W base sp held t v d ps) :
    (∃ ao c, v = .slice ao 0 c) ∨ ∃ (b o n c : Nat) (f : Nat → UInt8), v = .slice (some ⟨b, o, none⟩) n c ∧ n ≤ 9223372036854775807 ∧ Holds ⟨b, false, o, tabF n fun k => u8 (f k)⟩ W := by
  obtain ⟨a1, len, cap, rfl⟩ := okWide_slice ht hval
  obtain ⟨fuel, hf⟩ := hd
  by_cases h0 : len = 0
  · subst h0; exact .inl ⟨_, _, rfl⟩
  rcases open_slice1 ht hc hf with ⟨hcs, _⟩ | ⟨a, len', cap', m, n, V, D, Pl, hcs, _, hl, hm, hmm, _, hx⟩
  · simp [Value.cells] at hcs
    exact absurd hcs.2.1 h0
  · simp [Value.cells] at hcs
    obtain ⟨rfl, rfl, rfl⟩ := hcs
    have hlm : len ≤ m := by rw [hmm]; split <;> omega
    have hspot : a.spot = none := World.cell?_spot (by
      have := (hx 0 (by omega)).1
      rwa [show a.add 0 = a from by cases a; simp [Addr.add]] at this)
    obtain ⟨ab, ao, spot⟩ := a
    simp only at hspot
    subst hspot
    have hV : ∀ i, i < len → ∃ x : UInt8, V i = u8 x := fun i hi => by
      obtain ⟨_, h2⟩ := hx i (by omega)
      obtain ⟨x0, e0, _, w0⟩ := DataW.trod_int he h2
      simp at e0
      rw [e0]
      exact u8_of w0
    obtain ⟨f, hfV⟩ := choose_lt (α := UInt8) (p := fun i x => V i = u8 x) hV
    refine .inr ⟨ab, ao, len, cap, f, rfl, by unfold maxLen at hm; omega, ⟨lt_of_cell (hx 0 (by omega)).1, fun o v ho => ?_, fun h => by cases h⟩⟩
    by_cases hol : o < len
    · rw [tabF_in hol] at ho
      injection ho with ho
      have := (hx o (by omega)).1
      rw [add_none] at this
      rw [this, hfV o hol, ho]
    · rw [tabF_out hol] at ho; cases ho
end bytesin
end Go.Eng

namespace Go.Eng

/-- The cell at a place of a row whose elements have 'sz' cells. -/
def cf (sz : Nat) (g : Nat → List Value) (o : Nat) : Value := (g (o / sz)).getD (o % sz) undef
def sprE (sz c len : Nat) (g : Nat → List Value) (zc : List Value) : Cont := .tab c sz fun k => if k < len then g k else zc

section
variable {sz n len o : Nat} {E g h : Nat → List Value} {zc : List Value}
theorem div_lt_row (ho : o < n * sz) : o / sz < n := Nat.div_lt_of_lt_mul (by rw [Nat.mul_comm]; exact ho)
theorem div_ge_row (hsz : 0 < sz) (ho : ¬ o < n * sz) : ¬ o / sz < n := fun h => ho ((Nat.div_lt_iff_lt_mul hsz).1 h)
theorem tabE_in (hsz : 0 < sz) (hE : ∀ k, k < n → (E k).length = sz) (ho : o < n * sz) : (Cont.tab n sz E).get o = some (cf sz E o) := by
  have h2 : o % sz < (E (o / sz)).length := by rw [hE _ (div_lt_row ho)]; exact Nat.mod_lt _ hsz
  simp only [Cont.get, if_pos ho, cf]
  rw [List.getD_eq_getElem?_getD, List.getElem?_eq_getElem h2]; rfl
theorem tabE_out (ho : ¬ o < n * sz) : (Cont.tab n sz E).get o = none := by
  simp only [Cont.get, if_neg ho]
theorem cf_spr_lt (ho : o < len * sz) : cf sz (fun k => if k < len then g k else zc) o = cf sz g o := by
  show (if o / sz < len then g (o / sz) else zc).getD _ _ = _; rw [if_pos (div_lt_row ho)]; rfl
theorem cf_spr_ge (hsz : 0 < sz) (ho : ¬ o < len * sz) : cf sz (fun k => if k < len then g k else zc) o = zc.getD (o % sz) undef := by
  show (if o / sz < len then g (o / sz) else zc).getD _ _ = _; rw [if_neg (div_ge_row hsz ho)]
theorem cf_cat_lt (ho : o < len * sz) : cf sz (catU g len h) o = cf sz g o := by
  unfold cf catU; rw [if_pos (div_lt_row ho)]
theorem cf_cat_ge (hsz : 0 < sz) (ho : ¬ o < len * sz) : cf sz (catU g len h) o = cf sz h (o - len * sz) := by
  unfold cf catU
  rw [if_neg (div_ge_row hsz ho), Nat.mul_comm len sz, Nat.sub_mul_div, Nat.sub_mul_mod]
  rw [Nat.mul_comm]; omega
theorem sprE_get {c : Nat} (hsz : 0 < sz) (hg : ∀ k, (g k).length = sz) (hz : zc.length = sz) (ho : o < c * sz) : (sprE sz c len g zc).get o = some (if o < len * sz then cf sz g o else zc.getD (o % sz) undef) := by
  unfold sprE
  rw [tabE_in hsz (fun k _ => by split <;> first | exact hg _ | exact hz) ho]
  congr 1
  split
  · rename_i h; exact cf_spr_lt h
  · rename_i h; exact cf_spr_ge hsz h
theorem sprE_out {c : Nat} (ho : ¬ o < c * sz) : (sprE sz c len g zc).get o = none := tabE_out ho
/-- The room is forgotten. -/
theorem to_noroomE {c : Nat} (h : len ≤ c) (hg : ∀ k, k < len → g k = E k) : ∀ o v, (Cont.tab len sz g).get o = some v → (sprE sz c len E zc).get o = some v := fun o v ho => by
  by_cases hl : o < len * sz
  · have h2 : len * sz ≤ c * sz := Nat.mul_le_mul_right _ h
    simp only [sprE, Cont.get, if_pos hl, if_pos (show o < c * sz by omega), if_pos (div_lt_row hl)] at ho ⊢
    rw [← hg _ (div_lt_row hl)]; exact ho
  · rw [tabE_out hl] at ho; cases ho
theorem zeroCells_many {z : Array Value} (hz : z.toList = zc) (m k : Nat) (hk : k < m * zc.length) : (Builtin.zeroCells z m).toList[k]? = some (zc.getD (k % zc.length) undef) := by
  subst hz
  have hz0 : 0 < z.size := by
    rcases Nat.eq_zero_or_pos z.size with h0 | h0
    · simp [h0] at hk
    · exact h0
  have hk' : k < m * z.size := by simpa using hk
  have hm : k % z.size < z.size := Nat.mod_lt _ hz0
  simp [Builtin.zeroCells, hk', hm]
end

def zeroB (P : Program) (e : TypeId) : Option Value := match P.info? e with
  | some i => i.zero
  | none => none
section
variable {P : Program} {t ty e : TypeId} {i : TypeInfo} {z : Value} {sz : Nat} {zc : List Value}
theorem srunE_append (ht : P.underlying t = some (.slice e)) (hi : P.info? e = some i) (hz : i.zero = some z) (hsz : i.size = sz) (hs0 : 0 < sz) (hzc : z.cells.toList = zc) (hzl : zc.length = sz)
    {b len r k bo os n cc : Nat} {g h : Nat → List Value} {S : Cont} (hg : ∀ k, (g k).length = sz) (hh : ∀ k, (h k).length = sz) (hS : ∀ j, j < n * sz → S.get (os + j) = some (cf sz h j)) (h1 : ∀ j, j < n * sz → (cf sz h j).oneCell' = true)
    (hb : (len + n) * i.bytes ≤ 140737488355328) (hb2 : len + n ≤ 9223372036854775807) :
    SRuns P (appendSem t ty (.slice (some ⟨b, 0, none⟩) len (len + r)) (.slice (some ⟨k, bo + os, none⟩) n cc)) [⟨b, true, 0, sprE sz (len + r) len g zc⟩, ⟨k, false, bo, S⟩] 2
      (fun ns => .slice (some ⟨ns.getD 0 0, 0, none⟩) (len + n) (len + n + ns.getD 1 0))
      (fun ns => [some ⟨ns.getD 0 0, true, 0, sprE sz (len + n + ns.getD 1 0) (len + n) (catU g len h) zc⟩, some ⟨k, false, bo, S⟩]) := by
  intro w hall ha
  have hA : Holds ⟨b, true, 0, sprE sz (len + r) len g zc⟩ w := hall _ (by simp)
  have hK : Holds ⟨k, false, bo, S⟩ w := hall _ (by simp)
  have hcat : ∀ k, (catU g len h k).length = sz := fun k => by unfold catU; split <;> first | exact hg _ | exact hh _
  have hnews : ∀ j u, ((List.range (n * sz)).map (cf sz h))[j]? = some u → w.cell? ((⟨k, bo + os, none⟩ : Addr).add j) = some u := fun j u hj => by
    obtain ⟨hjn, rfl⟩ := map_range_get hj
    rw [add_none, Nat.add_assoc]
    exact hK.cell _ _ (hS j hjn)
  have hone : ∀ u ∈ (List.range (n * sz)).map (cf sz h), u.oneCell' = true := fun u hu => by
    obtain ⟨j, hj, rfl⟩ := List.mem_map.1 hu
    exact h1 j (List.mem_range.1 hj)
  have hm : ∀ p c, listMem [some ⟨b, true, 0, sprE sz (len + r) len g zc⟩, some ⟨k, false, bo, S⟩] p = some c → Holds c w := fun p c hc => hall c (List.mem_of_getElem? (listMem_some (l := [⟨b, true, 0, sprE sz (len + r) len g zc⟩, ⟨k, false, bo, S⟩]).1 hc))
  have hadd : (len + n) * sz = len * sz + n * sz := Nat.add_mul _ _ _
  by_cases hr : n ≤ r
  · -- there is room
    have hle : len * sz + n * sz ≤ (len + r) * sz := by rw [← hadd]; exact Nat.mul_le_mul_right _ (by omega)
    have hget : ∀ j, j < n * sz → ∃ u, (sprE sz (len + r) len g zc).get (len * sz + j) = some u := fun j hj => ⟨_, sprE_get hs0 hg hzl (by omega)⟩
    have hrun := run_append_room_cells (P := P) w t ty e i ht hi b 0 len (len + r) ⟨k, bo + os, none⟩ n cc ((List.range (n * sz)).map (cf sz h)) (by simp [hsz]) hnews hone (by omega)
      (fun j hj => by
        obtain ⟨u, hu⟩ := hget j (by simpa using hj)
        have := hA.cell _ _ hu
        rw [show 0 + len * i.size + j = 0 + (len * sz + j) by rw [hsz]; omega, this]; rfl)
      (fun j hj => by
        obtain ⟨u, hu⟩ := hget j (by simpa using hj)
        have := hA.free rfl _ _ hu
        rw [show 0 + len * i.size + j = 0 + (len * sz + j) by rw [hsz]; omega]; exact this)
    have hrun2 : (Builtin.append_ #[t, t] ty #[.slice (some ⟨b, 0, none⟩) len (len + r), .slice (some ⟨k, bo + os, none⟩) n cc]).run P w = .ok (.slice (some ⟨b, 0, none⟩) (len + n) (len + n + (r - n))) (w.setCells b (0 + len * i.size) ((List.range (n * sz)).map (cf sz h))) := by
      rw [show len + n + (r - n) = len + r by omega]; exact hrun
    refine ⟨[b, r - n], _, rfl, .inl (run_value hrun2), ?_⟩
    have hp := post_cells (m := listMem [some ⟨b, true, 0, sprE sz (len + r) len g zc⟩, some ⟨k, false, bo, S⟩]) (w := w) (p := 0) (b := ⟨b, true, 0, sprE sz (len + r) len g zc⟩) (o0 := len * sz) (cs := (List.range (n * sz)).map (cf sz h))
      (c := sprE sz (len + r) (len + n) (catU g len h) zc) hm ha rfl rfl (fun j hj => hget j (by simpa using hj)) (fun j => by
        have hlen : ((List.range (n * sz)).map (cf sz h)).length = n * sz := by simp
        rw [hlen]
        by_cases hj : j < (len + r) * sz
        · rw [sprE_get hs0 hcat hzl hj, sprE_get hs0 hg hzl hj, hadd]
          by_cases h2 : j < len * sz
          · rw [if_neg (show ¬ (len * sz ≤ j ∧ j < len * sz + n * sz) by omega), if_pos h2, if_pos (show j < len * sz + n * sz by omega), cf_cat_lt h2]
          · by_cases h3 : j < len * sz + n * sz
            · rw [if_pos (show len * sz ≤ j ∧ j < len * sz + n * sz by omega), if_pos h3, cf_cat_ge hs0 h2, List.getElem?_map, List.getElem?_range (by omega)]; rfl
            · rw [if_neg (show ¬ (len * sz ≤ j ∧ j < len * sz + n * sz) by omega), if_neg h3, if_neg h2]
        · rw [sprE_out hj, sprE_out hj, if_neg (show ¬ (len * sz ≤ j ∧ j < len * sz + n * sz) by omega)])
    rw [listMem_set0] at hp
    have e1 : len + n + (r - n) = len + r := by omega
    simpa [hsz, e1] using hp
  · -- it grows
    have hgr : len + r < len + n := by omega
    have hrun := run_append_grow (P := P) w t ty e i z ht hi hz ⟨b, 0, none⟩ len (len + r) ((List.range (len * sz)).map (cf sz g)) (by simp [hsz])
      (fun j v hj => by
        obtain ⟨hjn, rfl⟩ := map_range_get hj
        rw [add_none, Nat.zero_add]
        have hle : len * sz ≤ (len + r) * sz := Nat.mul_le_mul_right _ (by omega)
        have := hA.cell j (cf sz g j) (by rw [sprE_get hs0 hg hzl (by omega), if_pos hjn])
        rw [Nat.zero_add] at this; exact this)
      ⟨k, bo + os, none⟩ n cc ((List.range (n * sz)).map (cf sz h)) (by simp [hsz]) hnews hgr (by omega) (growslice_fits hgr hb)
    have hge := grownCap_ge w (len + n) (len + r) e
    obtain ⟨q, hq⟩ : ∃ q, grownCap w (len + n) (len + r) e = len + n + q := ⟨_, (Nat.add_sub_cancel' hge).symm⟩
    rw [hq] at hrun
    refine ⟨[w.heap.size, q], _, rfl, .inl (run_value hrun), ?_⟩
    have hp0 := Post.drew hm ha
    have hp := hp0.trans (post_new hp0.holds hp0.apart 0 (((List.range (len * sz)).map (cf sz g)).toArray ++ ((List.range (n * sz)).map (cf sz h)).toArray ++ Builtin.zeroCells z.cells (len + n + q - (len + n))) e)
    rw [show w.drew.heap.size = w.heap.size from rfl, listMem_set0] at hp
    have hc : ∀ o v, (sprE sz (len + n + q) (len + n) (catU g len h) zc).get o = some v →
        (Cont.lit (((List.range (len * sz)).map (cf sz g)).toArray ++ ((List.range (n * sz)).map (cf sz h)).toArray ++ Builtin.zeroCells z.cells (len + n + q - (len + n))).toList).get o = some v := fun o v ho => by
      rw [show len + n + q - (len + n) = q by omega]
      simp only [Cont.get, Array.toList_append, List.append_assoc]
      have hall3 : (len + n + q) * sz = len * sz + n * sz + q * sz := by rw [Nat.add_mul, Nat.add_mul]
      by_cases h0 : o < (len + n + q) * sz
      · rw [sprE_get hs0 hcat hzl h0, hadd] at ho
        by_cases h2 : o < len * sz
        · rw [if_pos (by omega), cf_cat_lt h2] at ho
          rw [List.getElem?_append_left (by simp; exact h2), List.getElem?_map, List.getElem?_range h2]; exact ho
        · rw [List.getElem?_append_right (by simp; omega)]
          by_cases h3 : o < len * sz + n * sz
          · rw [if_pos h3, cf_cat_ge hs0 h2] at ho
            rw [List.getElem?_append_left (by simp; omega), List.getElem?_map]
            simp only [List.length_map, List.length_range]
            rw [List.getElem?_range (by omega)]; exact ho
          · rw [if_neg h3] at ho
            rw [List.getElem?_append_right (by simp; omega)]
            simp only [List.length_map, List.length_range]
            rw [zeroCells_many hzc q _ (by rw [hzl]; omega), ← ho, hzl]
            rw [show o - len * sz - n * sz = o - sz * (len + n) by rw [Nat.mul_comm sz, hadd]; omega, Nat.sub_mul_mod]
            rw [Nat.mul_comm, hadd]; omega
      · rw [sprE_out h0] at ho; cases ho
    have hN := (hp.holds 0 _ rfl).recont hc
    refine ⟨fun p c hpc => ?_, fun p p' c d hpp hc1 hd ho => ?_, ⟨hp.adv.os, hp.adv.output, hp.adv.tape, hp.adv.size, hp.adv.heap, fun j hj => ?_, fun p c hpc ho => ?_⟩⟩
    · rcases p with _ | _ | p
      · injection hpc with hpc; subst hpc; exact hN
      · injection hpc with hpc; subst hpc; exact hp.holds 1 _ rfl
      · simp [listMem] at hpc
    · rcases p with _ | _ | p
      · injection hc1 with hc1; subst hc1
        rcases p' with _ | _ | p'
        · exact absurd rfl hpp
        · injection hd with hd; subst hd
          have h01 := hp.apart 0 1 _ _ (by omega) rfl rfl rfl
          exact h01
        · simp [listMem] at hd
      · injection hc1 with hc1; subst hc1; cases ho
      · simp [listMem] at hc1
    · obtain ⟨p, c, hpc, ho, rfl⟩ := hj
      rcases p with _ | _ | p
      · injection hpc with hpc; subst hpc
        exact .inr (Nat.le_refl _)
      · injection hpc with hpc; subst hpc; cases ho
      · simp [listMem] at hpc
    · rcases p with _ | _ | p
      · injection hpc with hpc; subst hpc; cases ho
      · exact hpc
      · simp [listMem] at hpc

theorem srunE_append_nil (ht : P.underlying t = some (.slice e)) (hi : P.info? e = some i) (hz : i.zero = some z) (hsz : i.size = sz) (hs0 : 0 < sz) (hzc : z.cells.toList = zc) (hzl : zc.length = sz)
    {k bo os n cc : Nat} {h : Nat → List Value} {S : Cont} (hh : ∀ k, (h k).length = sz) (hS : ∀ j, j < n * sz → S.get (os + j) = some (cf sz h j)) (hn0 : 0 < n)
    (hb : n * i.bytes ≤ 140737488355328) (hb2 : n ≤ 9223372036854775807) :
    SRuns P (appendSem t ty (.slice none 0 0) (.slice (some ⟨k, bo + os, none⟩) n cc)) [⟨k, false, bo, S⟩] 2
      (fun ns => .slice (some ⟨ns.getD 0 0, 0, none⟩) n (n + ns.getD 1 0))
      (fun ns => [some ⟨k, false, bo, S⟩, some ⟨ns.getD 0 0, true, 0, sprE sz (n + ns.getD 1 0) n h zc⟩]) := by
  intro w hall ha
  have hK : Holds ⟨k, false, bo, S⟩ w := hall _ (by simp)
  have hnews : ∀ j u, ((List.range (n * sz)).map (cf sz h))[j]? = some u → w.cell? ((⟨k, bo + os, none⟩ : Addr).add j) = some u := fun j u hj => by
    obtain ⟨hjn, rfl⟩ := map_range_get hj
    rw [add_none, Nat.add_assoc]
    exact hK.cell _ _ (hS j hjn)
  have hrun := run_append_nil (P := P) w t ty e i z ht hi hz ⟨k, bo + os, none⟩ n cc ((List.range (n * sz)).map (cf sz h)) (by simp [hsz]) hnews hn0 (by omega) (by omega)
  have hge := grownCap_ge w n 0 e
  obtain ⟨q, hq⟩ : ∃ q, grownCap w n 0 e = n + q := ⟨_, (Nat.add_sub_cancel' hge).symm⟩
  rw [hq] at hrun
  refine ⟨[w.heap.size, q], _, rfl, .inl (run_value hrun), ?_⟩
  have hp := post_new (m := fun _ => none) (w := w.drew) (fun p b h => by cases h) (fun p q b c _ h => by cases h) 0 (((List.range (n * sz)).map (cf sz h)).toArray ++ Builtin.zeroCells z.cells (n + q - n)) e
  have hN0 := hp.holds 0 ⟨w.heap.size, true, 0, .lit (((List.range (n * sz)).map (cf sz h)).toArray ++ Builtin.zeroCells z.cells (n + q - n)).toList⟩ rfl
  have hc : ∀ o v, (sprE sz (n + q) n h zc).get o = some v → (Cont.lit (((List.range (n * sz)).map (cf sz h)).toArray ++ Builtin.zeroCells z.cells (n + q - n)).toList).get o = some v := fun o v ho => by
    rw [show n + q - n = q by omega]
    simp only [Cont.get, Array.toList_append]
    have hall3 : (n + q) * sz = n * sz + q * sz := Nat.add_mul _ _ _
    by_cases h0 : o < (n + q) * sz
    · rw [sprE_get hs0 hh hzl h0] at ho
      by_cases h2 : o < n * sz
      · rw [if_pos h2] at ho
        rw [List.getElem?_append_left (by simp; exact h2), List.getElem?_map, List.getElem?_range h2]; exact ho
      · rw [if_neg h2] at ho
        rw [List.getElem?_append_right (by simp; omega)]
        simp only [List.length_map, List.length_range]
        rw [zeroCells_many hzc q _ (by rw [hzl]; omega), ← ho, hzl]
        rw [Nat.mul_comm n sz, Nat.sub_mul_mod]
        rw [Nat.mul_comm]; omega
    · rw [sprE_out h0] at ho; cases ho
  exact post_made hK rfl rfl rfl (hN0.recont hc) rfl rfl rfl (by simp) (fun j hj => by
    simp only [World.alloc]
    rw [Array.getElem?_push, if_neg (by show ¬ j = w.heap.size; omega)]; rfl)

theorem srunE_make (ht : P.underlying t = some (.slice e)) (hi : P.info? e = some i) (hz : i.zero = some z) (hsz : i.size = sz) (hs0 : 0 < sz) (hzc : z.cells.toList = zc) (hzl : zc.length = sz) {n : Nat} (hb : (i.bytes : Int) * n ≤ 281474976710656) (hb2 : n ≤ 9223372036854775807) :
    SRuns P (makeSem t (nat n) (nat n)) [] 1 (fun ns => .slice (some ⟨ns.getD 0 0, 0, none⟩) n n) (fun ns => [some ⟨ns.getD 0 0, true, 0, .tab n sz fun _ => zc⟩]) := by
  refine (srun_made (P := P) (e := e) (s := makeSem t (nat n) (nat n)) (cs := madeCells z.cells (n * i.size)) (len := n) (cap := n) fun w => ?_).recont fun ns o v ho => ?_
  · refine run_value ?_
    have := run_make (P := P) w t e i z ht hi hz .i64 .i64 (n : Int) (n : Int) (by omega) (by omega) hb (by omega)
    simpa [nat] using this
  · subst hzc
    by_cases hon : o < n * sz
    · rw [tabE_in hs0 (fun _ _ => hzl) hon] at ho
      have hz' : z.cells.size = sz := by simpa using hzl
      have hm : o % sz < z.cells.size := by rw [hz']; exact Nat.mod_lt _ hs0
      rw [← ho]
      simp [Cont.get, madeCells, hsz, hon, cf, hz', hz' ▸ hm]
    · rw [tabE_out hon] at ho; cases ho
end
/-- An element of some cells. -/
def AggC (P : Program) (e : TypeId) (zc : List Value) (sz B : Nat) : Prop := ∃ i z, P.info? e = some i ∧ i.zero = some z ∧ i.size = sz ∧ i.bytes = B ∧ z.cells.toList = zc ∧ zc.length = sz ∧ 0 < sz
theorem aggC_of {P : Program} {e : TypeId} {z : Value} {zc : List Value} {sz B : Nat} (h : oneB P e = some (z, sz, B)) (hz : z.cells.toList = zc) (hl : zc.length = sz) (h0 : 0 < sz) : AggC P e zc sz B := by
  unfold oneB at h
  split at h
  · rename_i i hi
    split at h
    · rename_i z' hz'
      injection h with h
      injection h with h1 h2
      injection h2 with h2 h3
      subst h1
      exact ⟨i, z', hi, hz', h2, h3, hz, hl, h0⟩
    · cases h
  · cases h
theorem catE_K {α : Type} (K : α → List Value) (g h : Nat → α) (len : Nat) : catU (fun k => K (g k)) len (fun k => K (h k)) = fun k => K (catU g len h k) := by
  funext k; unfold catU; split <;> rfl
theorem tabE_src {n sz : Nat} {E : Nat → List Value} (hsz : 0 < sz) (hE : ∀ k, (E k).length = sz) : ∀ j, j < n * sz → (Cont.tab n sz E).get (0 + j) = some (cf sz E j) := fun j hj => by
  rw [Nat.zero_add]; exact tabE_in hsz (fun k _ => hE k) hj
theorem lit_src {sz : Nat} {l : List Value} (hl : l.length = sz) : ∀ j, j < 1 * sz → (Cont.lit l).get (0 + j) = some (cf sz (fun _ => l) j) := fun j hj => by
  rw [Nat.one_mul] at hj
  rw [Nat.zero_add]
  unfold cf
  rw [Nat.mod_eq_of_lt hj]
  simp [Cont.get, hl, hj]
section
variable {P : Program} {t ty e : TypeId}
theorem mkE_append {sz B : Nat} {zc : List Value} (ht : P.underlying t = some (.slice e)) (h1 : AggC P e zc sz B) (b len r k bo os n cc : Nat) {α : Type} (K : α → List Value) (hK : ∀ a, (K a).length = sz ∧ (K a).all Value.oneCell' = true) (g h : Nat → α) (S : Cont)
    (hS : ∀ j, j < n * sz → S.get (os + j) = some (cf sz (fun k => K (h k)) j)) (hb : (len + n) * B ≤ 140737488355328 ∧ len + n ≤ 9223372036854775807) :
    SRuns P (appendSem t ty (.slice (some ⟨b, 0, none⟩) len (len + r)) (.slice (some ⟨k, bo + os, none⟩) n cc)) [⟨b, true, 0, sprE sz (len + r) len (fun k => K (g k)) zc⟩, ⟨k, false, bo, S⟩] 2
      (fun ns => .slice (some ⟨ns.getD 0 0, 0, none⟩) (len + n) (len + n + ns.getD 1 0))
      (fun ns => [some ⟨ns.getD 0 0, true, 0, sprE sz (len + n + ns.getD 1 0) (len + n) (fun k => K (catU g len h k)) zc⟩, some ⟨k, false, bo, S⟩]) := by
  obtain ⟨i, z, hi, hz, hsz, hB, hzc, hzl, hs0⟩ := h1
  subst hB
  have := srunE_append (P := P) (t := t) (ty := ty) ht hi hz hsz hs0 hzc hzl (b := b) (len := len) (r := r) (k := k) (bo := bo) (os := os) (n := n) (cc := cc) (g := fun k => K (g k)) (h := fun k => K (h k)) (S := S) (fun _ => (hK _).1) (fun _ => (hK _).1) hS
    (fun j hj => by
      have hl := (hK (h (j / sz))).1
      have hm : j % sz < (K (h (j / sz))).length := by rw [hl]; exact Nat.mod_lt _ hs0
      unfold cf
      rw [List.getD_eq_getElem?_getD, List.getElem?_eq_getElem hm]
      exact List.all_eq_true.1 (hK (h (j / sz))).2 _ (List.getElem_mem hm)) hb.1 hb.2
  rw [catE_K] at this
  exact this
theorem mkE_append_nil {sz B : Nat} {zc : List Value} (ht : P.underlying t = some (.slice e)) (h1 : AggC P e zc sz B) (k bo os n cc : Nat) {α : Type} (K : α → List Value) (hK : ∀ a, (K a).length = sz ∧ (K a).all Value.oneCell' = true) (h : Nat → α) (S : Cont)
    (hS : ∀ j, j < n * sz → S.get (os + j) = some (cf sz (fun k => K (h k)) j)) (hb : 0 < n ∧ n * B ≤ 140737488355328 ∧ n ≤ 9223372036854775807) :
    SRuns P (appendSem t ty (.slice none 0 0) (.slice (some ⟨k, bo + os, none⟩) n cc)) [⟨k, false, bo, S⟩] 2
      (fun ns => .slice (some ⟨ns.getD 0 0, 0, none⟩) n (n + ns.getD 1 0))
      (fun ns => [some ⟨k, false, bo, S⟩, some ⟨ns.getD 0 0, true, 0, sprE sz (n + ns.getD 1 0) n (fun k => K (h k)) zc⟩]) := by
  obtain ⟨i, z, hi, hz, hsz, hB, hzc, hzl, hs0⟩ := h1
  subst hB
  exact srunE_append_nil ht hi hz hsz hs0 hzc hzl (fun _ => (hK _).1) hS hb.1 hb.2.1 hb.2.2
theorem mkE_make {sz B : Nat} {zc : List Value} (ht : P.underlying t = some (.slice e)) (h1 : AggC P e zc sz B) (n : Nat) (hb : (B : Int) * (n : Int) ≤ 281474976710656 ∧ n ≤ 9223372036854775807) :
    SRuns P (makeSem t (nat n) (nat n)) [] 1 (fun ns => .slice (some ⟨ns.getD 0 0, 0, none⟩) n n) (fun ns => [some ⟨ns.getD 0 0, true, 0, .tab n sz fun _ => zc⟩]) := by
  obtain ⟨i, z, hi, hz, hsz, hB, hzc, hzl, hs0⟩ := h1
  subst hB
  exact srunE_make ht hi hz hsz hs0 hzc hzl hb.1 hb.2
theorem mkE_build {sz B : Nat} {zc : List Value} {z : Value} (h1 : AggC P e zc sz B) (hz0 : zeroB P e = some z) (len : Nat) (parts : Array (Nat × Value)) (cs : Array Value) (ht : P.underlying t = some (.slice e)) (h0 : len * sz ≠ 0 ∧ len * sz ≤ 16777216) (hcs : bsCells z sz len parts = some cs) :
    SRuns P (buildSem t len parts) [] 1 (fun ns => .slice (some ⟨ns.getD 0 0, 0, none⟩) len len) (fun ns => [some ⟨ns.getD 0 0, true, 0, .lit cs.toList⟩]) := by
  obtain ⟨i, z', hi, hz, hsz, hB, hzc, hzl, hs0⟩ := h1
  have hzz : z' = z := by simpa [zeroB, hi, hz] using hz0
  subst hzz
  exact srun_build ht hi hz (by rw [hsz]; exact h0.1) (by rw [hsz]; exact h0.2) (by rw [hsz]; exact hcs)
end
end Go.Eng

namespace Go.Eng
section
open Go.ChangeShapes Go.WideShapes Go.ChangeAt Go.RowKit Go.Deep
variable {H : Type} {enc : TypeId × Value → H} {P : Program}
theorem open_sliceE {α : Type} [Inhabited α] (K : α → List Value) {sz : Nat} (hK : ∀ a, (K a).length = sz) (hs0 : 0 < sz) {r : Reach} {b0 : Nat} {W : World} {base : Nat} {sp : Nat → Bool} {held : Bool} {t e : TypeId} {v : Value} {d : DataW H} {ps : List MemPlace} (ht : P.underlying t = some (.slice e))
    (hc : P.cellsOf e = sz) (hel : ∀ n cs x, cs.length = sz → DataW.trod enc P W base sp held n e cs = some x → ∃ a, cs = K a) (hval : Value.okWide P W r b0 t v) (hd : DataW.Trod enc P W base sp held t v d ps) :
    (∃ ao c, v = .slice ao 0 c) ∨ ∃ (b o n c : Nat) (f : Nat → α), v = .slice (some ⟨b, o, none⟩) n c ∧ 0 < n ∧ n ≤ 9223372036854775807 ∧ Holds ⟨b, false, o, .tab n sz fun k => K (f k)⟩ W := by
  obtain ⟨a1, len, cap, rfl⟩ := okWide_slice ht hval
  obtain ⟨fuel, hf⟩ := hd
  by_cases h0 : len = 0
  · subst h0; exact .inl ⟨_, _, rfl⟩
  rcases open_slice ht hf with ⟨hcs, _⟩ | ⟨a, len', cap', m, n, D, Pl, hcs, _, hl, hm, hmm, _, hx⟩
  · simp [Value.cells] at hcs
    exact absurd hcs.2.1 h0
  · simp [Value.cells] at hcs
    obtain ⟨rfl, rfl, rfl⟩ := hcs
    rw [hc] at hx
    have hlm : len ≤ m := by rw [hmm]; split <;> omega
    have hV : ∀ i, i < len → ∃ x : α, ∀ j, j < sz → W.cell? ((a.add (i * sz)).add j) = (K x)[j]? := fun i hi => by
      obtain ⟨cs', h1, h2⟩ := hx i (by omega)
      obtain ⟨_, hlen, hcell⟩ := World.cells?_some h1
      obtain ⟨x, hx⟩ := hel _ _ _ hlen h2
      subst hx
      exact ⟨x, hcell⟩
    obtain ⟨f, hfV⟩ := choose_lt (α := α) (p := fun i x => ∀ j, j < sz → W.cell? ((a.add (i * sz)).add j) = (K x)[j]?) hV
    have hfirst : ∃ u, W.cell? a = some u := by
      have := hfV 0 (by omega) 0 hs0
      rw [show (a.add (0 * sz)).add 0 = a from by cases a; simp [Addr.add]] at this
      rw [this, List.getElem?_eq_getElem (by rw [hK]; exact hs0)]
      exact ⟨_, rfl⟩
    obtain ⟨u0, hu0⟩ := hfirst
    have hspot : a.spot = none := World.cell?_spot hu0
    obtain ⟨ab, ao, spot⟩ := a
    simp only at hspot
    subst hspot
    refine .inr ⟨ab, ao, len, cap, f, rfl, by omega, by unfold maxLen at hm; omega, ⟨lt_of_cell hu0, fun o v ho => ?_, fun h => by cases h⟩⟩
    by_cases hol : o < len * sz
    · simp only [Cont.get, if_pos hol] at ho
      have := hfV (o / sz) (div_lt_row hol) (o % sz) (Nat.mod_lt _ hs0)
      rw [add_none, add_none, Nat.add_assoc, show o / sz * sz + o % sz = o by rw [Nat.mul_comm]; exact Nat.div_add_mod o sz] at this
      rw [this]; exact ho
    · rw [tabE_out hol] at ho; cases ho
/-- A number's cells. -/
def cellsN (a : N4) : List Value := [u64 a.a, u64 a.b, u64 a.c, u64 a.d]
theorem cellsN_ok (a : N4) : (cellsN a).length = 4 ∧ (cellsN a).all Value.oneCell' = true := ⟨rfl, rfl⟩
instance : Inhabited N4 := ⟨⟨0, 0, 0, 0⟩⟩
theorem open_sliceN {r : Reach} {b0 : Nat} {W : World} {base : Nat} {sp : Nat → Bool} {held : Bool} {t e u : TypeId} {v : Value} {d : DataW H} {ps : List MemPlace} (ht : P.underlying t = some (.slice e)) (he : P.underlying e = some (.array 4 u)) (hu : P.underlying u = some (.int .u64))
    (hcu : P.cellsOf u = 1) (hc : P.cellsOf e = 4) (hval : Value.okWide P W r b0 t v) (hd : DataW.Trod enc P W base sp held t v d ps) :
    (∃ ao c, v = .slice ao 0 c) ∨ ∃ (b o n c : Nat) (f : Nat → N4), v = .slice (some ⟨b, o, none⟩) n c ∧ 0 < n ∧ n ≤ 9223372036854775807 ∧ Holds ⟨b, false, o, .tab n 4 fun k => cellsN (f k)⟩ W :=
  open_sliceE cellsN (fun _ => rfl) (by decide) ht hc (fun n cs x hl h => nat4_of_row he hu hcu hl h) hval hd
end
end Go.Eng

namespace Go.Eng
/-- Of the same blocks other contents are told, from which the ones that are asked for follow. -/
theorem Runs.retell {P : Program} {f : FuncId} {args : List Value} {bs bs' : List Blk} {k : Nat} {v : List Nat → Value} {out : List Nat → List (Option Blk)} (h : Runs P f args bs k v out)
    (hb : ∀ w : World, (∀ b ∈ bs', Holds b w) → ∀ b ∈ bs, Holds b w) (hn : bs.map (fun b => (b.name, b.own)) = bs'.map fun b => (b.name, b.own)) (hro : ∀ ns p b, listMem (out ns) p = some b → b.own = true) :
    Runs P f args bs' k v out := fun w hw ha => by
  have hlk : ∀ p b, listMem (bs.map some) p = some b → ∃ b', listMem (bs'.map some) p = some b' ∧ b'.name = b.name ∧ b'.own = b.own := fun p b hp => by
    have h1 := listMem_some.1 hp
    have h2 : (bs.map fun b => (b.name, b.own))[p]? = some (b.name, b.own) := by rw [List.getElem?_map, h1]; rfl
    rw [hn, List.getElem?_map] at h2
    cases h3 : bs'[p]? with
    | none => rw [h3] at h2; cases h2
    | some b' =>
      rw [h3] at h2
      simp at h2
      exact ⟨b', listMem_some.2 h3, h2.1, h2.2⟩
  have hlk' : ∀ p b, listMem (bs'.map some) p = some b → ∃ b', listMem (bs.map some) p = some b' ∧ b'.name = b.name ∧ b'.own = b.own := fun p b hp => by
    have h1 := listMem_some.1 hp
    have h2 : (bs'.map fun b => (b.name, b.own))[p]? = some (b.name, b.own) := by rw [List.getElem?_map, h1]; rfl
    rw [← hn, List.getElem?_map] at h2
    cases h3 : bs[p]? with
    | none => rw [h3] at h2; cases h2
    | some b' =>
      rw [h3] at h2
      simp at h2
      exact ⟨b', listMem_some.2 h3, h2.1, h2.2⟩
  refine Calls.mono (h w (hb w hw) fun p q b c hpq hp hq ho => ?_) fun e w' ⟨ns, h1, h2, h3⟩ => ⟨ns, h1, h2, h3.holds, h3.apart, ⟨h3.adv.os, h3.adv.output, h3.adv.tape, h3.adv.size, fun j hj hno => h3.adv.heap j hj fun ⟨p, b, hp, ho, he⟩ => ?_, fun j hj => ?_, fun p b hp ho => ?_⟩⟩
  · obtain ⟨b', hb1, hb2, hb3⟩ := hlk p b hp
    obtain ⟨c', hc1, hc2, hc3⟩ := hlk q c hq
    rw [← hb2, ← hc2]
    exact ha p q b' c' hpq hb1 hc1 (hb3.trans ho)
  · obtain ⟨b', hb1, hb2, hb3⟩ := hlk p b hp
    exact hno ⟨p, b', hb1, hb3.trans ho, hb2.trans he⟩
  · rcases h3.adv.names j hj with ⟨p, b, hp, ho, he⟩ | h4
    · obtain ⟨b', hb1, hb2, hb3⟩ := hlk p b hp
      exact .inl ⟨p, b', hb1, hb3.trans ho, hb2.trans he⟩
    · exact .inr h4
  · rw [hro ns p b hp] at ho; cases ho

abbrev tabN (n : Nat) (f : Nat → N4) : Cont := .tab n 4 fun k => cellsN (f k)
theorem store_tabN (n : Nat) (f : Nat → N4) (i : Nat) (v : N4) : (tabN n f).store (.tab i 0) [u64 v.a, u64 v.b, u64 v.c, u64 v.d] = some (tabN n (upd f i v)) := by
  show some (Cont.tab n 4 fun k => if k = i then splice (cellsN (f i)) 0 (cellsN v) else cellsN (f k)) = _
  congr 1
  unfold tabN
  congr 1
  funext k
  by_cases h : k = i
  · subst h; simp [upd]; rfl
  · simp [upd, h]
def nrow1 (a : N4) : Nat → N4 := fun _ => a
def nrow2 (a b : N4) : Nat → N4 := fun k => match k with
  | 0 => a
  | _ => b
def nrow3 (a b c : N4) : Nat → N4 := fun k => match k with
  | 0 => a
  | 1 => b
  | _ => c
theorem to_row1 (a : N4) : ∀ o v, (tabN 1 (nrow1 a)).get o = some v → (Cont.lit [u64 a.a, u64 a.b, u64 a.c, u64 a.d]).get o = some v := fun o v h => by
  rcases o with _ | _ | _ | _ | o <;> first | exact h | (rw [tabE_out (by omega)] at h; cases h)
theorem to_row2 (a b : N4) : ∀ o v, (tabN 2 (nrow2 a b)).get o = some v → (Cont.lit [u64 a.a, u64 a.b, u64 a.c, u64 a.d, u64 b.a, u64 b.b, u64 b.c, u64 b.d]).get o = some v := fun o v h => by
  rcases o with _ | _ | _ | _ | _ | _ | _ | _ | o <;> first | exact h | (rw [tabE_out (by omega)] at h; cases h)
theorem to_row3 (a b c : N4) : ∀ o v, (tabN 3 (nrow3 a b c)).get o = some v → (Cont.lit [u64 a.a, u64 a.b, u64 a.c, u64 a.d, u64 b.a, u64 b.b, u64 b.c, u64 b.d, u64 c.a, u64 c.b, u64 c.c, u64 c.d]).get o = some v := fun o v h => by
  rcases o with _ | _ | _ | _ | _ | _ | _ | _ | _ | _ | _ | _ | o <;> first | exact h | (rw [tabE_out (by omega)] at h; cases h)
/-- The first cell of two is told otherwise. -/
theorem holds_two {x y y' : Blk} (hn : y'.name = y.name ∧ y'.own = y.own ∧ y'.base = y.base) (hc : ∀ o v, y.cont.get o = some v → y'.cont.get o = some v) (w : World) (h : ∀ b ∈ [x, y'], Holds b w) : ∀ b ∈ [x, y], Holds b w := fun b hb => by
  rcases List.mem_cons.1 hb with rfl | hb
  · exact h _ (by simp)
  · rcases List.mem_cons.1 hb with rfl | hb
    · have := h y' (by simp)
      obtain ⟨n1, o1, b1, c1⟩ := b
      obtain ⟨n2, o2, b2, c2⟩ := y'
      obtain ⟨rfl, rfl, rfl⟩ := hn
      exact this.recont hc
    · cases hb
end Go.Eng

namespace Go.Eng
section
variable {P : Program} {t e : TypeId} {x y : Operand}
theorem is_slTo {sz : Nat} (ht : P.underlying t = some (.slice e)) (hs : sizeB P e = some sz) (n o len cap i : Nat) (hi : i ≤ cap) : IsOp P (.slice t x none (some y) none) [.slice (some ⟨n, o, none⟩) len cap, nat i] (.slice (some ⟨n, o, none⟩) i cap) := by
  intro ρ o' ho hv
  rw [ho] at hv
  have hv' : [ρ x, ρ y] = [Value.slice (some ⟨n, o, none⟩) len cap, nat i] := hv
  injection hv' with h1 hv'
  injection hv' with h2 _
  unfold execOp
  rw [ho]
  simp only [Option.map]
  show pureRun P (Sem.bind (Instr.sliceAt t (ρ x) none (some (ρ y)) none) fun v => Sem.pure (Next.value v)) = _
  rw [pureRun_bind, h1, h2]
  have hi' : 0 ≤ (i : Int) ∧ (i : Int) ≤ (cap : Int) := by omega
  have e : pureRun P (Instr.sliceAt t (.slice (some ⟨n, o, none⟩) len cap) none (some (nat i)) none) = some (.slice (some ⟨n, o, none⟩) i cap) := by
    simp only [Instr.sliceAt, Instr.slice, Instr.sliceBounds, Instr.sliceBound, nat, pureRun_bind', asIntOf, pureRun, pure, pureRun_underlying ht, hi', and_self, if_true, pureRun_sizeOf hs, Int.toNat_natCast]
    simp [add_none]
  rw [e]
  rfl
end
end Go.Eng

namespace Go.Eng
set_option linter.unusedVariables false

/-- The fence of a round. -/
def inR (l : Nat) : Fence := Fence.wide.inRound l

def noDefer (ops : Array Oper) : Bool := ops.all fun o => match o.op with
  | .defer _ => false
  | _ => true
theorem noDefer_get {ops : Array Oper} (h : noDefer ops = true) {i : Nat} {o : Oper} (hi : ops[i]? = some o) : ∀ c, o.op ≠ .defer c := fun c e => by
  unfold noDefer at h
  rw [Array.all_eq_true] at h
  obtain ⟨hl, he⟩ := Array.getElem?_eq_some_iff.1 hi
  have := h i hl
  rw [he, e] at this
  cases this

/-- Code without loops, scopes and defers. -/
def okC : Code → Bool
  | .skip | .label _ | .ret | .exit _ => true
  | .seq a b => okC a && okC b
  | .block _ b => okC b
  | .cond _ x y => okC x && okC y
  | .region _ ops _ => noDefer ops
  | _ => false

theorem rows_in {l n : Nat} {P : Program} {row : String} {args : Array Value} {w : World} {R : Value → World → Prop} (h : Rows P row args w R) : RowsIn (inR l) n P row args w R :=
  fun c cs _ => let ⟨v, w', r, s⟩ := h c cs; ⟨v, w', r, (stepsIn_wide (P := P)).2 s⟩

theorem op_in {l n : Nat} {P : Program} {o : Oper} {a : Act} {w : World} {K : Act → World → Prop} {Q : Exit → Act → World → Prop} (hd : ∀ c, o.op ≠ .defer c) (hQ : ¬ LetsOut Q)
    (h : o.wp P a w K Q ∨ (o.asks P a w ∧ LetsOut Q)) : o.wpIn (inR l) n P a w K Q := by
  have h := h.resolve_right fun h => hQ h.2
  refine ⟨fun _ _ => trivial, ?_⟩
  rw [Oper.semAt_eq _ _ _ hd]
  unfold Oper.wp at h
  generalize (execOp a.eval o).run P w = r at h ⊢
  unfold Oper.upon at h
  unfold Oper.uponIn
  split at h
  · exact h
  · exact h
  · exact h
  · exact ⟨fun h => by simp [inR, Fence.wide] at h, callsIn_wide.2 h⟩
  · exact ⟨fun h => by simp [inR, Fence.wide] at h, rows_in h⟩
  · exact h
  · exact h.elim

theorem wpOp_in {l n : Nat} {P : Program} {ops : Array Oper} {Q : Exit → Act → World → Prop} {i : Nat} {K K' : Act → World → Prop} {a : Act} {w : World} (hd : noDefer ops = true) (hQ : ¬ LetsOut Q)
    (hK : ∀ a w, K a w → K' a w) (h : wpOp P ops Q i K a w) : wpOpIn (inR l) n P ops Q i K' a w := by
  refine wpOpIn_mono hK ?_
  unfold wpOp at h
  unfold wpOpIn
  cases ho : ops[i]? with
  | none => rw [ho] at h; exact h
  | some o =>
    rw [ho] at h
    simp only at h ⊢
    split at h
    · rename_i hw; rw [if_pos hw]; exact op_in (noDefer_get hd ho) hQ h
    · rename_i hw; rw [if_neg hw]; exact ⟨fun _ _ => trivial, h⟩

theorem ops_in {l n : Nat} {P : Program} {ops : Array Oper} {Q : Exit → Act → World → Prop} (hd : noDefer ops = true) (hQ : ¬ LetsOut Q) :
    ∀ (is : List Nat) (a : Act) (w : World), wpOps P ops Q is a w → wpOpsIn (inR l) n P ops Q is a w
  | [], _, _, h => h
  | i :: is, a, w, h => by
    rw [wpOps_cons] at h
    rw [wpOpsIn_cons]
    exact wpOp_in hd hQ (ops_in hd hQ is) h

theorem any_in {l n : Nat} {P : Program} {md : Region.Mode} {ops : Array Oper} {Q : Exit → Act → World → Prop} (hd : noDefer ops = true) (hQ : ¬ LetsOut Q) :
    ∀ (fuel : Nat) (listed : Array Bool) (a : Act) (w : World), wpAny P md ops Q fuel listed a w → wpAnyIn (inR l) n P md ops Q fuel listed a w
  | 0, _, _, _, h => h
  | fuel + 1, listed, a, w, h => ⟨h.1, fun i hi => wpOp_in hd hQ (fun a w => any_in hd hQ fuel _ a w) (h.2 i hi)⟩

theorem post_out {nt : Nat} {s : St} {w : World} {K : Exit → St → H → Prop} (hK : ∀ s h, ¬ K .outgrown s h) : ¬ LetsOut (post nt s w K) := fun ⟨_, _, s', h', hk, _⟩ => hK s' h' hk

theorem evIn_sound {P : Program} {nt l m : Nat} (hmix : P.follows .mixedOrders = true) : ∀ (n : Nat) (c : Code) (s : St) (h : H) (K : Exit → St → H → Prop) (a : Act) (w : World),
    (∀ s h, ¬ K .outgrown s h) → okC c = true → evF (fun _ => False) P nt n false c s h K → Sat nt s.fs a w → c.wpIn (inR l) m P (post nt s w K) a w
  | 0, c, s, h, K, a, w, hO, hC, hev, hs => by cases hev
  | n + 1, c, s, h, K, a, w, hO, hC, hev, hs => by
    by_cases hkeep : ∃ ts ps nx r, h = .keep ts ps nx r
    · obtain ⟨ts, ps, nx, r, rfl⟩ := hkeep
      simp only [evF] at hev
      have hle := keep_le s ts ps nx
      exact wpIn_mono (evIn_sound hmix n c (s.keep ts ps nx) r K a w hO hC hev (hs.le hle)) (post_trans (adv_le hle))
    · by_cases htold : ∃ s' r, h = .told s' r
      · obtain ⟨s', r, rfl⟩ := htold
        simp only [evF] at hev
        obtain ⟨rfl, hev⟩ := hev
        exact evIn_sound hmix n c s r K a w hO hC hev hs
      by_cases hopen : ∃ b r, h = .openb b r
      · obtain ⟨b, r, rfl⟩ := hopen
        simp only [evF] at hev
        exact hev.1.elim
      by_cases hboth : ∃ b h1 h2, h = .both b h1 h2
      · obtain ⟨b, h1, h2, rfl⟩ := hboth
        simp only [evF] at hev
        cases b with
        | true => exact evIn_sound hmix n c s h1 K a w hO hC (hev.1 rfl) hs
        | false => exact evIn_sound hmix n c s h2 K a w hO hC (hev.2 rfl) hs
      by_cases hcast : ∃ p c' r, h = .cast p c' r
      · obtain ⟨p, c', r, rfl⟩ := hcast
        simp only [evF] at hev
        split at hev
        · rename_i b hb
          split at hev
          · rename_i ho
            obtain ⟨hc, hev⟩ := hev
            obtain ⟨hs2, hadv⟩ := hs.recast hb ho hc
            exact wpIn_mono (evIn_sound hmix n c (s.recast p b c') r K a w hO hC hev hs2) (post_trans hadv)
          · exact hev.elim
        · exact hev.elim
      by_cases hcut : ∃ (α : Type) (ts ps : List Nat) (nx : Nat) (R : α → Prop) (S : α → St) (h1 : H) (r : α → H), h = .cut ts ps nx R S h1 r
      · obtain ⟨α, ts, ps, nx, R, S, h1, r, rfl⟩ := hcut
        simp only [evF] at hev
        obtain ⟨hev, hrest⟩ := hev
        refine wpIn_mono (evIn_sound hmix n c s h1 _ a w ?_ hC hev hs) ?_
        · exact fun s h => hO s h
        rintro e a' w' ⟨s', h', hK, hS, hA⟩
        cases e with
        | normal =>
          obtain ⟨y, hR, hy⟩ := hK
          have hle := keep_le s' ts ps nx
          rw [hy] at hle
          exact ⟨S y, r y, hrest y hR, hS.le hle, hA.weak hle.mem⟩
        | _ => exact ⟨s', h', hK, hS, hA⟩
      have hnk : evF (fun _ => False) P nt (n + 1) false c s h K = evStep P nt (fun lp c s h K => evF (fun _ => False) P nt n lp c s h K) c s h K := by
        cases h with
        | keep ts ps nx r => exact absurd ⟨ts, ps, nx, r, rfl⟩ hkeep
        | cast p c' r => exact absurd ⟨p, c', r, rfl⟩ hcast
        | told s' r => exact absurd ⟨s', r, rfl⟩ htold
        | both b h1 h2 => exact absurd ⟨b, h1, h2, rfl⟩ hboth
        | openb b r => exact absurd ⟨b, r, rfl⟩ hopen
        | cut ts ps nx R S h1 r => exact absurd ⟨_, ts, ps, nx, R, S, h1, r, rfl⟩ hcut
        | _ => rfl
      rw [hnk] at hev
      clear hnk
      have here : ∀ e, K e s h → post nt s w K e a w := fun e hK => ⟨s, h, hK, hs, .refl _ _⟩
      cases c with
      | skip => exact wpIn_skip (here _ hev)
      | label l => exact wpIn_label (here _ hev)
      | ret => exact wpIn_ret (here _ hev)
      | exit id => exact wpIn_exit (here _ hev)
      | seq x y =>
        simp only [okC, Bool.and_eq_true] at hC
        refine wpIn_seq (wpIn_mono (evIn_sound hmix n x s h _ a w ?_ hC.1 hev hs) ?_)
        · exact fun s h => hO s h
        rintro e a' w' ⟨s', h', hK, hS, hA⟩
        cases e with
        | normal => exact wpIn_mono (evIn_sound hmix n y s' h' K a' w' hO hC.2 hK hS) (post_trans hA)
        | _ => exact ⟨s', h', hK, hS, hA⟩
      | block id b =>
        simp only [okC] at hC
        refine wpIn_block (wpIn_mono (evIn_sound hmix n b s h _ a w ?_ hC hev hs) ?_)
        · exact fun s h => hO s h
        rintro e a' w' ⟨s', h', hK, hS, hA⟩
        cases e with
        | exit id' =>
          simp only [Exit.inBlock]
          simp only at hK
          by_cases hid : id' = id
          · subst hid
            rw [if_pos rfl]
            simp only [Nat.beq_refl] at hK
            exact ⟨s', h', hK, hS, hA⟩
          · rw [if_neg hid]
            have : Nat.beq id' id = false := by
              cases hb : Nat.beq id' id with
              | false => rfl
              | true => exact absurd (Nat.eq_of_beq_eq_true hb) hid
            rw [this] at hK
            exact ⟨s', h', hK, hS, hA⟩
        | _ => exact ⟨s', h', hK, hS, hA⟩
      | cond o x y =>
        simp only [okC, Bool.and_eq_true] at hC
        simp only [evStep] at hev
        split at hev
        · rename_i ee hee
          split at hev
          · rename_i b hb
            have hval : condOf (some ee) → a.eval o = .bool b := fun hc => by
              rw [opd_eval hs hee, ← hb]
              cases ee with
              | v _ => rfl
              | c g _ => simp only [condOf] at hc; subst hc; rfl
            split at hev
            · obtain ⟨hc, h1, h2⟩ := hev
              exact wpIn_cond_split (hval hc) (fun ht => evIn_sound hmix n x s _ K a w hO hC.1 (h1 ht) hs) (fun hf => evIn_sound hmix n y s _ K a w hO hC.2 (h2 hf) hs)
            · obtain ⟨hc, hbt, h1⟩ := hev
              subst hbt
              exact wpIn_cond_true (hval hc) (evIn_sound hmix n x s _ K a w hO hC.1 h1 hs)
            · obtain ⟨hc, hbt, h1⟩ := hev
              subst hbt
              exact wpIn_cond_false (hval hc) (evIn_sound hmix n y s _ K a w hO hC.2 h1 hs)
            · exact hev.elim
          · exact hev.elim
        · exact hev.elim
      | region id ops draw =>
        simp only [okC] at hC
        have hQ := post_out (nt := nt) (s := s) (w := w) hO
        simp only [evStep] at hev
        split at hev
        · rename_i ks r
          split at hev
          · rename_i hok
            have hall : ∀ ns, ns.length = nnL ks → ∃ vc s', evSeq P ops nt ks ns s = some (vc, s') ∧ vc := fun ns hns => by
              have := allNs_get hev ns hns
              split at this
              · rename_i vc s' he; exact ⟨vc, s', he, this.1⟩
              · exact this.elim
            have hfin : ∀ ns vc s' a' w', ns.length = nnL ks → evSeq P ops nt ks ns s = some (vc, s') → vc → Sat nt s'.fs a' w' → Adv s.fs.mem w s'.fs.mem w' → post nt s w K .normal a' w' :=
              fun ns vc s' a' w' hns he hvc hS hA => by
                have := allNs_get hev ns hns
                rw [he] at this
                exact ⟨s', r, this.2, hS, hA⟩
            cases draw with
            | true => exact wpIn_region_any hmix (any_in hC hQ _ _ _ _ (draw_any hok hs hall hfin))
            | false =>
              refine wpIn_region (ops_in hC hQ _ _ _ ?_)
              have hidx := (idxIs_range ks 0 ops.size hok).1
              rw [Nat.sub_zero, ← List.range_eq_range'] at hidx
              rw [← hidx]
              exact seq_sound ks hs hall hfin
          · exact hev.elim
        · rename_i ks r
          split at hev
          · rename_i hok
            have hall : ∀ ns, ns.length = nnL ks → ∃ vc s', evSeq P ops nt ks ns s = some (vc, s') ∧ vc := fun ns hns => by
              have := allNs_get hev ns hns
              split at this
              · rename_i vc s' he; exact ⟨vc, s', he, this.1⟩
              · exact this.elim
            have hfin : ∀ ns vc s' a' w', ns.length = nnL ks → evSeq P ops nt ks ns s = some (vc, s') → vc → Sat nt s'.fs a' w' → Adv s.fs.mem w s'.fs.mem w' → post nt s w K .normal a' w' :=
              fun ns vc s' a' w' hns he hvc hS hA => by
                have := allNs_get hev ns hns
                rw [he] at this
                exact ⟨s', r ns, this.2, hS, hA⟩
            cases draw with
            | true => exact wpIn_region_any hmix (any_in hC hQ _ _ _ _ (draw_any hok hs hall hfin))
            | false =>
              refine wpIn_region (ops_in hC hQ _ _ _ ?_)
              have hidx := (idxIs_range ks 0 ops.size hok).1
              rw [Nat.sub_zero, ← List.range_eq_range'] at hidx
              rw [← hidx]
              exact seq_sound ks hs hall hfin
          · exact hev.elim
        · exact hev.elim
      | _ => cases hC
end Go.Eng

namespace Go.Eng
open Go.RowKit

theorem Holds.grown {b : Blk} {W W' : World} {row : Option Nat} (h : Holds b W) (hg : W.grownBy W' row) (hr : ∀ r, row = some r → ∃ o : Obj, W.heap[r]? = some o ∧ o.isCells = false) : Holds b W' where
  lt := Nat.lt_of_lt_of_le h.lt hg.size
  cell o v ho := cell_kept (h.cell o v ho) hg hr
  free hb o v ho := (frozen_kept (h.cell o v ho) hg hr).trans (h.free hb o v ho)

theorem Adv.grown {m m' : Nat → Option Blk} {w W W' : World} {row : Option Nat} (h : Adv m w m' W) (hg : W.grownBy W' row) (hr : ∀ r, row = some r → w.heap.size ≤ r) : Adv m w m' W' :=
  ⟨hg.os.trans h.os, hg.output.trans h.output, hg.tape.trans h.tape, Nat.le_trans h.size hg.size,
    fun k hk hn => (hg.block k (Nat.lt_of_lt_of_le hk h.size) (fun e => by have := hr k e.symm; omega)).trans (h.heap k hk hn), h.names, h.ro⟩

/-- Of each own block some cell is told. -/
def NonE (m : Nat → Option Blk) : Prop := ∀ p b, m p = some b → b.own = true → ∃ o v, b.cont.get o = some v

theorem keeps_of_adv {m m' : Nat → Option Blk} {W W' : World} (B : Nat) (h : Adv m W m' W') (hm : ∀ p b, m p = some b → Holds b W) (hne : NonE m) : KeepsFrom B W W' :=
  ⟨h.size, fun k o _ hk ho => (h.heap k (Array.getElem?_eq_some_iff.1 hk).1 (fun ⟨p, b, hp, hown, hname⟩ => by
    obtain ⟨x, v, hx⟩ := hne p b hp hown
    obtain ⟨o', h1, h2⟩ := cells_of_cell ((hm p b hp).cell x v hx)
    simp only at h1
    rw [hname, hk] at h1
    cases h1
    rw [ho] at h2
    cases h2)).trans hk⟩

theorem opIn_value {n : Nat} {P : Program} {o : Oper} {a : Act} {w w' : World} {K : Act → World → Prop} {Q : Exit → Act → World → Prop} {v : Value} (hd : ∀ c, o.op ≠ .defer c)
    (hr : (execOp a.eval o).run P w = .ok (.value v) w') (hK : K (a.put o.dst v) w') : o.wpIn Fence.wide n P a w K Q := by
  refine ⟨fun _ _ => trivial, ?_⟩
  rw [Oper.semAt_eq _ _ _ hd, hr]
  exact hK

theorem opIn_skip {n : Nat} {P : Program} {o : Oper} {a : Act} {w w' : World} {K : Act → World → Prop} {Q : Exit → Act → World → Prop} (hd : ∀ c, o.op ≠ .defer c)
    (hr : (execOp a.eval o).run P w = .ok .skip w') (hK : K (a.put o.dst undef) w') : o.wpIn Fence.wide n P a w K Q := by
  refine ⟨fun _ _ => trivial, ?_⟩
  rw [Oper.semAt_eq _ _ _ hd, hr]
  exact hK
theorem ops2_in {F : Fence} {n : Nat} {P : Program} {ops : Array Oper} {Q : Exit → Act → World → Prop} {a : Act} {w : World} {o0 o1 : Oper} (h0 : ops[0]? = some o0) (h1 : ops[1]? = some o1) (hs : ops.size = 2)
    (g0 : o0.guard = none) (g1 : o1.guard = none) (h : o0.wpIn F n P a w (fun a w => o1.wpIn F n P a w (fun a w => Q .normal a w) Q) Q) : wpOpsIn F n P ops Q (List.range ops.size) a w := by
  rw [hs, show List.range 2 = [0, 1] from rfl, wpOpsIn_cons]
  have w0 : ∀ a : Act, Region.wanted o0 (yielded ops a.tmps) = true := fun a => by unfold Region.wanted; rw [g0]
  have w1 : ∀ a : Act, Region.wanted o1 (yielded ops a.tmps) = true := fun a => by unfold Region.wanted; rw [g1]
  unfold wpOpIn
  rw [h0]
  simp only
  rw [if_pos (w0 a)]
  refine Oper.wpIn_mono (fun a w h => ?_) h
  rw [wpOpsIn_cons]
  unfold wpOpIn
  rw [h1]
  simp only
  rw [if_pos (w1 a)]
  exact h
/-- A load of many cells. -/
theorem run_ld {P : Program} {ρ : Operand → Value} {o : Oper} {t : TypeId} {x : Operand} {w : World} {b : Nat} {cs : List Value} (hop : o.op = .load t x) (hx : ρ x = .pointer (some ⟨b, 0, none⟩)) (hn : sizeB P t = some cs.length) (hag : aggB P t = some true)
    (hc : ∀ k v, cs[k]? = some v → w.cell? ⟨b, 0 + k, none⟩ = some v) : (execOp ρ o).run P w = .ok (.value (.agg cs.toArray)) w := by
  have hr := run_loadAt_agg (P := P) (w := w) (b := b) (o := 0) hn hag rfl hc
  simp only [execOp, hop, hx, Sem.run_bind, hr, Result.andThen_ok, Sem.run_pure]
/-- A store of many cells. -/
theorem run_st {P : Program} {ρ : Operand → Value} {o : Oper} {t : TypeId} {x y : Operand} {w : World} {b : Nat} {v : Value} (hop : o.op = .store t x y) (hx : ρ x = .pointer (some ⟨b, 0, none⟩)) (hy : ρ y = v) (hn : sizeB P t = some v.cells.size)
    (hone : ∀ u ∈ v.cells.toList, u.oneCell' = true) (hc : ∀ k, k < v.cells.size → ∃ u, w.cell? ⟨b, 0 + k, none⟩ = some u) (hf : ∀ k, k < v.cells.size → w.frozen? ⟨b, 0 + k, none⟩ = false) :
    (execOp ρ o).run P w = .ok .skip (w.setCells b 0 v.cells.toList) := by
  have hr := run_storeAt (P := P) (w := w) (b := b) (o := 0) (t := t) (v := v) hn (by simp) hone hc hf
  simp only [execOp, hop, hx, hy, Sem.run_bind, hr, Result.andThen_ok, Sem.run_pure]
/-- What has come when there are still k of n. -/
def cameL (n k : Nat) : List Nat := (List.range (n - k)).map fun j => n - 1 - j
theorem cameL_next {n k : Nat} (h : k + 1 ≤ n) : cameL n k = cameL n (k + 1) ++ [k] := by
  unfold cameL
  rw [show n - k = (n - (k + 1)) + 1 by omega, List.range_succ, List.map_append]
  simp
  omega
theorem cameL_len (n k : Nat) : (cameL n k).length = n - k := by simp [cameL]
theorem cameL_none (n : Nat) : cameL n n = [] := by simp [cameL]
end Go.Eng

namespace Go.Eng
set_option linter.unusedVariables false
/-- A row's first n; noughts behind. -/
def cutN (n : Nat) (h : Nat → N4) : Nat → N4 := fun k => if k < n then h k else ⟨0, 0, 0, 0⟩
theorem cutN_zero (h : Nat → N4) : (fun _ => N4.mk 0 0 0 0) = cutN 0 h := by funext k; simp [cutN]
theorem cutN_at {n k : Nat} {h : Nat → N4} (hk : k < n) : cutN n h k = h k := if_pos hk
theorem cutN_next {h : Nat → N4} {k : Nat} {w : N4} (hw : w = h k) : cutN (k + 1) h = upd (cutN k h) k w := by
  funext j
  unfold cutN upd
  by_cases h1 : j = k
  · subst h1; rw [if_pos (by omega), if_pos rfl, hw]
  · by_cases h2 : j < k
    · rw [if_pos (by omega), if_neg h1]; exact (if_pos h2).symm
    · rw [if_neg (by omega), if_neg h1]; exact (if_neg h2).symm
theorem store_tabN_as (n : Nat) (f : Nat → N4) (i : Nat) (v : N4) (g : Nat → N4) (hg : g = upd f i v) : (tabN n f).store (.tab i 0) [u64 v.a, u64 v.b, u64 v.c, u64 v.d] = some (tabN n g) := by rw [hg]; exact store_tabN n f i v

/-- A pair's cells. -/
def cellsP (a : N4 × N4) : List Value := [u64 a.1.a, u64 a.1.b, u64 a.1.c, u64 a.1.d, u64 a.2.a, u64 a.2.b, u64 a.2.c, u64 a.2.d]
theorem cellsP_ok (a : N4 × N4) : (cellsP a).length = 8 ∧ (cellsP a).all Value.oneCell' = true := ⟨rfl, rfl⟩
abbrev tabP (n : Nat) (f : Nat → N4 × N4) : Cont := .tab n 8 fun k => cellsP (f k)
def prow2 (a b : N4 × N4) : Nat → N4 × N4 := fun k => match k with
  | 0 => a
  | _ => b
theorem to_prow2 (a b : N4 × N4) : ∀ o v, (tabP 2 (prow2 a b)).get o = some v → (Cont.lit [u64 a.1.a, u64 a.1.b, u64 a.1.c, u64 a.1.d, u64 a.2.a, u64 a.2.b, u64 a.2.c, u64 a.2.d, u64 b.1.a, u64 b.1.b, u64 b.1.c, u64 b.1.d, u64 b.2.a, u64 b.2.b, u64 b.2.c, u64 b.2.d]).get o = some v := fun o v h => by
  have ho : o < 2 * 8 := Decidable.byContradiction fun hn => by rw [Cont.get_tab_out hn] at h; cases h
  rw [Cont.get_tab ho] at h
  rcases o with _ | _ | _ | _ | _ | _ | _ | _ | _ | _ | _ | _ | _ | _ | _ | _ | o
  all_goals first | exact h | omega

section
variable {P : Program} {t ty e : TypeId}
theorem sprE_as {sz c len : Nat} {g g' : Nat → List Value} {zc : List Value} (h : ∀ k, k < len → g' k = g k) : sprE sz c len g zc = sprE sz c len g' zc := by
  unfold sprE
  congr 1
  funext k
  split
  · rename_i hk; exact (h k hk).symm
  · rfl
/-- What is put behind: the whole told by a row of its own. -/
theorem mkE_append_as {sz B : Nat} {zc : List Value} (ht : P.underlying t = some (.slice e)) (h1 : AggC P e zc sz B) (b len r k bo os n cc : Nat) {α : Type} (K : α → List Value) (hK : ∀ a, (K a).length = sz ∧ (K a).all Value.oneCell' = true) (g h : Nat → α) (S : Cont)
    (hS : ∀ j, j < n * sz → S.get (os + j) = some (cf sz (fun k => K (h k)) j)) (hb : (len + n) * B ≤ 140737488355328 ∧ len + n ≤ 9223372036854775807) (g' : Nat → α) (hg : ∀ k, k < len + n → g' k = catU g len h k) :
    SRuns P (appendSem t ty (.slice (some ⟨b, 0, none⟩) len (len + r)) (.slice (some ⟨k, bo + os, none⟩) n cc)) [⟨b, true, 0, sprE sz (len + r) len (fun k => K (g k)) zc⟩, ⟨k, false, bo, S⟩] 2
      (fun ns => .slice (some ⟨ns.getD 0 0, 0, none⟩) (len + n) (len + n + ns.getD 1 0))
      (fun ns => [some ⟨ns.getD 0 0, true, 0, sprE sz (len + n + ns.getD 1 0) (len + n) (fun k => K (g' k)) zc⟩, some ⟨k, false, bo, S⟩]) := by
  have h2 := mkE_append (P := P) (t := t) (ty := ty) (e := e) ht h1 b len r k bo os n cc K hK g h S hS hb
  have e2 : ∀ c, sprE sz c (len + n) (fun k => K (catU g len h k)) zc = sprE sz c (len + n) (fun k => K (g' k)) zc := fun c => sprE_as fun k hk => by rw [hg k hk]
  simp only [e2] at h2
  exact h2
theorem mkE_append_nil_as {sz B : Nat} {zc : List Value} (ht : P.underlying t = some (.slice e)) (h1 : AggC P e zc sz B) (k bo os n cc : Nat) {α : Type} (K : α → List Value) (hK : ∀ a, (K a).length = sz ∧ (K a).all Value.oneCell' = true) (h : Nat → α) (S : Cont)
    (hS : ∀ j, j < n * sz → S.get (os + j) = some (cf sz (fun k => K (h k)) j)) (hb : 0 < n ∧ n * B ≤ 140737488355328 ∧ n ≤ 9223372036854775807) (g' : Nat → α) (hg : ∀ k, k < n → g' k = h k) :
    SRuns P (appendSem t ty (.slice none 0 0) (.slice (some ⟨k, bo + os, none⟩) n cc)) [⟨k, false, bo, S⟩] 2
      (fun ns => .slice (some ⟨ns.getD 0 0, 0, none⟩) n (n + ns.getD 1 0))
      (fun ns => [some ⟨k, false, bo, S⟩, some ⟨ns.getD 0 0, true, 0, sprE sz (n + ns.getD 1 0) n (fun k => K (g' k)) zc⟩]) := by
  have h2 := mkE_append_nil (P := P) (t := t) (ty := ty) (e := e) ht h1 k bo os n cc K hK h S hS hb
  have e2 : ∀ c, sprE sz c n (fun k => K (h k)) zc = sprE sz c n (fun k => K (g' k)) zc := fun c => sprE_as fun k hk => by rw [hg k hk]
  simp only [e2] at h2
  exact h2
theorem cat_one {α : Type} {g g' : Nat → α} {len : Nat} {x : α} (h1 : ∀ k, k < len → g' k = g k) (h2 : g' len = x) : ∀ k, k < len + 1 → g' k = catU g len (fun _ => x) k := fun k hk => by
  unfold catU
  by_cases h : k < len
  · rw [if_pos h]; exact h1 k h
  · rw [if_neg h, show k = len by omega]; exact h2
end

section
open Go.ChangeShapes Go.WideShapes Go.ChangeAt Go.RowKit Go.Deep
variable {H : Type} {enc : TypeId × Value → H} {P : Program}
def pairT (P : Program) (e a : TypeId) : Bool := match P.underlying e with
  | some (.struct fs) => match fs.toList with
    | [f0, f1] => Nat.beq f0.type a && (Nat.beq f0.offset 0 && (Nat.beq f1.type a && Nat.beq f1.offset 4))
    | _ => false
  | _ => false
theorem pairT_get {P : Program} {e a : TypeId} (h : pairT P e a = true) : ∃ f0 f1 : Field, P.underlying e = some (.struct #[f0, f1]) ∧ (f0.type = a ∧ f0.offset = 0) ∧ (f1.type = a ∧ f1.offset = 4) := by
  unfold pairT at h
  split at h
  · rename_i fs hf
    split at h
    · rename_i f0 f1 hl
      simp only [Bool.and_eq_true] at h
      obtain ⟨h1, h2, h3, h4⟩ := h
      refine ⟨f0, f1, ?_, ⟨Nat.eq_of_beq_eq_true h1, Nat.eq_of_beq_eq_true h2⟩, ⟨Nat.eq_of_beq_eq_true h3, Nat.eq_of_beq_eq_true h4⟩⟩
      rw [hf]
      have : fs = #[f0, f1] := by cases fs; simp_all
      rw [this]
    · cases h
  · cases h
/-- Slices of pairs of numbers. -/
theorem open_sliceP {r : Reach} {b0 : Nat} {W : World} {base : Nat} {sp : Nat → Bool} {held : Bool} {t e a u : TypeId} {v : Value} {d : DataW H} {ps : List MemPlace} (ht : P.underlying t = some (.slice e)) (hp : pairT P e a = true)
    (ha : P.underlying a = some (.array 4 u)) (hu : P.underlying u = some (.int .u64))
    (hcu : P.cellsOf u = 1) (hca : P.cellsOf a = 4) (hc : P.cellsOf e = 8) (hval : Value.okWide P W r b0 t v) (hd : DataW.Trod enc P W base sp held t v d ps) :
    (∃ ao c, v = .slice ao 0 c) ∨ ∃ (b o n c : Nat) (f : Nat → N4 × N4), v = .slice (some ⟨b, o, none⟩) n c ∧ 0 < n ∧ n ≤ 9223372036854775807 ∧ Holds ⟨b, false, o, .tab n 8 fun k => cellsP (f k)⟩ W := by
  obtain ⟨f0, f1, he, hf0, hf1⟩ := pairT_get hp
  exact open_sliceE (α := N4 × N4) cellsP (fun _ => rfl) (by decide) ht hc (fun n cs x hl h => by
    obtain ⟨y0, y1, m, _, _, g0, g1⟩ := trod_struct2 he h
    rw [hf0.1, hf0.2, hca] at g0
    rw [hf1.1, hf1.2, hca] at g1
    obtain ⟨a0, e0⟩ := nat4_of_row ha hu hcu (by simp [hl]) g0
    obtain ⟨a1, e1⟩ := nat4_of_row ha hu hcu (by simp [hl]) g1
    refine ⟨(a0, a1), ?_⟩
    rw [List.drop_zero] at e0
    have h4 : (cs.drop 4).take 4 = cs.drop 4 := List.take_of_length_le (by simp [hl])
    rw [h4] at e1
    have := List.take_append_drop 4 cs
    rw [← this, e0, e1]
    rfl) hval hd
end
end Go.Eng

namespace Go.Eng
open Go.RowKit
theorem sband_nt {a : Bool} (h : selB a true false = false) : a = false := match a, h with
  | false, _ => rfl
theorem runs_law {P : Program} {f : FuncId} {args : List Value} {bs : List Blk} {v : Value} {out : List Nat → List (Option Blk)} {W : World} (h : Runs P f args bs 0 (fun _ => v) out) (hb : ∀ b ∈ bs, Holds b W) (hro : ∀ b ∈ bs, b.own = false) :
    Calls P f args.toArray W fun e w' => e = .returned v ∧ Below W.heap.size W w' := by
  have hl : ∀ p b, listMem (bs.map some) p = some b → b.own = false := fun p b hp => hro b (List.mem_of_getElem? (listMem_some.1 hp))
  refine Calls.mono (h W hb fun p q x y _ hx _ ho => ?_) fun e w' ⟨ns, _, he, hp⟩ => ⟨he, below_of_adv hp.adv hl⟩
  rw [hl p x hx] at ho; cases ho
end Go.Eng
