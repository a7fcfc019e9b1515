/-
  Many in one: Str, Str2.
-/
import Derived.Test.YtagbdahcopkpjaaDoorZJournalWrites9
import Derived.Deep.AppendSrc
import Derived.Lib.ConvBytes
section
namespace Go.Eng
set_option linter.unusedSimpArgs false
set_option linter.unusedVariables false
set_option maxRecDepth 100000
def convSem (src dst : TypeId) (x : Value) : Sem Next := do pure (.value (← convert src dst x))
def appXSem (t tx ty : TypeId) (x y : Value) : Sem Next := do pure (.value (← Builtin.append_ #[t, tx] ty #[x, y]))
theorem listMem_one (x x' : Blk) : memApply (listMem [some x]) [(0, some x')] = listMem [some x'] := by
  funext p
  rcases p with _ | p <;> rfl
section
variable {P : Program} {t tx ty e : TypeId} {i : TypeInfo} {z : Value}
theorem arun_append_src (ht : P.underlying t = some (.slice e)) (hi : P.info? e = some i) (hz : i.zero = some z) (hsz : i.size = 1) (hzc : z.cells = #[z])
    {b len r n : Nat} {g h : Nat → Value} {x : Value} (w : World) (hall : ∀ c ∈ [(⟨b, true, 0, spr (len + r) len g z⟩ : Blk)], Holds c w) (ha : Apart (listMem ([(⟨b, true, 0, spr (len + r) len g z⟩ : Blk)].map some)))
    (hsrc : Go.Src P 1 tx x n ((List.range n).map h) w)
    (hb : (len + n) * i.bytes ≤ 140737488355328) (hb2 : len + n ≤ 9223372036854775807) :
    ∃ (ns : List Nat) (w' : World), ns.length = 2 ∧ (((appXSem t tx ty (.slice (some ⟨b, 0, none⟩) len (len + r)) x).run P w = .ok (.value (.slice (some ⟨ns.getD 0 0, 0, none⟩) (len + n) (len + n + ns.getD 1 0))) w') ∨
        ((appXSem t tx ty (.slice (some ⟨b, 0, none⟩) len (len + r)) x).run P w = .ok .skip w' ∧ Value.slice (some ⟨ns.getD 0 0, 0, none⟩) (len + n) (len + n + ns.getD 1 0) = undef)) ∧
      Post (listMem ([(⟨b, true, 0, spr (len + r) len g z⟩ : Blk)].map some)) w (listMem [some ⟨ns.getD 0 0, true, 0, spr (len + n + ns.getD 1 0) (len + n) (catV g len h) z⟩]) w' := by
  have hA : Holds ⟨b, true, 0, spr (len + r) len g z⟩ w := hall _ (by simp)
  have hm : ∀ p c, listMem [some ⟨b, true, 0, spr (len + r) len g z⟩] p = some c → Holds c w := fun p c hc => hall c (List.mem_of_getElem? (listMem_some (l := [⟨b, true, 0, spr (len + r) len g z⟩]).1 hc))
  by_cases hr : n ≤ r
  · have hget : ∀ j, j < n → (spr (len + r) len g z).get (len + j) = some z := fun j hj => by
      rw [spr, tabF_in (by omega), if_neg (by omega)]
    have hrun := run_append_room_src (P := P) w t tx ty e i ht hi b 0 len (len + r) x n ((List.range n).map h) (by rw [hsz]; exact hsrc) (by omega)
      (fun j hj => by
        have hj' : j < n := by simpa using hj
        have := hA.cell _ _ (hget j hj')
        rw [show 0 + len * i.size + j = 0 + (len + j) by rw [hsz]; omega, this]; rfl)
      (fun j hj => by
        have hj' : j < n := by simpa using hj
        have := hA.free rfl _ _ (hget j hj')
        rw [show 0 + len * i.size + j = 0 + (len + j) by rw [hsz]; omega]; exact this)
    have hrun2 : (Builtin.append_ #[t, tx] ty #[.slice (some ⟨b, 0, none⟩) len (len + r), x]).run P w = .ok (.slice (some ⟨b, 0, none⟩) (len + n) (len + n + (r - n))) (w.setCells b (0 + len * i.size) ((List.range n).map h)) := by
      rw [show len + n + (r - n) = len + r by omega]; exact hrun
    refine ⟨[b, r - n], _, rfl, .inl (run_value hrun2), ?_⟩
    have hp := post_cells (m := listMem [some ⟨b, true, 0, spr (len + r) len g z⟩]) (w := w) (p := 0) (b := ⟨b, true, 0, spr (len + r) len g z⟩) (o0 := len) (cs := (List.range n).map h)
      (c := spr (len + r) (len + n) (catV g len h) z) hm ha rfl rfl rfl rfl (fun j hj => ⟨z, hget j (by simpa using hj)⟩) (fun j => by
        have hlen : ((List.range n).map h).length = n := by simp
        rw [hlen]
        by_cases hj : j < len + r
        · rw [spr, spr, tabF_in hj, tabF_in hj]
          by_cases h2 : j < len
          · rw [if_neg (show ¬ (len ≤ j ∧ j < len + n) by omega), if_pos h2, if_pos (show j < len + n by omega), catV, if_pos h2]
          · by_cases h3 : j < len + n
            · rw [if_pos (show len ≤ j ∧ j < len + n by omega), if_pos h3, catV, if_neg h2, List.getElem?_map, List.getElem?_range (by omega)]; rfl
            · rw [if_neg (show ¬ (len ≤ j ∧ j < len + n) by omega), if_neg h3, if_neg h2]
        · rw [spr, spr, tabF_out hj, tabF_out hj, if_neg (show ¬ (len ≤ j ∧ j < len + n) by omega)])
    rw [listMem_one] at hp
    have e1 : len + n + (r - n) = len + r := by omega
    simpa [hsz, e1] using hp
  · have hg : len + r < len + n := by omega
    have hold : (Builtin.firstCells i.size len (.slice (some ⟨b, 0, none⟩) len (len + r))).run P w.drew = .ok ((List.range len).map g).toArray w.drew :=
      run_firstCells_some w.drew i.size len ⟨b, 0, none⟩ len (len + r) ((List.range len).map g) (by simp [hsz]) (fun j v hj => by
        obtain ⟨hjn, rfl⟩ := map_range_get hj
        rw [add_none, Nat.zero_add]
        have := hA.cell j (g j) (by rw [spr, tabF_in (by omega), if_pos hjn])
        rw [Nat.zero_add] at this
        simpa using this)
    have hrun := run_append_grow_src (P := P) w t tx ty e i z ht hi hz (some ⟨b, 0, none⟩) len (len + r) ((List.range len).map g) hold x n ((List.range n).map h) (by rw [hsz]; exact hsrc) hg (by omega) (growslice_fits hg hb)
    have hge := grownCap_ge w (len + n) (len + r) e
    obtain ⟨q, hq⟩ : ∃ q, grownCap w (len + n) (len + r) e = len + n + q := ⟨_, (Nat.add_sub_cancel' hge).symm⟩
    rw [hq] at hrun
    refine ⟨[w.heap.size, q], _, rfl, .inl (run_value hrun), ?_⟩
    have hp0 := Post.drew hm ha
    have hp := hp0.trans (post_new hp0.holds hp0.apart 0 (((List.range len).map g ++ (List.range n).map h).toArray ++ Builtin.zeroCells z.cells (len + n + q - (len + n))) e)
    rw [show w.drew.heap.size = w.heap.size from rfl, listMem_one] at hp
    have hc : ∀ o v, (spr (len + n + q) (len + n) (catV g len h) z).get o = some v →
        (Cont.lit (((List.range len).map g ++ (List.range n).map h).toArray ++ Builtin.zeroCells z.cells (len + n + q - (len + n))).toList).get o = some v := fun o v ho => by
      rw [hzc, show len + n + q - (len + n) = q by omega]
      simp only [Cont.get, Array.toList_append, List.append_assoc, zeroCells_one]
      by_cases h0 : o < len + n + q
      · rw [spr, tabF_in h0] at ho
        by_cases h2 : o < len
        · rw [if_pos (by omega), catV, if_pos h2] at ho
          rw [List.getElem?_append_left (by simp; exact h2), List.getElem?_map, List.getElem?_range h2]; exact ho
        · rw [List.getElem?_append_right (by simp; omega)]
          by_cases h3 : o < len + n
          · rw [if_pos h3, catV, if_neg h2] at ho
            rw [List.getElem?_append_left (by simp; omega), List.getElem?_map]
            simp only [List.length_map, List.length_range]
            rw [List.getElem?_range (by omega)]; exact ho
          · rw [if_neg h3] at ho
            rw [List.getElem?_append_right (by simp; omega), List.getElem?_replicate, if_pos (by simp; omega)]; exact ho
      · rw [spr, tabF_out h0] at ho; cases ho
    have hN := (hp.holds 0 _ rfl).recont rfl hc
    refine ⟨fun p c hpc => ?_, fun p p' c d hpp hc1 hd ho => ?_, ⟨hp.adv.os, hp.adv.output, hp.adv.tape, hp.adv.size, hp.adv.heap, fun j hj => ?_, fun p c hpc ho => ?_⟩⟩
    · rcases p with _ | p
      · injection hpc with hpc; subst hpc; exact hN
      · simp [listMem] at hpc
    · rcases p with _ | p
      · rcases p' with _ | p'
        · exact absurd rfl hpp
        · simp [listMem] at hd
      · simp [listMem] at hc1
    · obtain ⟨p, c, hpc, ho, hjk⟩ := hj
      rcases p with _ | p
      · injection hpc with hpc; subst hpc; exact hp.adv.names _ ⟨0, _, rfl, rfl, hjk⟩
      · simp [listMem] at hpc
    · rcases p with _ | p
      · injection hpc with hpc; subst hpc; cases ho
      · simp [listMem] at hpc
end
theorem srunF_append_rec {P : Program} {t ty e : TypeId} {B : Nat} {F : Blk → Prop} (ht : P.underlying t = some (.slice e)) (h1 : OneC P e (u8 0) B) (b len r : Nat) (g : Nat → UInt8) (x : BytL) (hx : OkB x) (hF : ∀ c, famB x c → F c)
    (hb : (len + x.wn) * B ≤ 140737488355328 ∧ len + x.wn ≤ 9223372036854775807) :
    SRunsF F P (appXSem t t ty (.slice (some ⟨b, 0, none⟩) len (len + r)) (.slice x.wa x.wn x.wc)) [⟨b, true, 0, spr (len + r) len (fun k => u8 (g k)) (u8 0)⟩] 2
      (fun ns => .slice (some ⟨ns.getD 0 0, 0, none⟩) (len + x.wn) (len + x.wn + ns.getD 1 0))
      (fun ns => [some ⟨ns.getD 0 0, true, 0, spr (len + x.wn + ns.getD 1 0) (len + x.wn) (fun k => u8 (catU g len x.wf k)) (u8 0)⟩]) := by
  obtain ⟨i, hi, hz, hsz, hB, hzc⟩ := h1
  subst hB
  intro w hall ha hfam
  have hsrc : Go.Src P 1 t (.slice x.wa x.wn x.wc) x.wn ((List.range x.wn).map fun k => u8 (x.wf k)) w := by
    rcases Nat.eq_zero_or_pos x.wn with h0 | h0
    · rw [h0]
      cases hxa : x.wa with
      | none => exact Go.Src.ofNil w ht x.wc
      | some a => exact Go.Src.ofSlice w ht a 0 x.wc [] (by simp) (fun j u hj => by simp at hj) (fun u hu => by cases hu)
    · rw [hx.ad h0]
      have hH := (hfam _ (hF _ ⟨h0, rfl⟩)).1
      refine Go.Src.ofSlice w ht _ x.wn x.wc _ (by simp) (fun j u hj => ?_) (fun u hu => ?_)
      · obtain ⟨hjn, rfl⟩ := map_range_get hj
        have := hH.cell j (u8 (x.wf j)) (by show (tabF x.wn _).get j = _; rw [tabF_in hjn])
        rw [add_none]; exact this
      · obtain ⟨_, _, rfl⟩ := List.mem_map.1 hu; rfl
  have := arun_append_src (P := P) (t := t) (tx := t) (ty := ty) ht hi hz hsz hzc (b := b) (len := len) (r := r) (n := x.wn) (g := fun k => u8 (g k)) (h := fun k => u8 (x.wf k)) (x := .slice x.wa x.wn x.wc) w hall ha hsrc hb.1 hb.2
  rw [catV_K] at this
  exact this
end Go.Eng
end
section
namespace Go.Eng
set_option linter.unusedSimpArgs false
set_option linter.unusedVariables false
set_option maxRecDepth 100000
section
variable {P : Program} {t : TypeId}
end
end Go.Eng
end
