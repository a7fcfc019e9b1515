/-
  An engine for walks, nineteenth part: slices of elements of many cells.
-/
import Derived.Test.YthapokgokbfibaaEngR
namespace Go.Eng

/-- The cell at a place of a row whose elements have 'sz' cells. -/
def cf (sz : Nat) (g : Nat → List Value) (o : Nat) : Value := (g (o / sz)).getD (o % sz) undef
def sprE (sz c len : Nat) (g : Nat → List Value) (zc : List Value) : Cont := .tab c sz fun k => if k < len then g k else zc

section
variable {sz n len o : Nat} {E g h : Nat → List Value} {zc : List Value}
theorem div_lt_row (ho : o < n * sz) : o / sz < n := Nat.div_lt_of_lt_mul (by rw [Nat.mul_comm]; exact ho)
theorem div_ge_row (hsz : 0 < sz) (ho : ¬ o < n * sz) : ¬ o / sz < n := fun h => ho ((Nat.div_lt_iff_lt_mul hsz).1 h)
theorem tabE_in (hsz : 0 < sz) (hE : ∀ k, k < n → (E k).length = sz) (ho : o < n * sz) : (Cont.tab n sz E).get o = some (cf sz E o) := by
  have h2 : o % sz < (E (o / sz)).length := by rw [hE _ (div_lt_row ho)]; exact Nat.mod_lt _ hsz
  simp only [Cont.get, if_pos ho, cf]
  rw [List.getD_eq_getElem?_getD, List.getElem?_eq_getElem h2]; rfl
theorem tabE_out (ho : ¬ o < n * sz) : (Cont.tab n sz E).get o = none := by
  simp only [Cont.get, if_neg ho]
theorem cf_spr_lt (ho : o < len * sz) : cf sz (fun k => if k < len then g k else zc) o = cf sz g o := by
  show (if o / sz < len then g (o / sz) else zc).getD _ _ = _; rw [if_pos (div_lt_row ho)]; rfl
theorem cf_spr_ge (hsz : 0 < sz) (ho : ¬ o < len * sz) : cf sz (fun k => if k < len then g k else zc) o = zc.getD (o % sz) undef := by
  show (if o / sz < len then g (o / sz) else zc).getD _ _ = _; rw [if_neg (div_ge_row hsz ho)]
theorem cf_cat_lt (ho : o < len * sz) : cf sz (catU g len h) o = cf sz g o := by
  unfold cf catU; rw [if_pos (div_lt_row ho)]
theorem cf_cat_ge (hsz : 0 < sz) (ho : ¬ o < len * sz) : cf sz (catU g len h) o = cf sz h (o - len * sz) := by
  unfold cf catU
  rw [if_neg (div_ge_row hsz ho), Nat.mul_comm len sz, Nat.sub_mul_div, Nat.sub_mul_mod]
  rw [Nat.mul_comm]; omega
theorem sprE_get {c : Nat} (hsz : 0 < sz) (hg : ∀ k, (g k).length = sz) (hz : zc.length = sz) (ho : o < c * sz) : (sprE sz c len g zc).get o = some (if o < len * sz then cf sz g o else zc.getD (o % sz) undef) := by
  unfold sprE
  rw [tabE_in hsz (fun k _ => by split <;> first | exact hg _ | exact hz) ho]
  congr 1
  split
  · rename_i h; exact cf_spr_lt h
  · rename_i h; exact cf_spr_ge hsz h
theorem sprE_out {c : Nat} (ho : ¬ o < c * sz) : (sprE sz c len g zc).get o = none := tabE_out ho
/-- The room is forgotten. -/
theorem to_noroomE {c : Nat} (h : len ≤ c) (hg : ∀ k, k < len → g k = E k) : ∀ o v, (Cont.tab len sz g).get o = some v → (sprE sz c len E zc).get o = some v := fun o v ho => by
  by_cases hl : o < len * sz
  · have h2 : len * sz ≤ c * sz := Nat.mul_le_mul_right _ h
    simp only [sprE, Cont.get, if_pos hl, if_pos (show o < c * sz by omega), if_pos (div_lt_row hl)] at ho ⊢
    rw [← hg _ (div_lt_row hl)]; exact ho
  · rw [tabE_out hl] at ho; cases ho
theorem zeroCells_many {z : Array Value} (hz : z.toList = zc) (m k : Nat) (hk : k < m * zc.length) : (Builtin.zeroCells z m).toList[k]? = some (zc.getD (k % zc.length) undef) := by
  subst hz
  have hz0 : 0 < z.size := by
    rcases Nat.eq_zero_or_pos z.size with h0 | h0
    · simp [h0] at hk
    · exact h0
  have hk' : k < m * z.size := by simpa using hk
  have hm : k % z.size < z.size := Nat.mod_lt _ hz0
  simp [Builtin.zeroCells, hk', hm]
end

def zeroB (P : Program) (e : TypeId) : Option Value := match P.info? e with
  | some i => i.zero
  | none => none
section
variable {P : Program} {t ty e : TypeId} {i : TypeInfo} {z : Value} {sz : Nat} {zc : List Value}
theorem srunE_append (ht : P.underlying t = some (.slice e)) (hi : P.info? e = some i) (hz : i.zero = some z) (hsz : i.size = sz) (hs0 : 0 < sz) (hzc : z.cells.toList = zc) (hzl : zc.length = sz)
    {b len r k bo os n cc : Nat} {g h : Nat → List Value} {S : Cont} (hg : ∀ k, (g k).length = sz) (hh : ∀ k, (h k).length = sz) (hS : ∀ j, j < n * sz → S.get (os + j) = some (cf sz h j)) (h1 : ∀ j, j < n * sz → (cf sz h j).oneCell' = true)
    (hb : (len + n) * i.bytes ≤ 140737488355328) (hb2 : len + n ≤ 9223372036854775807) :
    SRuns P (appendSem t ty (.slice (some ⟨b, 0, none⟩) len (len + r)) (.slice (some ⟨k, bo + os, none⟩) n cc)) [⟨b, true, 0, sprE sz (len + r) len g zc⟩, ⟨k, false, bo, S⟩] 2
      (fun ns => .slice (some ⟨ns.getD 0 0, 0, none⟩) (len + n) (len + n + ns.getD 1 0))
      (fun ns => [some ⟨ns.getD 0 0, true, 0, sprE sz (len + n + ns.getD 1 0) (len + n) (catU g len h) zc⟩, some ⟨k, false, bo, S⟩]) := by
  intro w hall ha
  have hA : Holds ⟨b, true, 0, sprE sz (len + r) len g zc⟩ w := hall _ (by simp)
  have hK : Holds ⟨k, false, bo, S⟩ w := hall _ (by simp)
  have hcat : ∀ k, (catU g len h k).length = sz := fun k => by unfold catU; split <;> first | exact hg _ | exact hh _
  have hnews : ∀ j u, ((List.range (n * sz)).map (cf sz h))[j]? = some u → w.cell? ((⟨k, bo + os, none⟩ : Addr).add j) = some u := fun j u hj => by
    obtain ⟨hjn, rfl⟩ := map_range_get hj
    rw [add_none, Nat.add_assoc]
    exact hK.cell _ _ (hS j hjn)
  have hone : ∀ u ∈ (List.range (n * sz)).map (cf sz h), u.oneCell' = true := fun u hu => by
    obtain ⟨j, hj, rfl⟩ := List.mem_map.1 hu
    exact h1 j (List.mem_range.1 hj)
  have hm : ∀ p c, listMem [some ⟨b, true, 0, sprE sz (len + r) len g zc⟩, some ⟨k, false, bo, S⟩] p = some c → Holds c w := fun p c hc => hall c (List.mem_of_getElem? (listMem_some (l := [⟨b, true, 0, sprE sz (len + r) len g zc⟩, ⟨k, false, bo, S⟩]).1 hc))
  have hadd : (len + n) * sz = len * sz + n * sz := Nat.add_mul _ _ _
  by_cases hr : n ≤ r
  · -- there is room
    have hle : len * sz + n * sz ≤ (len + r) * sz := by rw [← hadd]; exact Nat.mul_le_mul_right _ (by omega)
    have hget : ∀ j, j < n * sz → ∃ u, (sprE sz (len + r) len g zc).get (len * sz + j) = some u := fun j hj => ⟨_, sprE_get hs0 hg hzl (by omega)⟩
    have hrun := run_append_room_cells (P := P) w t ty e i ht hi b 0 len (len + r) ⟨k, bo + os, none⟩ n cc ((List.range (n * sz)).map (cf sz h)) (by simp [hsz]) hnews hone (by omega)
      (fun j hj => by
        obtain ⟨u, hu⟩ := hget j (by simpa using hj)
        have := hA.cell _ _ hu
        rw [show 0 + len * i.size + j = 0 + (len * sz + j) by rw [hsz]; omega, this]; rfl)
      (fun j hj => by
        obtain ⟨u, hu⟩ := hget j (by simpa using hj)
        have := hA.free rfl _ _ hu
        rw [show 0 + len * i.size + j = 0 + (len * sz + j) by rw [hsz]; omega]; exact this)
    have hrun2 : (Builtin.append_ #[t, t] ty #[.slice (some ⟨b, 0, none⟩) len (len + r), .slice (some ⟨k, bo + os, none⟩) n cc]).run P w = .ok (.slice (some ⟨b, 0, none⟩) (len + n) (len + n + (r - n))) (w.setCells b (0 + len * i.size) ((List.range (n * sz)).map (cf sz h))) := by
      rw [show len + n + (r - n) = len + r by omega]; exact hrun
    refine ⟨[b, r - n], _, rfl, .inl (run_value hrun2), ?_⟩
    have hp := post_cells (m := listMem [some ⟨b, true, 0, sprE sz (len + r) len g zc⟩, some ⟨k, false, bo, S⟩]) (w := w) (p := 0) (b := ⟨b, true, 0, sprE sz (len + r) len g zc⟩) (o0 := len * sz) (cs := (List.range (n * sz)).map (cf sz h))
      (c := sprE sz (len + r) (len + n) (catU g len h) zc) hm ha rfl rfl rfl (fun j hj => hget j (by simpa using hj)) (fun j => by
        have hlen : ((List.range (n * sz)).map (cf sz h)).length = n * sz := by simp
        rw [hlen]
        by_cases hj : j < (len + r) * sz
        · rw [sprE_get hs0 hcat hzl hj, sprE_get hs0 hg hzl hj, hadd]
          by_cases h2 : j < len * sz
          · rw [if_neg (show ¬ (len * sz ≤ j ∧ j < len * sz + n * sz) by omega), if_pos h2, if_pos (show j < len * sz + n * sz by omega), cf_cat_lt h2]
          · by_cases h3 : j < len * sz + n * sz
            · rw [if_pos (show len * sz ≤ j ∧ j < len * sz + n * sz by omega), if_pos h3, cf_cat_ge hs0 h2, List.getElem?_map, List.getElem?_range (by omega)]; rfl
            · rw [if_neg (show ¬ (len * sz ≤ j ∧ j < len * sz + n * sz) by omega), if_neg h3, if_neg h2]
        · rw [sprE_out hj, sprE_out hj, if_neg (show ¬ (len * sz ≤ j ∧ j < len * sz + n * sz) by omega)])
    rw [listMem_set0] at hp
    have e1 : len + n + (r - n) = len + r := by omega
    simpa [hsz, e1] using hp
  · -- it grows
    have hgr : len + r < len + n := by omega
    have hrun := run_append_grow (P := P) w t ty e i z ht hi hz ⟨b, 0, none⟩ len (len + r) ((List.range (len * sz)).map (cf sz g)) (by simp [hsz])
      (fun j v hj => by
        obtain ⟨hjn, rfl⟩ := map_range_get hj
        rw [add_none, Nat.zero_add]
        have hle : len * sz ≤ (len + r) * sz := Nat.mul_le_mul_right _ (by omega)
        have := hA.cell j (cf sz g j) (by rw [sprE_get hs0 hg hzl (by omega), if_pos hjn])
        rw [Nat.zero_add] at this; exact this)
      ⟨k, bo + os, none⟩ n cc ((List.range (n * sz)).map (cf sz h)) (by simp [hsz]) hnews hgr (by omega) (growslice_fits hgr hb)
    have hge := grownCap_ge w (len + n) (len + r) e
    obtain ⟨q, hq⟩ : ∃ q, grownCap w (len + n) (len + r) e = len + n + q := ⟨_, (Nat.add_sub_cancel' hge).symm⟩
    rw [hq] at hrun
    refine ⟨[w.heap.size, q], _, rfl, .inl (run_value hrun), ?_⟩
    have hp0 := Post.drew hm ha
    have hp := hp0.trans (post_new hp0.holds hp0.apart 0 (((List.range (len * sz)).map (cf sz g)).toArray ++ ((List.range (n * sz)).map (cf sz h)).toArray ++ Builtin.zeroCells z.cells (len + n + q - (len + n))) e)
    rw [show w.drew.heap.size = w.heap.size from rfl, listMem_set0] at hp
    have hc : ∀ o v, (sprE sz (len + n + q) (len + n) (catU g len h) zc).get o = some v →
        (Cont.lit (((List.range (len * sz)).map (cf sz g)).toArray ++ ((List.range (n * sz)).map (cf sz h)).toArray ++ Builtin.zeroCells z.cells (len + n + q - (len + n))).toList).get o = some v := fun o v ho => by
      rw [show len + n + q - (len + n) = q by omega]
      simp only [Cont.get, Array.toList_append, List.append_assoc]
      have hall3 : (len + n + q) * sz = len * sz + n * sz + q * sz := by rw [Nat.add_mul, Nat.add_mul]
      by_cases h0 : o < (len + n + q) * sz
      · rw [sprE_get hs0 hcat hzl h0, hadd] at ho
        by_cases h2 : o < len * sz
        · rw [if_pos (by omega), cf_cat_lt h2] at ho
          rw [List.getElem?_append_left (by simp; exact h2), List.getElem?_map, List.getElem?_range h2]; exact ho
        · rw [List.getElem?_append_right (by simp; omega)]
          by_cases h3 : o < len * sz + n * sz
          · rw [if_pos h3, cf_cat_ge hs0 h2] at ho
            rw [List.getElem?_append_left (by simp; omega), List.getElem?_map]
            simp only [List.length_map, List.length_range]
            rw [List.getElem?_range (by omega)]; exact ho
          · rw [if_neg h3] at ho
            rw [List.getElem?_append_right (by simp; omega)]
            simp only [List.length_map, List.length_range]
            rw [zeroCells_many hzc q _ (by rw [hzl]; omega), ← ho, hzl]
            rw [show o - len * sz - n * sz = o - sz * (len + n) by rw [Nat.mul_comm sz, hadd]; omega, Nat.sub_mul_mod]
            rw [Nat.mul_comm, hadd]; omega
      · rw [sprE_out h0] at ho; cases ho
    have hN := (hp.holds 0 _ rfl).recont rfl hc
    refine ⟨fun p c hpc => ?_, fun p p' c d hpp hc1 hd ho => ?_, ⟨hp.adv.os, hp.adv.output, hp.adv.tape, hp.adv.size, hp.adv.heap, fun j hj => ?_, fun p c hpc ho => ?_⟩⟩
    · rcases p with _ | _ | p
      · injection hpc with hpc; subst hpc; exact hN
      · injection hpc with hpc; subst hpc; exact hp.holds 1 _ rfl
      · simp [listMem] at hpc
    · rcases p with _ | _ | p
      · injection hc1 with hc1; subst hc1
        rcases p' with _ | _ | p'
        · exact absurd rfl hpp
        · injection hd with hd; subst hd
          have h01 := hp.apart 0 1 _ _ (by omega) rfl rfl rfl
          exact h01
        · simp [listMem] at hd
      · injection hc1 with hc1; subst hc1; cases ho
      · simp [listMem] at hc1
    · obtain ⟨p, c, hpc, ho, rfl⟩ := hj
      rcases p with _ | _ | p
      · injection hpc with hpc; subst hpc
        exact .inr (Nat.le_refl _)
      · injection hpc with hpc; subst hpc; cases ho
      · simp [listMem] at hpc
    · rcases p with _ | _ | p
      · injection hpc with hpc; subst hpc; cases ho
      · exact hpc
      · simp [listMem] at hpc

theorem srunE_append_nil (ht : P.underlying t = some (.slice e)) (hi : P.info? e = some i) (hz : i.zero = some z) (hsz : i.size = sz) (hs0 : 0 < sz) (hzc : z.cells.toList = zc) (hzl : zc.length = sz)
    {k bo os n cc : Nat} {h : Nat → List Value} {S : Cont} (hh : ∀ k, (h k).length = sz) (hS : ∀ j, j < n * sz → S.get (os + j) = some (cf sz h j)) (hn0 : 0 < n)
    (hb : n * i.bytes ≤ 140737488355328) (hb2 : n ≤ 9223372036854775807) :
    SRuns P (appendSem t ty (.slice none 0 0) (.slice (some ⟨k, bo + os, none⟩) n cc)) [⟨k, false, bo, S⟩] 2
      (fun ns => .slice (some ⟨ns.getD 0 0, 0, none⟩) n (n + ns.getD 1 0))
      (fun ns => [some ⟨k, false, bo, S⟩, some ⟨ns.getD 0 0, true, 0, sprE sz (n + ns.getD 1 0) n h zc⟩]) := by
  intro w hall ha
  have hK : Holds ⟨k, false, bo, S⟩ w := hall _ (by simp)
  have hnews : ∀ j u, ((List.range (n * sz)).map (cf sz h))[j]? = some u → w.cell? ((⟨k, bo + os, none⟩ : Addr).add j) = some u := fun j u hj => by
    obtain ⟨hjn, rfl⟩ := map_range_get hj
    rw [add_none, Nat.add_assoc]
    exact hK.cell _ _ (hS j hjn)
  have hrun := run_append_nil (P := P) w t ty e i z ht hi hz ⟨k, bo + os, none⟩ n cc ((List.range (n * sz)).map (cf sz h)) (by simp [hsz]) hnews hn0 (by omega) (by omega)
  have hge := grownCap_ge w n 0 e
  obtain ⟨q, hq⟩ : ∃ q, grownCap w n 0 e = n + q := ⟨_, (Nat.add_sub_cancel' hge).symm⟩
  rw [hq] at hrun
  refine ⟨[w.heap.size, q], _, rfl, .inl (run_value hrun), ?_⟩
  have hp := post_new (m := fun _ => none) (w := w.drew) (fun p b h => by cases h) (fun p q b c _ h => by cases h) 0 (((List.range (n * sz)).map (cf sz h)).toArray ++ Builtin.zeroCells z.cells (n + q - n)) e
  have hN0 := hp.holds 0 ⟨w.heap.size, true, 0, .lit (((List.range (n * sz)).map (cf sz h)).toArray ++ Builtin.zeroCells z.cells (n + q - n)).toList⟩ rfl
  have hc : ∀ o v, (sprE sz (n + q) n h zc).get o = some v → (Cont.lit (((List.range (n * sz)).map (cf sz h)).toArray ++ Builtin.zeroCells z.cells (n + q - n)).toList).get o = some v := fun o v ho => by
    rw [show n + q - n = q by omega]
    simp only [Cont.get, Array.toList_append]
    have hall3 : (n + q) * sz = n * sz + q * sz := Nat.add_mul _ _ _
    by_cases h0 : o < (n + q) * sz
    · rw [sprE_get hs0 hh hzl h0] at ho
      by_cases h2 : o < n * sz
      · rw [if_pos h2] at ho
        rw [List.getElem?_append_left (by simp; exact h2), List.getElem?_map, List.getElem?_range h2]; exact ho
      · rw [if_neg h2] at ho
        rw [List.getElem?_append_right (by simp; omega)]
        simp only [List.length_map, List.length_range]
        rw [zeroCells_many hzc q _ (by rw [hzl]; omega), ← ho, hzl]
        rw [Nat.mul_comm n sz, Nat.sub_mul_mod]
        rw [Nat.mul_comm]; omega
    · rw [sprE_out h0] at ho; cases ho
  exact post_made hK rfl rfl rfl (hN0.recont rfl hc) rfl rfl rfl (by simp) (fun j hj => by
    simp only [World.alloc]
    rw [Array.getElem?_push, if_neg (by show ¬ j = w.heap.size; omega)]; rfl)

theorem srunE_make (ht : P.underlying t = some (.slice e)) (hi : P.info? e = some i) (hz : i.zero = some z) (hsz : i.size = sz) (hs0 : 0 < sz) (hzc : z.cells.toList = zc) (hzl : zc.length = sz) {n : Nat} (hb : (i.bytes : Int) * n ≤ 281474976710656) (hb2 : n ≤ 9223372036854775807) :
    SRuns P (makeSem t (nat n) (nat n)) [] 1 (fun ns => .slice (some ⟨ns.getD 0 0, 0, none⟩) n n) (fun ns => [some ⟨ns.getD 0 0, true, 0, .tab n sz fun _ => zc⟩]) := by
  refine (srun_made (P := P) (e := e) (s := makeSem t (nat n) (nat n)) (cs := madeCells z.cells (n * i.size)) (len := n) (cap := n) fun w => ?_).recont (fun _ => rfl) fun ns o v ho => ?_
  · refine run_value ?_
    have := run_make (P := P) w t e i z ht hi hz .i64 .i64 (n : Int) (n : Int) (by omega) (by omega) hb (by omega)
    simpa [nat] using this
  · subst hzc
    by_cases hon : o < n * sz
    · rw [tabE_in hs0 (fun _ _ => hzl) hon] at ho
      have hz' : z.cells.size = sz := by simpa using hzl
      have hm : o % sz < z.cells.size := by rw [hz']; exact Nat.mod_lt _ hs0
      rw [← ho]
      simp [Cont.get, madeCells, hsz, hon, cf, hz', hz' ▸ hm]
    · rw [tabE_out hon] at ho; cases ho
end
/-- An element of some cells. -/
def AggC (P : Program) (e : TypeId) (zc : List Value) (sz B : Nat) : Prop := ∃ i z, P.info? e = some i ∧ i.zero = some z ∧ i.size = sz ∧ i.bytes = B ∧ z.cells.toList = zc ∧ zc.length = sz ∧ 0 < sz
theorem aggC_of {P : Program} {e : TypeId} {z : Value} {zc : List Value} {sz B : Nat} (h : oneB P e = some (z, sz, B)) (hz : z.cells.toList = zc) (hl : zc.length = sz) (h0 : 0 < sz) : AggC P e zc sz B := by
  unfold oneB at h
  split at h
  · rename_i i hi
    split at h
    · rename_i z' hz'
      injection h with h
      injection h with h1 h2
      injection h2 with h2 h3
      subst h1
      exact ⟨i, z', hi, hz', h2, h3, hz, hl, h0⟩
    · cases h
  · cases h
theorem catE_K {α : Type} (K : α → List Value) (g h : Nat → α) (len : Nat) : catU (fun k => K (g k)) len (fun k => K (h k)) = fun k => K (catU g len h k) := by
  funext k; unfold catU; split <;> rfl
theorem tabE_src {n sz : Nat} {E : Nat → List Value} (hsz : 0 < sz) (hE : ∀ k, (E k).length = sz) : ∀ j, j < n * sz → (Cont.tab n sz E).get (0 + j) = some (cf sz E j) := fun j hj => by
  rw [Nat.zero_add]; exact tabE_in hsz (fun k _ => hE k) hj
theorem lit_src {sz : Nat} {l : List Value} (hl : l.length = sz) : ∀ j, j < 1 * sz → (Cont.lit l).get (0 + j) = some (cf sz (fun _ => l) j) := fun j hj => by
  rw [Nat.one_mul] at hj
  rw [Nat.zero_add]
  unfold cf
  rw [Nat.mod_eq_of_lt hj]
  simp [Cont.get, hl, hj]
section
variable {P : Program} {t ty e : TypeId}
theorem mkE_append {sz B : Nat} {zc : List Value} (ht : P.underlying t = some (.slice e)) (h1 : AggC P e zc sz B) (b len r k bo os n cc : Nat) {α : Type} (K : α → List Value) (hK : ∀ a, (K a).length = sz ∧ (K a).all Value.oneCell' = true) (g h : Nat → α) (S : Cont)
    (hS : ∀ j, j < n * sz → S.get (os + j) = some (cf sz (fun k => K (h k)) j)) (hb : (len + n) * B ≤ 140737488355328 ∧ len + n ≤ 9223372036854775807) :
    SRuns P (appendSem t ty (.slice (some ⟨b, 0, none⟩) len (len + r)) (.slice (some ⟨k, bo + os, none⟩) n cc)) [⟨b, true, 0, sprE sz (len + r) len (fun k => K (g k)) zc⟩, ⟨k, false, bo, S⟩] 2
      (fun ns => .slice (some ⟨ns.getD 0 0, 0, none⟩) (len + n) (len + n + ns.getD 1 0))
      (fun ns => [some ⟨ns.getD 0 0, true, 0, sprE sz (len + n + ns.getD 1 0) (len + n) (fun k => K (catU g len h k)) zc⟩, some ⟨k, false, bo, S⟩]) := by
  obtain ⟨i, z, hi, hz, hsz, hB, hzc, hzl, hs0⟩ := h1
  subst hB
  have := srunE_append (P := P) (t := t) (ty := ty) ht hi hz hsz hs0 hzc hzl (b := b) (len := len) (r := r) (k := k) (bo := bo) (os := os) (n := n) (cc := cc) (g := fun k => K (g k)) (h := fun k => K (h k)) (S := S) (fun _ => (hK _).1) (fun _ => (hK _).1) hS
    (fun j hj => by
      have hl := (hK (h (j / sz))).1
      have hm : j % sz < (K (h (j / sz))).length := by rw [hl]; exact Nat.mod_lt _ hs0
      unfold cf
      rw [List.getD_eq_getElem?_getD, List.getElem?_eq_getElem hm]
      exact List.all_eq_true.1 (hK (h (j / sz))).2 _ (List.getElem_mem hm)) hb.1 hb.2
  rw [catE_K] at this
  exact this
theorem mkE_append_nil {sz B : Nat} {zc : List Value} (ht : P.underlying t = some (.slice e)) (h1 : AggC P e zc sz B) (k bo os n cc : Nat) {α : Type} (K : α → List Value) (hK : ∀ a, (K a).length = sz ∧ (K a).all Value.oneCell' = true) (h : Nat → α) (S : Cont)
    (hS : ∀ j, j < n * sz → S.get (os + j) = some (cf sz (fun k => K (h k)) j)) (hb : 0 < n ∧ n * B ≤ 140737488355328 ∧ n ≤ 9223372036854775807) :
    SRuns P (appendSem t ty (.slice none 0 0) (.slice (some ⟨k, bo + os, none⟩) n cc)) [⟨k, false, bo, S⟩] 2
      (fun ns => .slice (some ⟨ns.getD 0 0, 0, none⟩) n (n + ns.getD 1 0))
      (fun ns => [some ⟨k, false, bo, S⟩, some ⟨ns.getD 0 0, true, 0, sprE sz (n + ns.getD 1 0) n (fun k => K (h k)) zc⟩]) := by
  obtain ⟨i, z, hi, hz, hsz, hB, hzc, hzl, hs0⟩ := h1
  subst hB
  exact srunE_append_nil ht hi hz hsz hs0 hzc hzl (fun _ => (hK _).1) hS hb.1 hb.2.1 hb.2.2
theorem mkE_make {sz B : Nat} {zc : List Value} (ht : P.underlying t = some (.slice e)) (h1 : AggC P e zc sz B) (n : Nat) (hb : (B : Int) * (n : Int) ≤ 281474976710656 ∧ n ≤ 9223372036854775807) :
    SRuns P (makeSem t (nat n) (nat n)) [] 1 (fun ns => .slice (some ⟨ns.getD 0 0, 0, none⟩) n n) (fun ns => [some ⟨ns.getD 0 0, true, 0, .tab n sz fun _ => zc⟩]) := by
  obtain ⟨i, z, hi, hz, hsz, hB, hzc, hzl, hs0⟩ := h1
  subst hB
  exact srunE_make ht hi hz hsz hs0 hzc hzl hb.1 hb.2
theorem mkE_build {sz B : Nat} {zc : List Value} {z : Value} (h1 : AggC P e zc sz B) (hz0 : zeroB P e = some z) (len : Nat) (parts : Array (Nat × Value)) (cs : Array Value) (ht : P.underlying t = some (.slice e)) (h0 : len * sz ≠ 0 ∧ len * sz ≤ 16777216) (hcs : bsCells z sz len parts = some cs) :
    SRuns P (buildSem t len parts) [] 1 (fun ns => .slice (some ⟨ns.getD 0 0, 0, none⟩) len len) (fun ns => [some ⟨ns.getD 0 0, true, 0, .lit cs.toList⟩]) := by
  obtain ⟨i, z', hi, hz, hsz, hB, hzc, hzl, hs0⟩ := h1
  have hzz : z' = z := by simpa [zeroB, hi, hz] using hz0
  subst hzz
  exact srun_build ht hi hz (by rw [hsz]; exact h0.1) (by rw [hsz]; exact h0.2) (by rw [hsz]; exact hcs)
end
end Go.Eng
