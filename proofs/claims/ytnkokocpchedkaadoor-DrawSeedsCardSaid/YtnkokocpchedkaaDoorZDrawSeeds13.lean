/-
  Many in one: Str, Str2.
-/
import Derived.Test.YtnkokocpchedkaaDoorZDrawSeeds12
import Derived.Deep.AppendSrc
import Derived.Lib.ConvBytes
set_option linter.unusedVariables false
set_option linter.unusedSimpArgs false
set_option maxRecDepth 100000
set_option exponentiation.threshold 600
set_option maxHeartbeats 1000000
section
namespace Go.Eng
def chrF (s : ByteArray) : Nat → UInt8 := fun k => s.data.toList.getD k 0
def convSem (src dst : TypeId) (x : Value) : Sem Next := do pure (.value (← convert src dst x))
theorem bytesCells_get (w : World) (e : TypeId) (s : ByteArray) (q : Nat) (hq : grownCap w s.size 0 e = s.size + q) (o : Nat) (v : Value) (h : (spr (s.size + q) s.size (fun k => u8 (chrF s k)) (u8 0)).get o = some v) :
    (Lib.bytesCells w e s)[o]? = some v := by
  unfold Lib.bytesCells
  rw [hq, show s.size + q - s.size = q by omega]
  by_cases h0 : o < s.size + q
  · rw [spr, tabF_in h0] at h
    by_cases h1 : o < s.size
    · rw [if_pos h1] at h
      injection h with h
      rw [Array.getElem?_append_left (by rw [Array.size_map]; exact h1), Array.getElem?_map, ← h]
      have h2 : o < s.data.toList.length := by rw [Array.length_toList]; exact h1
      rw [← Array.getElem?_toList, List.getElem?_eq_getElem h2]
      unfold chrF
      rw [List.getD_eq_getElem?_getD, List.getElem?_eq_getElem h2]
      rfl
    · rw [if_neg h1] at h
      injection h with h
      have h3 : s.data.size = s.size := rfl
      rw [Array.getElem?_append_right (by rw [Array.size_map]; omega), Array.size_map, Array.getElem?_replicate, if_pos (by omega), ← h]
      rfl
  · rw [spr, tabF_out h0] at h; cases h
theorem srun_str {P : Program} {src dst e : TypeId} (hs : P.underlying src = some .string) (hd : P.underlying dst = some (.slice e)) (he : P.underlying e = some (.int .u8)) (s : ByteArray) :
    SRuns P (convSem src dst (.string s)) [] 2 (fun ns => .slice (some ⟨ns.getD 0 0, 0, none⟩) s.size (s.size + ns.getD 1 0))
      (fun ns => [some ⟨ns.getD 0 0, true, 0, spr (s.size + ns.getD 1 0) s.size (fun k => u8 (chrF s k)) (u8 0)⟩]) := by
  intro w hall ha
  have hrun := Lib.run_convert_string_bytes (P := P) w src dst e s hs hd he
  have hge := grownCap_ge w s.size 0 e
  obtain ⟨q, hq⟩ : ∃ q, grownCap w s.size 0 e = s.size + q := ⟨_, (Nat.add_sub_cancel' hge).symm⟩
  rw [hq] at hrun
  refine ⟨[w.heap.size, q], _, rfl, .inl (run_value hrun), ?_⟩
  have hnew := Lib.bytesWorld_at_new w e s
  have hN : Holds ⟨w.heap.size, true, 0, spr (s.size + q) s.size (fun k => u8 (chrF s k)) (u8 0)⟩ (Lib.bytesWorld w e s) := by
    refine ⟨by show w.heap.size < _; rw [Lib.bytesWorld_size]; omega, fun o v ho => ?_, fun _ o v ho => ?_, obj_not rfl⟩
    · have h1 := bytesCells_get w e s q hq o v ho
      simp only [World.cell?, hnew, Nat.zero_add]
      simpa using h1
    · have h1 := bytesCells_get w e s q hq o v ho
      have h2 : o < (Lib.bytesCells w e s).size := by
        rcases Nat.lt_or_ge o (Lib.bytesCells w e s).size with h | h
        · exact h
        · rw [Array.getElem?_eq_none h] at h1; cases h1
      simp only [World.frozen?, hnew, Nat.zero_add]
      simp; omega
  refine ⟨fun p b hp => ?_, fun p r b c hpr hp hr ho => ?_, ⟨rfl, rfl, rfl, by rw [Lib.bytesWorld_size]; omega, fun j hj _ => Lib.bytesWorld_at_old w e s j hj, fun j hj => ?_, fun p b hp ho => ?_⟩⟩
  · rcases p with _ | p
    · injection hp with hp; subst hp; exact hN
    · simp [listMem] at hp
  · rcases p with _ | p
    · rcases r with _ | r
      · exact absurd rfl hpr
      · simp [listMem] at hr
    · simp [listMem] at hp
  · obtain ⟨p, b, hp, ho, hjk⟩ := hj
    rcases p with _ | p
    · injection hp with hp; subst hp; exact .inr (Nat.le_of_eq hjk)
    · simp [listMem] at hp
  · rcases p with _ | p
    · injection hp with hp; subst hp; cases ho
    · simp [listMem] at hp
def appXSem (t tx ty : TypeId) (x y : Value) : Sem Next := do pure (.value (← Builtin.append_ #[t, tx] ty #[x, y]))
theorem listMem_one (x x' : Blk) : memApply (listMem [some x]) [(0, some x')] = listMem [some x'] := by
  funext p
  rcases p with _ | p <;> rfl
section
variable {P : Program} {t tx ty e : TypeId} {i : TypeInfo} {z : Value}
theorem arun_append_src (ht : P.underlying t = some (.slice e)) (hi : P.info? e = some i) (hz : i.zero = some z) (hsz : i.size = 1) (hzc : z.cells = #[z])
    {b len r n : Nat} {g h : Nat → Value} {x : Value} (w : World) (hall : ∀ c ∈ [(⟨b, true, 0, spr (len + r) len g z⟩ : Blk)], Holds c w) (ha : Apart (listMem ([(⟨b, true, 0, spr (len + r) len g z⟩ : Blk)].map some)))
    (hsrc : Go.Src P 1 tx x n ((List.range n).map h) w)
    (hb : (len + n) * i.bytes ≤ 140737488355328) (hb2 : len + n ≤ 9223372036854775807) :
    ∃ (ns : List Nat) (w' : World), ns.length = 2 ∧ (((appXSem t tx ty (.slice (some ⟨b, 0, none⟩) len (len + r)) x).run P w = .ok (.value (.slice (some ⟨ns.getD 0 0, 0, none⟩) (len + n) (len + n + ns.getD 1 0))) w') ∨
        ((appXSem t tx ty (.slice (some ⟨b, 0, none⟩) len (len + r)) x).run P w = .ok .skip w' ∧ Value.slice (some ⟨ns.getD 0 0, 0, none⟩) (len + n) (len + n + ns.getD 1 0) = undef)) ∧
      Post (listMem ([(⟨b, true, 0, spr (len + r) len g z⟩ : Blk)].map some)) w (listMem [some ⟨ns.getD 0 0, true, 0, spr (len + n + ns.getD 1 0) (len + n) (catV g len h) z⟩]) w' := by
  have hA : Holds ⟨b, true, 0, spr (len + r) len g z⟩ w := hall _ (by simp)
  have hm : ∀ p c, listMem [some ⟨b, true, 0, spr (len + r) len g z⟩] p = some c → Holds c w := fun p c hc => hall c (List.mem_of_getElem? (listMem_some (l := [⟨b, true, 0, spr (len + r) len g z⟩]).1 hc))
  by_cases hr : n ≤ r
  · have hget : ∀ j, j < n → (spr (len + r) len g z).get (len + j) = some z := fun j hj => by
      rw [spr, tabF_in (by omega), if_neg (by omega)]
    have hrun := run_append_room_src (P := P) w t tx ty e i ht hi b 0 len (len + r) x n ((List.range n).map h) (by rw [hsz]; exact hsrc) (by omega)
      (fun j hj => by
        have hj' : j < n := by simpa using hj
        have := hA.cell _ _ (hget j hj')
        rw [show 0 + len * i.size + j = 0 + (len + j) by rw [hsz]; omega, this]; rfl)
      (fun j hj => by
        have hj' : j < n := by simpa using hj
        have := hA.free rfl _ _ (hget j hj')
        rw [show 0 + len * i.size + j = 0 + (len + j) by rw [hsz]; omega]; exact this)
    have hrun2 : (Builtin.append_ #[t, tx] ty #[.slice (some ⟨b, 0, none⟩) len (len + r), x]).run P w = .ok (.slice (some ⟨b, 0, none⟩) (len + n) (len + n + (r - n))) (w.setCells b (0 + len * i.size) ((List.range n).map h)) := by
      rw [show len + n + (r - n) = len + r by omega]; exact hrun
    refine ⟨[b, r - n], _, rfl, .inl (run_value hrun2), ?_⟩
    have hp := post_cells (m := listMem [some ⟨b, true, 0, spr (len + r) len g z⟩]) (w := w) (p := 0) (b := ⟨b, true, 0, spr (len + r) len g z⟩) (o0 := len) (cs := (List.range n).map h)
      (c := spr (len + r) (len + n) (catV g len h) z) hm ha rfl rfl rfl rfl (fun j hj => ⟨z, hget j (by simpa using hj)⟩) (fun j => by
        have hlen : ((List.range n).map h).length = n := by simp
        rw [hlen]
        by_cases hj : j < len + r
        · rw [spr, spr, tabF_in hj, tabF_in hj]
          by_cases h2 : j < len
          · rw [if_neg (show ¬ (len ≤ j ∧ j < len + n) by omega), if_pos h2, if_pos (show j < len + n by omega), catV, if_pos h2]
          · by_cases h3 : j < len + n
            · rw [if_pos (show len ≤ j ∧ j < len + n by omega), if_pos h3, catV, if_neg h2, List.getElem?_map, List.getElem?_range (by omega)]; rfl
            · rw [if_neg (show ¬ (len ≤ j ∧ j < len + n) by omega), if_neg h3, if_neg h2]
        · rw [spr, spr, tabF_out hj, tabF_out hj, if_neg (show ¬ (len ≤ j ∧ j < len + n) by omega)])
    rw [listMem_one] at hp
    have e1 : len + n + (r - n) = len + r := by omega
    simpa [hsz, e1] using hp
  · have hg : len + r < len + n := by omega
    have hold : (Builtin.firstCells i.size len (.slice (some ⟨b, 0, none⟩) len (len + r))).run P w.drew = .ok ((List.range len).map g).toArray w.drew :=
      run_firstCells_some w.drew i.size len ⟨b, 0, none⟩ len (len + r) ((List.range len).map g) (by simp [hsz]) (fun j v hj => by
        obtain ⟨hjn, rfl⟩ := map_range_get hj
        rw [add_none, Nat.zero_add]
        have := hA.cell j (g j) (by rw [spr, tabF_in (by omega), if_pos hjn])
        rw [Nat.zero_add] at this
        simpa using this)
    have hrun := run_append_grow_src (P := P) w t tx ty e i z ht hi hz (some ⟨b, 0, none⟩) len (len + r) ((List.range len).map g) hold x n ((List.range n).map h) (by rw [hsz]; exact hsrc) hg (by omega) (growslice_fits hg hb)
    have hge := grownCap_ge w (len + n) (len + r) e
    obtain ⟨q, hq⟩ : ∃ q, grownCap w (len + n) (len + r) e = len + n + q := ⟨_, (Nat.add_sub_cancel' hge).symm⟩
    rw [hq] at hrun
    refine ⟨[w.heap.size, q], _, rfl, .inl (run_value hrun), ?_⟩
    have hp0 := Post.drew hm ha
    have hp := hp0.trans (post_new hp0.holds hp0.apart 0 (((List.range len).map g ++ (List.range n).map h).toArray ++ Builtin.zeroCells z.cells (len + n + q - (len + n))) e)
    rw [show w.drew.heap.size = w.heap.size from rfl, listMem_one] at hp
    have hc : ∀ o v, (spr (len + n + q) (len + n) (catV g len h) z).get o = some v →
        (Cont.lit (((List.range len).map g ++ (List.range n).map h).toArray ++ Builtin.zeroCells z.cells (len + n + q - (len + n))).toList).get o = some v := fun o v ho => by
      rw [hzc, show len + n + q - (len + n) = q by omega]
      simp only [Cont.get, Array.toList_append, List.append_assoc, zeroCells_one]
      by_cases h0 : o < len + n + q
      · rw [spr, tabF_in h0] at ho
        by_cases h2 : o < len
        · rw [if_pos (by omega), catV, if_pos h2] at ho
          rw [List.getElem?_append_left (by simp; exact h2), List.getElem?_map, List.getElem?_range h2]; exact ho
        · rw [List.getElem?_append_right (by simp; omega)]
          by_cases h3 : o < len + n
          · rw [if_pos h3, catV, if_neg h2] at ho
            rw [List.getElem?_append_left (by simp; omega), List.getElem?_map]
            simp only [List.length_map, List.length_range]
            rw [List.getElem?_range (by omega)]; exact ho
          · rw [if_neg h3] at ho
            rw [List.getElem?_append_right (by simp; omega), List.getElem?_replicate, if_pos (by simp; omega)]; exact ho
      · rw [spr, tabF_out h0] at ho; cases ho
    have hN := (hp.holds 0 _ rfl).recont rfl hc
    refine ⟨fun p c hpc => ?_, fun p p' c d hpp hc1 hd ho => ?_, ⟨hp.adv.os, hp.adv.output, hp.adv.tape, hp.adv.size, hp.adv.heap, fun j hj => ?_, fun p c hpc ho => ?_⟩⟩
    · rcases p with _ | p
      · injection hpc with hpc; subst hpc; exact hN
      · simp [listMem] at hpc
    · rcases p with _ | p
      · rcases p' with _ | p'
        · exact absurd rfl hpp
        · simp [listMem] at hd
      · simp [listMem] at hc1
    · obtain ⟨p, c, hpc, ho, hjk⟩ := hj
      rcases p with _ | p
      · injection hpc with hpc; subst hpc; exact hp.adv.names _ ⟨0, _, rfl, rfl, hjk⟩
      · simp [listMem] at hpc
    · rcases p with _ | p
      · injection hpc with hpc; subst hpc; cases ho
      · simp [listMem] at hpc
theorem srun_append_src (ht : P.underlying t = some (.slice e)) (hi : P.info? e = some i) (hz : i.zero = some z) (hsz : i.size = 1) (hzc : z.cells = #[z])
    {b len r n : Nat} {g h : Nat → Value} {x : Value} (hsrc : ∀ w : World, Go.Src P 1 tx x n ((List.range n).map h) w)
    (hb : (len + n) * i.bytes ≤ 140737488355328) (hb2 : len + n ≤ 9223372036854775807) :
    SRuns P (appXSem t tx ty (.slice (some ⟨b, 0, none⟩) len (len + r)) x) [⟨b, true, 0, spr (len + r) len g z⟩] 2
      (fun ns => .slice (some ⟨ns.getD 0 0, 0, none⟩) (len + n) (len + n + ns.getD 1 0))
      (fun ns => [some ⟨ns.getD 0 0, true, 0, spr (len + n + ns.getD 1 0) (len + n) (catV g len h) z⟩]) := fun w hall ha =>
  arun_append_src ht hi hz hsz hzc w hall ha (hsrc w) hb hb2
end
theorem byteCells_chr (s : ByteArray) : byteCells s = (List.range s.size).map fun k => u8 (chrF s k) := by
  unfold byteCells
  apply List.ext_getElem?
  intro k
  have hl : s.data.toList.length = s.size := by rw [Array.length_toList]; rfl
  by_cases h : k < s.size
  · rw [List.getElem?_map, List.getElem?_map, List.getElem?_range h, List.getElem?_eq_getElem (by omega)]
    unfold chrF
    simp only [Option.map_some]
    rw [List.getD_eq_getElem?_getD, List.getElem?_eq_getElem (by omega)]
    rfl
  · rw [List.getElem?_eq_none (by rw [List.length_map]; omega), List.getElem?_eq_none (by simp; omega)]
theorem mk_append_str {P : Program} {t tx ty e : TypeId} {B : Nat} (ht : P.underlying t = some (.slice e)) (hx : P.underlying tx = some .string) (h1 : OneC P e (u8 0) B) (b len r : Nat) (g : Nat → UInt8) (s : ByteArray)
    (hb : (len + s.size) * B ≤ 140737488355328 ∧ len + s.size ≤ 9223372036854775807) :
    SRuns P (appXSem t tx ty (.slice (some ⟨b, 0, none⟩) len (len + r)) (.string s)) [⟨b, true, 0, spr (len + r) len (fun k => u8 (g k)) (u8 0)⟩] 2
      (fun ns => .slice (some ⟨ns.getD 0 0, 0, none⟩) (len + s.size) (len + s.size + ns.getD 1 0))
      (fun ns => [some ⟨ns.getD 0 0, true, 0, spr (len + s.size + ns.getD 1 0) (len + s.size) (fun k => u8 (catU g len (chrF s) k)) (u8 0)⟩]) := by
  obtain ⟨i, hi, hz, hsz, hB, hzc⟩ := h1
  subst hB
  have := srun_append_src (P := P) (t := t) (tx := tx) (ty := ty) ht hi hz hsz hzc (b := b) (len := len) (r := r) (n := s.size) (g := fun k => u8 (g k)) (h := fun k => u8 (chrF s k)) (x := .string s) (fun w => by rw [← byteCells_chr]; exact Go.Src.ofString w hx s) hb.1 hb.2
  rw [catV_K] at this
  exact this
theorem srunF_append_rec {P : Program} {t ty e : TypeId} {B : Nat} {F : Blk → Prop} (ht : P.underlying t = some (.slice e)) (h1 : OneC P e (u8 0) B) (b len r : Nat) (g : Nat → UInt8) (x : BytL) (hx : OkB x) (hF : ∀ c, famB x c → F c)
    (hb : (len + x.wn) * B ≤ 140737488355328 ∧ len + x.wn ≤ 9223372036854775807) :
    SRunsF F P (appXSem t t ty (.slice (some ⟨b, 0, none⟩) len (len + r)) (.slice x.wa x.wn x.wc)) [⟨b, true, 0, spr (len + r) len (fun k => u8 (g k)) (u8 0)⟩] 2
      (fun ns => .slice (some ⟨ns.getD 0 0, 0, none⟩) (len + x.wn) (len + x.wn + ns.getD 1 0))
      (fun ns => [some ⟨ns.getD 0 0, true, 0, spr (len + x.wn + ns.getD 1 0) (len + x.wn) (fun k => u8 (catU g len x.wf k)) (u8 0)⟩]) := by
  obtain ⟨i, hi, hz, hsz, hB, hzc⟩ := h1
  subst hB
  intro w hall ha hfam
  have hsrc : Go.Src P 1 t (.slice x.wa x.wn x.wc) x.wn ((List.range x.wn).map fun k => u8 (x.wf k)) w := by
    rcases Nat.eq_zero_or_pos x.wn with h0 | h0
    · rw [h0]
      cases hxa : x.wa with
      | none => exact Go.Src.ofNil w ht x.wc
      | some a => exact Go.Src.ofSlice w ht a 0 x.wc [] (by simp) (fun j u hj => by simp at hj) (fun u hu => by cases hu)
    · rw [hx.ad h0]
      have hH := (hfam _ (hF _ ⟨h0, rfl⟩)).1
      refine Go.Src.ofSlice w ht _ x.wn x.wc _ (by simp) (fun j u hj => ?_) (fun u hu => ?_)
      · obtain ⟨hjn, rfl⟩ := map_range_get hj
        have := hH.cell j (u8 (x.wf j)) (by show (tabF x.wn _).get j = _; rw [tabF_in hjn])
        rw [add_none]; exact this
      · obtain ⟨_, _, rfl⟩ := List.mem_map.1 hu; rfl
  have := arun_append_src (P := P) (t := t) (tx := t) (ty := ty) ht hi hz hsz hzc (b := b) (len := len) (r := r) (n := x.wn) (g := fun k => u8 (g k)) (h := fun k => u8 (x.wf k)) (x := .slice x.wa x.wn x.wc) w hall ha hsrc hb.1 hb.2
  rw [catV_K] at this
  exact this
end Go.Eng
end
section
namespace Go.Eng
section
variable {P : Program} {t : TypeId}
theorem is_lenStr {x : Operand} (ht : P.underlying t = some .string) (s : ByteArray) : IsOp P (.call { callee := .builtin .len, args := #[x], argTypes := #[t] }) [.string s] (nat s.size) := by
  intro ρ o ho hv
  rw [ho] at hv
  have hv' : ρ x = .string s := by simpa [Op.operands, Call.operands] using hv
  unfold execOp
  rw [ho]
  show pureRun P ((Builtin.len_ #[t] o.type (#[x].map ρ)) >>= fun v => (pure (Next.value v) : Sem Next)) = _
  have e1 : (#[x].map ρ : Array Value) = #[.string s] := by simp [hv']
  have e2 : pureRun P (Builtin.len_ #[t] o.type #[.string s]) = some (nat s.size) := by
    show pureRun P (underlying t >>= fun d => _) = _
    rw [pureRun_bind', pureRun_underlying ht]
    rfl
  rw [e1, pureRun_bind', e2]
  rfl
end
theorem lit_spr {nm : Nat} {l : List Value} {z : Value} {w : World} (h : Holds ⟨nm, true, 0, .lit l⟩ w) : Holds ⟨nm, true, 0, spr (l.length + 0) l.length (fun k => l.getD k z) z⟩ w :=
  h.recont rfl fun o v ho => by
    have ho' : (spr (l.length + 0) l.length (fun k => l.getD k z) z).get o = some v := ho
    show l[o]? = some v
    by_cases h0 : o < l.length
    · rw [spr, tabF_in (by omega), if_pos h0] at ho'
      rw [List.getD_eq_getElem?_getD, List.getElem?_eq_getElem h0] at ho'
      rw [List.getElem?_eq_getElem h0]; exact ho'
    · rw [spr, tabF_out (by omega)] at ho'; cases ho'
theorem srun_append_lit {P : Program} {t ty e : TypeId} {B : Nat} {z : Value} (ht : P.underlying t = some (.slice e)) (h1 : OneC P e z B) (b k : Nat) (l1 l2 : List Value) (h2 : l2.all Value.oneCell' = true)
    (hb : (l1.length + l2.length) * B ≤ 140737488355328 ∧ l1.length + l2.length ≤ 9223372036854775807) :
    SRuns P (appendSem t ty (.slice (some ⟨b, 0, none⟩) l1.length l1.length) (.slice (some ⟨k, 0, none⟩) l2.length l2.length)) [⟨b, true, 0, .lit l1⟩, ⟨k, false, 0, .lit l2⟩] 2
      (fun ns => .slice (some ⟨ns.getD 0 0, 0, none⟩) (l1.length + l2.length) (l1.length + l2.length + ns.getD 1 0))
      (fun ns => [some ⟨ns.getD 0 0, true, 0, spr (l1.length + l2.length + ns.getD 1 0) (l1.length + l2.length) (fun j => (l1 ++ l2).getD j z) z⟩, none]) := by
  obtain ⟨i, hi, hz, hsz, hB, hzc⟩ := h1
  subst hB
  have h0 := srun_append (P := P) (t := t) (ty := ty) ht hi hz hsz hzc (b := b) (len := l1.length) (r := 0) (k := k) (bo := 0) (os := 0) (n := l2.length) (cc := l2.length) (g := fun j => l1.getD j z) (h := fun j => l2.getD j z) (S := .lit l2)
    (fun j hj => by show l2[0 + j]? = _; rw [Nat.zero_add, List.getElem?_eq_getElem hj, List.getD_eq_getElem?_getD, List.getElem?_eq_getElem hj]; rfl)
    (fun j hj => by rw [List.getD_eq_getElem?_getD, List.getElem?_eq_getElem hj]; exact List.all_eq_true.1 h2 _ (List.getElem_mem hj)) hb.1 hb.2
  have hcat : catV (fun j => l1.getD j z) l1.length (fun j => l2.getD j z) = fun j => (l1 ++ l2).getD j z := by
    funext j
    unfold catV
    by_cases h : j < l1.length
    · rw [if_pos h]
      show l1.getD j z = (l1 ++ l2).getD j z
      rw [List.getD_eq_getElem?_getD, List.getD_eq_getElem?_getD, List.getElem?_append_left h]
    · rw [if_neg h]
      show l2.getD (j - l1.length) z = (l1 ++ l2).getD j z
      rw [List.getD_eq_getElem?_getD, List.getD_eq_getElem?_getD, List.getElem?_append_right (by omega)]
  rw [hcat] at h0
  have h3 := SRuns.dark [false, true] h0
  intro w hall ha
  have hall' : ∀ c ∈ [(⟨b, true, 0, spr (l1.length + 0) l1.length (fun j => l1.getD j z) z⟩ : Blk), ⟨k, false, 0, .lit l2⟩], Holds c w := fun c hc => by
    simp only [List.mem_cons, List.not_mem_nil, or_false] at hc
    rcases hc with rfl | rfl
    · exact lit_spr (hall ⟨b, true, 0, .lit l1⟩ (by simp))
    · exact hall _ (by simp)
  have hap : Apart (listMem [some (⟨b, true, 0, spr (l1.length + 0) l1.length (fun j => l1.getD j z) z⟩ : Blk), some ⟨k, false, 0, .lit l2⟩]) := fun p q c d hpq hc hd ho => by
    rcases p with _ | _ | p <;> rcases q with _ | _ | q
    · exact absurd rfl hpq
    · injection hc with hc; injection hd with hd; subst hc hd
      exact ha 0 1 ⟨b, true, 0, .lit l1⟩ ⟨k, false, 0, .lit l2⟩ (by omega) rfl rfl rfl
    · simp [listMem] at hd
    · injection hc with hc; subst hc; cases ho
    · exact absurd rfl hpq
    · simp [listMem] at hd
    · simp [listMem] at hc
    · simp [listMem] at hc
    · simp [listMem] at hc
  obtain ⟨ns, w', k1, k2, k3⟩ := h3 w hall' hap
  refine ⟨ns, w', k1, k2, ⟨k3.holds, k3.apart, ⟨k3.adv.os, k3.adv.output, k3.adv.tape, k3.adv.size, fun j hj hno => k3.adv.heap j hj (fun ⟨p, c, h4, h5, h6⟩ => hno ?_), fun j hj => ?_, fun p c hp ho => ?_⟩⟩⟩
  · rcases p with _ | _ | p
    · injection h4 with h4; subst h4; exact ⟨0, _, rfl, rfl, h6⟩
    · injection h4 with h4; subst h4; cases h5
    · simp [listMem] at h4
  · rcases k3.adv.names j hj with ⟨p, c, h4, h5, h6⟩ | h
    · left
      rcases p with _ | _ | p
      · injection h4 with h4; subst h4; exact ⟨0, _, rfl, rfl, h6⟩
      · injection h4 with h4; subst h4; cases h5
      · simp [listMem] at h4
    · exact .inr h
  · have := k3.adv.ro p c hp ho
    rcases p with _ | _ | p
    · injection this with this; subst this; cases ho
    · exact this
    · simp [listMem] at this
def litOf (b : Blk) : List Value := match b.cont with
  | .lit l => l
  | _ => []
def litAt (bs : List Blk) (k : Nat) : List Value := match bs[k]? with
  | some b => litOf b
  | none => []
end Go.Eng
end
