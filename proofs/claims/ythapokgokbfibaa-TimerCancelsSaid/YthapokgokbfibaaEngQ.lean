/-
  An engine for walks, seventeenth part: copies; one cell set; what is behind what is behind.
-/
import Derived.Test.YthapokgokbfibaaEngP
namespace Go.Eng

theorem Post.trans {m m' m'' : Nat → Option Blk} {w w' w'' : World} (h : Post m w m' w') (k : Post m' w' m'' w'') : Post m w m'' w'' := ⟨k.holds, k.apart, h.adv.trans k.adv⟩
theorem Post.drew {m : Nat → Option Blk} {w : World} (h : ∀ p b, m p = some b → Holds b w) (ha : Apart m) : Post m w m w.drew :=
  ⟨fun p b hp => (h p b hp).drew, ha, ⟨rfl, rfl, rfl, Nat.le_refl _, fun _ _ _ => rfl, fun _ h => .inl h, fun _ _ h _ => h⟩⟩

theorem listMem_two (x y : Option Blk) : listMem [x, y] = fun p => match p with
  | 0 => x
  | 1 => y
  | _ => none := by
  funext p
  rcases p with _ | _ | p <;> simp [listMem]
theorem listMem_set0 (x x' : Blk) (y : Option Blk) : memApply (listMem [some x, y]) [(0, some x')] = listMem [some x', y] := by
  funext p
  rcases p with _ | p <;> rfl

def copySem (dT sT ty : TypeId) (x y : Value) : Sem Next := do pure (.value (← Builtin.copy_ #[dT, sT] ty #[x, y]))

theorem srun_copy {P : Program} {dT sT ty e : TypeId} {n k od dl dc os sl sc : Nat} {D S D' cs : List Value}
    (hu : P.underlying dT = some (.slice e)) (hs : sizeB P e = some 1) (hcs : (S.drop os).take (min sl dl) = cs) (hlen : cs.length = min sl dl) (h1 : cs.all Value.oneCell' = true)
    (hst : (Cont.lit D).store (.lit od) cs = some (.lit D')) :
    SRuns P (copySem dT sT ty (.slice (some ⟨n, od, none⟩) dl dc) (.slice (some ⟨k, os, none⟩) sl sc)) [⟨n, true, 0, .lit D⟩, ⟨k, false, 0, .lit S⟩] 0 (fun _ => int cs.length) (fun _ => [some ⟨n, true, 0, .lit D'⟩, some ⟨k, false, 0, .lit S⟩]) := by
  intro w hm ha
  have hD : Holds ⟨n, true, 0, .lit D⟩ w := hm _ (by simp)
  have hS : Holds ⟨k, false, 0, .lit S⟩ w := hm _ (by simp)
  obtain ⟨g1, g2⟩ := Cont.store_get hst trivial
  have hr := run_copy_cells (P := P) w dT sT ty e n od dl dc ⟨k, os, none⟩ sl sc cs hu (by simpa [sizeB] using hs) (by rw [hlen])
    (fun j v hj => by
      have hjl : j < cs.length := (List.getElem?_eq_some_iff.1 hj).1
      have := hS.cell (os + j) v (by
        show S[os + j]? = some v
        rw [← hcs, List.getElem?_take_of_lt (by omega), List.getElem?_drop] at hj; exact hj)
      rw [show (⟨k, os, none⟩ : Addr).add j = ⟨k, os + j, none⟩ from add_none k os j]
      simpa using this)
    (fun j hj => by
      obtain ⟨u, hu⟩ := g1 j hj
      have := hD.cell _ u hu
      simp only [Cont.off, Nat.zero_add] at this
      rw [this]; rfl)
    (fun j hj => by
      obtain ⟨u, hu⟩ := g1 j hj
      have := hD.free rfl _ u hu
      simpa [Cont.off] using this) (List.all_eq_true.1 h1)
  refine ⟨[], w.setCells n od cs, rfl, .inl ?_, ?_⟩
  · show ((Builtin.copy_ #[dT, sT] ty #[.slice (some ⟨n, od, none⟩) dl dc, .slice (some ⟨k, os, none⟩) sl sc]).bind fun v => Sem.pure (Next.value v)).run P w = _
    have : ∀ (s : Sem Value) (v : Value) (w' : World), s.run P w = .ok v w' → (s.bind fun v => Sem.pure (Next.value v)).run P w = .ok (Next.value v) w' := fun s v w' h => by
      show (s >>= fun v => Sem.pure (Next.value v)).run P w = _
      rw [Sem.run_bind, h]; rfl
    exact this _ _ _ hr
  · have hp := post_store (m := listMem ([⟨n, true, 0, .lit D⟩, ⟨k, false, 0, .lit S⟩].map some)) (w := w) (p := 0) (b := ⟨n, true, 0, .lit D⟩) (l := .lit od) (cs := cs) (c := .lit D')
      (fun p b hb => hm b (List.mem_of_getElem? (listMem_some.1 hb))) ha rfl rfl hst trivial
    rw [show ([⟨n, true, 0, .lit D⟩, ⟨k, false, 0, .lit S⟩].map some : List (Option Blk)) = [some ⟨n, true, 0, .lit D⟩, some ⟨k, false, 0, .lit S⟩] from rfl] at hp ⊢
    rw [listMem_set0] at hp
    simpa [Cont.off] using hp

/-- One cell is set. -/
theorem setCells_one (w : World) (b o : Nat) (v : Value) : w.setCells b o [v] = w.setCell ⟨b, o, none⟩ v := rfl
theorem post_cell {n k : Nat} {D D' S : List Value} {w : World} {o : Nat} {v : Value} (hD : Holds ⟨n, true, 0, .lit D⟩ w) (hS : Holds ⟨k, false, 0, .lit S⟩ w) (hnk : n ≠ k)
    (hst : (Cont.lit D).store (.lit o) [v] = some (.lit D')) :
    Post (listMem [some ⟨n, true, 0, .lit D⟩, some ⟨k, false, 0, .lit S⟩]) w (listMem [some ⟨n, true, 0, .lit D'⟩, some ⟨k, false, 0, .lit S⟩]) (w.setCell ⟨n, o, none⟩ v) := by
  have hm : ∀ p b, listMem [some ⟨n, true, 0, .lit D⟩, some ⟨k, false, 0, .lit S⟩] p = some b → Holds b w := fun p b hb => by
    rcases p with _ | _ | p
    · injection hb with hb; subst hb; exact hD
    · injection hb with hb; subst hb; exact hS
    · simp [listMem] at hb
  have ha : Apart (listMem [some ⟨n, true, 0, .lit D⟩, some ⟨k, false, 0, .lit S⟩]) := fun p q b c hpq hb hc ho => by
    rcases p with _ | _ | p
    · rcases q with _ | _ | q
      · exact absurd rfl hpq
      · injection hb with hb; injection hc with hc; subst hb; subst hc; exact hnk
      · simp [listMem] at hc
    · injection hb with hb; subst hb; cases ho
    · simp [listMem] at hb
  have hp := post_store (p := 0) (b := ⟨n, true, 0, .lit D⟩) (l := .lit o) (cs := [v]) (c := .lit D') hm ha rfl rfl hst trivial
  rw [listMem_set0] at hp
  simpa [Cont.off, setCells_one] using hp
end Go.Eng
