/-
  An engine for walks, twenty-first part: rows of numbers; what is told of memory, told otherwise.
-/
import Derived.Test.YthapokgokbfibaaEngT
namespace Go.Eng
/-- Of the same blocks other contents are told, from which the ones that are asked for follow. -/
theorem Runs.retell {P : Program} {f : FuncId} {args : List Value} {bs bs' : List Blk} {k : Nat} {v : List Nat → Value} {out : List Nat → List (Option Blk)} (h : Runs P f args bs k v out)
    (hb : ∀ w : World, (∀ b ∈ bs', Holds b w) → ∀ b ∈ bs, Holds b w) (hn : bs.map (fun b => (b.name, b.own)) = bs'.map fun b => (b.name, b.own)) (hro : ∀ ns p b, listMem (out ns) p = some b → b.own = true) :
    Runs P f args bs' k v out := fun w hw ha => by
  have hlk : ∀ p b, listMem (bs.map some) p = some b → ∃ b', listMem (bs'.map some) p = some b' ∧ b'.name = b.name ∧ b'.own = b.own := fun p b hp => by
    have h1 := listMem_some.1 hp
    have h2 : (bs.map fun b => (b.name, b.own))[p]? = some (b.name, b.own) := by rw [List.getElem?_map, h1]; rfl
    rw [hn, List.getElem?_map] at h2
    cases h3 : bs'[p]? with
    | none => rw [h3] at h2; cases h2
    | some b' =>
      rw [h3] at h2
      simp at h2
      exact ⟨b', listMem_some.2 h3, h2.1, h2.2⟩
  have hlk' : ∀ p b, listMem (bs'.map some) p = some b → ∃ b', listMem (bs.map some) p = some b' ∧ b'.name = b.name ∧ b'.own = b.own := fun p b hp => by
    have h1 := listMem_some.1 hp
    have h2 : (bs'.map fun b => (b.name, b.own))[p]? = some (b.name, b.own) := by rw [List.getElem?_map, h1]; rfl
    rw [← hn, List.getElem?_map] at h2
    cases h3 : bs[p]? with
    | none => rw [h3] at h2; cases h2
    | some b' =>
      rw [h3] at h2
      simp at h2
      exact ⟨b', listMem_some.2 h3, h2.1, h2.2⟩
  refine Calls.mono (h w (hb w hw) fun p q b c hpq hp hq ho => ?_) fun e w' ⟨ns, h1, h2, h3⟩ => ⟨ns, h1, h2, h3.holds, h3.apart, ⟨h3.adv.os, h3.adv.output, h3.adv.tape, h3.adv.size, fun j hj hno => h3.adv.heap j hj fun ⟨p, b, hp, ho, he⟩ => ?_, fun j hj => ?_, fun p b hp ho => ?_⟩⟩
  · obtain ⟨b', hb1, hb2, hb3⟩ := hlk p b hp
    obtain ⟨c', hc1, hc2, hc3⟩ := hlk q c hq
    rw [← hb2, ← hc2]
    exact ha p q b' c' hpq hb1 hc1 (hb3.trans ho)
  · obtain ⟨b', hb1, hb2, hb3⟩ := hlk p b hp
    exact hno ⟨p, b', hb1, hb3.trans ho, hb2.trans he⟩
  · rcases h3.adv.names j hj with ⟨p, b, hp, ho, he⟩ | h4
    · obtain ⟨b', hb1, hb2, hb3⟩ := hlk p b hp
      exact .inl ⟨p, b', hb1, hb3.trans ho, hb2.trans he⟩
    · exact .inr h4
  · rw [hro ns p b hp] at ho; cases ho

abbrev tabN (n : Nat) (f : Nat → N4) : Cont := .tab n 4 fun k => cellsN (f k)
theorem store_tabN (n : Nat) (f : Nat → N4) (i : Nat) (v : N4) : (tabN n f).store (.tab i 0) [u64 v.a, u64 v.b, u64 v.c, u64 v.d] = some (tabN n (upd f i v)) := by
  show some (Cont.tab n 4 fun k => if k = i then splice (cellsN (f i)) 0 (cellsN v) else cellsN (f k)) = _
  congr 1
  unfold tabN
  congr 1
  funext k
  by_cases h : k = i
  · subst h; simp [upd]; rfl
  · simp [upd, h]
def nrow1 (a : N4) : Nat → N4 := fun _ => a
def nrow2 (a b : N4) : Nat → N4 := fun k => match k with
  | 0 => a
  | _ => b
def nrow3 (a b c : N4) : Nat → N4 := fun k => match k with
  | 0 => a
  | 1 => b
  | _ => c
theorem to_row1 (a : N4) : ∀ o v, (tabN 1 (nrow1 a)).get o = some v → (Cont.lit [u64 a.a, u64 a.b, u64 a.c, u64 a.d]).get o = some v := fun o v h => by
  rcases o with _ | _ | _ | _ | o <;> first | exact h | (rw [tabE_out (by omega)] at h; cases h)
theorem to_row2 (a b : N4) : ∀ o v, (tabN 2 (nrow2 a b)).get o = some v → (Cont.lit [u64 a.a, u64 a.b, u64 a.c, u64 a.d, u64 b.a, u64 b.b, u64 b.c, u64 b.d]).get o = some v := fun o v h => by
  rcases o with _ | _ | _ | _ | _ | _ | _ | _ | o <;> first | exact h | (rw [tabE_out (by omega)] at h; cases h)
theorem to_row3 (a b c : N4) : ∀ o v, (tabN 3 (nrow3 a b c)).get o = some v → (Cont.lit [u64 a.a, u64 a.b, u64 a.c, u64 a.d, u64 b.a, u64 b.b, u64 b.c, u64 b.d, u64 c.a, u64 c.b, u64 c.c, u64 c.d]).get o = some v := fun o v h => by
  rcases o with _ | _ | _ | _ | _ | _ | _ | _ | _ | _ | _ | _ | o <;> first | exact h | (rw [tabE_out (by omega)] at h; cases h)
/-- The first cell of two is told otherwise. -/
theorem holds_two {x y y' : Blk} (hn : y'.name = y.name ∧ y'.own = y.own ∧ y'.base = y.base) (hnm : y.cont.isMap = false) (hc : ∀ o v, y.cont.get o = some v → y'.cont.get o = some v) (w : World) (h : ∀ b ∈ [x, y'], Holds b w) : ∀ b ∈ [x, y], Holds b w := fun b hb => by
  rcases List.mem_cons.1 hb with rfl | hb
  · exact h _ (by simp)
  · rcases List.mem_cons.1 hb with rfl | hb
    · have := h y' (by simp)
      obtain ⟨n1, o1, b1, c1⟩ := b
      obtain ⟨n2, o2, b2, c2⟩ := y'
      obtain ⟨rfl, rfl, rfl⟩ := hn
      exact this.recont hnm hc
    · cases hb
end Go.Eng
