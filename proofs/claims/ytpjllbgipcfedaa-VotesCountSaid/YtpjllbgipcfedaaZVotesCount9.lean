/-
  Many in one: SortI.
-/
import Derived.Test.YtpjllbgipcfedaaZVotesCount8
import Derived.Shelf.Sort.Plain
section
namespace Go.Eng
set_option linter.unusedSimpArgs false
set_option linter.unusedVariables false
open Go.Sort
def zL (l : List Int) : Nat → Int := fun k => l.getD k 0
def srtI (l : List Int) : List Int := l.mergeSort fun x y => decide (x ≤ y)
theorem srtI_len (l : List Int) : (srtI l).length = l.length := List.length_mergeSort l
theorem heap_putRow {α : Type} [Inhabited α] (enc : α → Value) (w : World) (blk off : Nat) (d : Array α) {k : Nat} (h : k ≠ blk) : (putRow enc w blk off d).heap[k]? = w.heap[k]? := by
  unfold putRow mapBlock
  simp only [Array.getElem?_modify, if_neg (Ne.symm h)]
theorem size_putRow {α : Type} [Inhabited α] (enc : α → Value) (w : World) (blk off : Nat) (d : Array α) : (putRow enc w blk off d).heap.size = w.heap.size := by
  unfold putRow mapBlock; simp
theorem sort_runs {P : Program} {ρ : Go.Shelf.Ren} (Ly : Go.Proofs.Lays.n189 P ρ) (b c : Nat) (l : List Int) (hl : l.length < 4611686018427387904) :
    Runs P (ρ.f 189) [.slice (some ⟨b, 0, none⟩) l.length c] [⟨b, true, 0, tabF l.length fun k => int (zL l k)⟩] 0 (fun _ => .tuple #[]) (fun _ => [some ⟨b, true, 0, tabF l.length fun k => int (zL (srtI l) k)⟩]) := by
  intro w hall ha
  have hB := hall _ (List.mem_singleton.2 rfl)
  have hH : Sort.Holds (Value.int .i64) w b 0 l.toArray := fun j hj => by
    have hj' : j < l.length := by simpa using hj
    have hg : (tabF l.length fun k => int (zL l k)).get j = some (int (zL l j)) := tabF_in hj'
    have h1 := hB.cell j _ hg
    have h2 := hB.free rfl j _ hg
    refine ⟨?_, by simpa using h2⟩
    have e : zL l j = l.toArray[j]! := by unfold zL; simp [hj', List.getD_eq_getElem?_getD]
    rw [← e]; simpa [int] using h1
  refine Calls.mono (Go.Proofs.Any.slices_Sort_int Ly b 0 c l w hH hB.lt hl) ?_
  rintro e w' ⟨rfl, n, os, rfl⟩
  refine ⟨[], rfl, rfl, ?_⟩
  have hs : (srtI l).toArray.size = l.toArray.size := by simp [srtI_len]
  have hH2 : Sort.Holds (Value.int .i64) (grow (putRow (Value.int .i64) (Sort.ahead w n) b 0 (srtI l).toArray) os) b 0 (srtI l).toArray :=
    holds_grow _ _ _ _ _ _ (by rw [size_putRow]; exact hB.lt) (holds_putRow _ _ _ _ _ _ (holds_ahead _ _ _ _ _ _ hH) hs)
  refine ⟨fun p q hpq => ?_, fun p p' q d hpp hc hd ho => ?_, ⟨rfl, rfl, rfl, ?_, fun k hk hn => ?_, fun j hj => ?_, fun p q hpq ho => ?_⟩⟩
  · rcases p with _ | p
    · injection hpq with hpq; subst hpq
      refine ⟨?_, fun o v hv => ?_, fun _ o v hv => ?_, obj_not rfl⟩
      · show b < _
        rw [size_grow, size_putRow]; exact Nat.lt_of_lt_of_le hB.lt (Nat.le_add_right _ _)
      · by_cases ho : o < l.length
        · rw [tabF_in ho] at hv; injection hv with hv; subst hv
          have := (hH2 o (by simp [srtI_len]; exact ho)).1
          have e : zL (srtI l) o = (srtI l).toArray[o]! := by unfold zL; simp [srtI_len, ho, List.getD_eq_getElem?_getD]
          rw [e]; exact this
        · rw [tabF_out ho] at hv; cases hv
      · by_cases ho : o < l.length
        · exact (hH2 o (by simp [srtI_len]; exact ho)).2
        · rw [tabF_out ho] at hv; cases hv
    · simp [listMem] at hpq
  · rcases p with _ | p
    · rcases p' with _ | p'
      · exact absurd rfl hpp
      · simp [listMem] at hd
    · simp [listMem] at hc
  · rw [size_grow, size_putRow]; exact Nat.le_add_right _ _
  · have hne : k ≠ b := fun e => hn ⟨0, _, rfl, rfl, e.symm⟩
    rw [heap_grow_old _ _ (by rw [size_putRow]; exact hk), heap_putRow _ _ _ _ _ hne]
    rfl
  · obtain ⟨p, q, hpq, ho, rfl⟩ := hj
    rcases p with _ | p
    · injection hpq with hpq; subst hpq; exact .inl ⟨0, _, rfl, rfl, rfl⟩
    · simp [listMem] at hpq
  · rcases p with _ | p
    · injection hpq with hpq; subst hpq; cases ho
    · simp [listMem] at hpq
end Go.Eng
end
