/-
  Many in one: EngRf.
-/
import Derived.Test.YtnailbicmhkmbaaZPoolBack14
import Derived.Below
import Derived.RangeFuncFrom
set_option linter.unusedVariables false
set_option linter.unusedSimpArgs false
set_option maxRecDepth 100000
set_option maxHeartbeats 1000000
section
namespace Go.Eng
variable {ds : Nat}
def Free (l : Nat) (m : Nat → Option Blk) : Prop := ∀ p b, m p = some b → ¬ b.has l
theorem Free.adv {l : Nat} {m m' : Nat → Option Blk} {w w' : World} (h : Free l m) (hl : l < w.heap.size) (ha : Adv m w m' w') : Free l m' := fun p b hb e => by
  cases ho : b.own with
  | true =>
    rcases ha.names l ⟨p, b, hb, ho, e⟩ with ⟨q, c, h1, _, h3⟩ | h1
    · exact h q c h1 h3
    · omega
  | false => exact h p b (ha.ro p b hb ho) e
theorem Free.owns {l : Nat} {m : Nat → Option Blk} (h : Free l m) : ¬ Owns m l := fun ⟨p, b, h1, _, h3⟩ => h p b h1 h3
theorem Sat.put {nt : Nat} {s : FSt} {a : Act} {w : World} (h : Sat ds nt s a w) {l : Nat} {L : Loop} {o : Obj} (hl : w.heap[l]? = some (.loop L)) (hf : Free l s.mem) : Sat ds nt s a (w.putObj l o) := by
  refine ⟨?_, h.size, h.env, fun p b hb => (h.mem p b hb).of_heap (by simp [World.putObj]) (fun k hk => World.putObj_heap_other fun e => hf p b hb (e ▸ hk)), h.apart⟩
  obtain ⟨h0, D, h1, h2, h3⟩ := h.defers
  refine ⟨by simpa [World.putObj] using h0, D, h1, h2, fun r hr => ?_⟩
  obtain ⟨k1, k2, k3⟩ := h3 r hr
  have hne : r ≠ l := fun e => by subst e; rw [hl] at k2; cases k2
  exact ⟨k1, (World.putObj_heap_other hne).trans k2, k3⟩
end Go.Eng
end
