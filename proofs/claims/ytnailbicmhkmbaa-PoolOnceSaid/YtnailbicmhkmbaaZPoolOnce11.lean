/-
  Many in one: Str, CodW, CodDw, Str2.
-/
import Derived.Test.YtnailbicmhkmbaaZPoolOnce10
import Derived.Deep.AppendSrc
import Derived.Lib.ConvBytes
set_option linter.unusedVariables false
set_option linter.unusedSimpArgs false
set_option maxRecDepth 100000
set_option maxHeartbeats 1000000
section
namespace Go.Eng
def convSem (src dst : TypeId) (x : Value) : Sem Next := do pure (.value (← convert src dst x))
section
variable {P : Program} {t tx ty e : TypeId} {i : TypeInfo} {z : Value}
end
end Go.Eng
end
section
namespace Go.Eng
end Go.Eng
end
section
namespace Go.Proofs.Ytnailbicmhkmbaa
open Go Go.Eng
theorem wout_G {F : Blk → Prop} (w : Nat) (W : Grw UInt8) (hW : W.ok) (h0 : W.z = false → 0 < W.n) (hl : W.n ≤ 100000) : RunsO F Try.prog 32 [ptr w 0] [some ⟨w, false, 0, .lit [gsV W]⟩, roO (gsE u8C [u8 0] 1 W)] 2 (fun ns => gsV (⟨W.z, ns.getD 0 0, W.n, ns.getD 1 0, W.f⟩ : Grw UInt8)) (fun ns => [none, none, gsE u8C [u8 0] 1 (⟨W.z, ns.getD 0 0, W.n, ns.getD 1 0, W.f⟩ : Grw UInt8)]) := by
  cases hc : W.z with
  | false =>
    have h1 := (wout_own w W.nm W.n W.r W.f (h0 hc) hl).toF (F := F) |>.toO
    rw [gsV_own hc, show gsE u8C [u8 0] 1 W = some ⟨W.nm, true, 0, spr (W.n + W.r) W.n (fun k => u8 (W.f k)) (u8 0)⟩ from by rw [gsE_u8]; unfold grO; rw [hc]]
    simp only [gsE_own8]
    exact h1.as (.refl _) id fun ns hns => ⟨hns, rfl, .dr _ (.dr _ (.refl _)), ⟨rfl, tV⟩⟩
  | true =>
    have hn := hW hc
    have h1 := (wout_nil w).toF (F := F) |>.toO
    rw [gsV_nil hc hW, gsE_nil hc, hn]
    exact h1.as (.cons _ (.zz _)) (fun _ => [0, 0]) fun ns hns => ⟨rfl, rfl, .dr _ (.dn (.dn (.zz _))), tV⟩
end Go.Proofs.Ytnailbicmhkmbaa
end
section
namespace Go.Eng
section
variable {P : Program} {t : TypeId}
end
end Go.Eng
end
