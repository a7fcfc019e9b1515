/-
  Many in one: Maps2.
-/
import Derived.Test.YtnailbicmhkmbaaZPoolPlays10
import Derived.ChangeSame
import Derived.Maps.RangeRun
set_option linter.unusedVariables false
set_option linter.unusedSimpArgs false
set_option maxRecDepth 100000
set_option maxHeartbeats 1000000
section
namespace Go.Eng
open Go.WideShapes Go.ChangeShapes Go.ChangeAt
section
variable {α β : Type} {P : Program} {mt kt et : TypeId} {kv : α → Value} {ev : β → Value} {z : β} {eqb : α → α → Bool}
theorem findNow_eq {kd : TypeDesc} (hs : ∀ k h, Instr.sameNow kd (kv k) (kv h) = some (eqb k h)) (k : α) : ∀ (l : List (α × β)) (n i : Nat), Instr.findNow kd (kv k) (entsL kv ev l n) i = some ((findI eqb k l i).map fun p => (p.1, ev p.2))
  | [], _, _ => rfl
  | (h, x) :: r, n, i => by
    simp only [entsL, Instr.findNow, hs, findI]
    cases e : eqb k h with
    | true => simp
    | false => simpa using findNow_eq hs k r (n + 1) (i + 1)
theorem mapT_now {kd : TypeDesc} (hm : P.underlying mt = some (.map kt et)) (hk : P.underlying kt = some kd) (hs : ∀ k h, Instr.sameNow kd (kv k) (kv h) = some (eqb k h))
    (chk : ∀ em k w, (Instr.checkKey em 10000 kt (kv k)).run P w = .ok () w) (eqr : ∀ k h w, (Op.equal kt (kv k) (kv h)).run P w = .ok (eqb k h) w) (eqv : ∀ k h, eqb k h = true → Instr.sameBits 10000 (kv h) (kv k) = true) (zer : ∀ w, (zeroValue et).run P w = .ok (ev z) w) :
    MapT P mt kt et kv ev z eqb := ⟨hm, chk, fun k l n w => MapKept.run_findKey hk (findNow_eq hs k l n 0), eqr, eqv, zer⟩
end
section
variable {P : Program} {mt kt et : TypeId} {β : Type} {ev : β → Value} {z : β}
end
end Go.Eng
end
