/-
  Layer 9: what was left, and whose: rows of these, and their order.
-/
import Derived.Test.YtflbdmbiceenjaaHeapE
import Derived.Test.YtflbdmbiceenjaaByt
import Derived.Test.YtflbdmbiceenjaaPurFair
namespace Go.Eng
set_option linter.unusedVariables false
set_option maxRecDepth 100000
theorem mruns_get {F : Blk → Prop} {P : Program} {t : TypeId} {name : String} {f : FuncId} {e : TypeId} (h : derefM P t name f e = true) (rb : Blk) {sv : Value} {args : Array Value} {bs : List Blk} {k : Nat} {v : List Nat → Value} {o : List Nat → List (Option Blk)}
    (hb : rb.base = 0) (ho : rb.own = false) (hs : rb.cont.get 0 = some sv) (hl : ∀ ns, (o ns).length = bs.length) (hR : Runs P f (sv :: args.toList) bs k v o) : MRuns F P (invSem (.iface t (.pointer (some ⟨rb.name, 0, none⟩))) name args) (bs ++ [rb]) k v (fun ns => o ns ++ [none]) := by
  refine mruns_deref h (rb := rb) (by simp) hb hs ?_
  have h0 : RunsF F P f (sv :: args.toList) bs k v (fun ns => o ns ++ []) := by simpa using hR.toF (F := F)
  have := RunsF.lendG (cs := [rb]) (F' := F) h0 hl (fun w hF _ => hF) (fun x hx => .inl ⟨x, hx, rfl⟩) (fun b hb => by simp at hb; subst hb; exact ho)
  exact this
structure LkR where
  p : N4
  w : Nat
def lkZ : LkR := ⟨⟨0, 0, 0, 0⟩, 0⟩
def lkC (r : LkR) : List Value := [u64 r.p.a, u64 r.p.b, u64 r.p.c, u64 r.p.d, nat r.w]
theorem lkC_ok (r : LkR) : (lkC r).length = 5 ∧ (lkC r).all Value.oneCell' = true := ⟨rfl, rfl⟩
abbrev tabL (n : Nat) (f : Nat → LkR) : Cont := .tab n 5 fun k => lkC (f k)
def ltL (a b : LkR) : Bool := decide (b.p.val < a.p.val ∨ (b.p.val = a.p.val ∧ a.w < b.w))
theorem ltL_iff {a b : LkR} : ltL a b = true ↔ b.p.val < a.p.val ∨ (b.p.val = a.p.val ∧ a.w < b.w) := by unfold ltL; simp
theorem ltL_not {a b : LkR} : ltL a b = false ↔ ¬ (b.p.val < a.p.val ∨ (b.p.val = a.p.val ∧ a.w < b.w)) := by unfold ltL; simp
theorem ltL_swo : SWO ltL := ⟨fun a => by rw [ltL_not]; omega, fun a b c h k => by rw [ltL_iff] at *; omega, fun a b c h k => by rw [ltL_not] at *; omega⟩
theorem ltL_eq (a b : LkR) : (selB (decide ((cmp4 a.p b.p : Int) > 0)) true (selB ((cmp4 a.p b.p : Int) == 0) (decide (a.w < b.w)) false)) = ltL a b := by
  rw [cmp4_eq]; unfold ord ltL
  by_cases h1 : a.p.val < b.p.val
  · rw [if_pos h1]
    have : ¬ (b.p.val < a.p.val ∨ (b.p.val = a.p.val ∧ a.w < b.w)) := by omega
    simp [selB, this]
  · rw [if_neg h1]
    by_cases h2 : b.p.val < a.p.val
    · rw [if_pos h2]; simp [selB, h2]
    · rw [if_neg h2]
      have h3 : b.p.val = a.p.val := by omega
      simp [selB, h3]
end Go.Eng
