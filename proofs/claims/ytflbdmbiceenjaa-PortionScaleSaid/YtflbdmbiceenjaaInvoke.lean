/-
  Calls through interfaces: a method whose receiver is looked up behind a pointer.
-/
import Derived.Test.YtflbdmbiceenjaaFams
namespace Go.Eng
def invSem (recv : Value) (name : String) (args : Array Value) : Sem Next := do
  let d ← (pure { target := .fn (.method name) #[], args := #[recv] ++ args } : Sem Deferred)
  invoke d.target d.args
/-- The function of a value's method, told of a pointer. -/
def derefM (P : Program) (t : TypeId) (name : String) (f : FuncId) (e : TypeId) : Bool := match P.info? t with
  | some i => match i.methods.find? (·.name == name) with
    | some m => match m.func with
      | some (g, false) => m.path.isEmpty && Nat.beq g f && Nat.ble 1 (P.types.size + Made.depth) && (match P.underlying t with
        | some (.pointer e') => Nat.beq e' e
        | _ => false) && (match aggB P e with
        | some false => true
        | _ => false) && (match P.funcs[f]? with
        | some fn => !(fn.name == "runtime.NumGoroutine") && !fn.body.isNone
        | none => false)
      | _ => false
    | none => false
  | none => false
theorem run_invoke_deref {P : Program} {t : TypeId} {name : String} {f : FuncId} {e : TypeId} (h : derefM P t name f e = true) {w : World} {r : Nat} {sv : Value} (hc : w.cell? ⟨r, 0, none⟩ = some sv) (args : Array Value) :
    (invSem (.iface t (.pointer (some ⟨r, 0, none⟩))) name args).run P w = .ok (.enter f (#[sv] ++ args)) w := by
  unfold derefM at h
  split at h
  · rename_i i hi
    split at h
    · rename_i m hm
      split at h
      · rename_i g hf
        simp only [Bool.and_eq_true] at h
        obtain ⟨⟨⟨⟨⟨hp, hg⟩, hk⟩, hu⟩, ha⟩, hfn⟩ := h
        have hg := Nat.eq_of_beq_eq_true hg
        subst hg
        obtain ⟨k, hk⟩ : ∃ k, P.types.size + Made.depth = k + 1 := ⟨P.types.size + Made.depth - 1, by have := Nat.le_of_ble_eq_true hk; omega⟩
        split at hu
        · rename_i e' hu'
          have he := Nat.eq_of_beq_eq_true hu
          subst he
          split at ha
          · rename_i hag
            split at hfn
            · rename_i fn hfn'
              simp only [Bool.and_eq_true, Bool.not_eq_true'] at hfn
              have hpath : m.path = #[] := by simpa using hp
              have hload := run_loadAt_one (P := P) (t := e') (w := w) (b := r) (o := 0) (v := sv) hag hc
              have hload' : (loadVar e' ⟨r, 0, none⟩).run P w = .ok sv w := by simpa [Instr.loadAt, Instr.sureAddr] using hload
              have hnil : ∀ (a : Array TypeId) (y : TypeId) (s m : String), Builtin.ssaWrapNilChk_ a y #[.pointer (some ⟨r, 0, none⟩), strVal s, strVal m] = pure (.pointer (some ⟨r, 0, none⟩)) := fun _ _ _ _ => rfl
              have hmeth : (method (k + 1) t (.pointer (some ⟨r, 0, none⟩)) name).run P w = .ok (g, sv) w := by
                simp [method, typeInfo, hi, hm, hpath, follow, hf, receiverAt, run_underlying hu', Place.get, hnil, asAddr, hload']
              have hcall : (callFunc g (#[sv] ++ args)).run P w = .ok (.enter g (#[sv] ++ args)) w := by
                have h1 : (fn.name == "runtime.NumGoroutine") = false := hfn.1
                have h2 : fn.body.isNone = false := hfn.2
                unfold callFunc
                simp only [Sem.run_bind, run_program, Result.andThen_ok, hfn', h1, h2, Bool.false_eq_true, if_false, Sem.run_pure]
              have hext : ((#[Value.iface t (.pointer (some ⟨r, 0, none⟩))] ++ args).extract 1 (1 + args.size)) = args := by
                apply Array.ext'
                simp
              have hm2 : (callMethod (.iface t (.pointer (some ⟨r, 0, none⟩))) name args).run P w = .ok (.enter g (#[sv] ++ args)) w := by
                simp only [callMethod, Sem.run_bind, run_program, Result.andThen_ok, hk, hmeth, hcall]
              show (invoke (.fn (.method name) #[]) (#[Value.iface t (.pointer (some ⟨r, 0, none⟩))] ++ args)).run P w = _
              have h0 : (#[Value.iface t (.pointer (some ⟨r, 0, none⟩))] ++ args)[0]? = some (Value.iface t (.pointer (some ⟨r, 0, none⟩))) := by
                rw [Array.getElem?_append_left (by simp)]; rfl
              have hsz : (#[Value.iface t (.pointer (some ⟨r, 0, none⟩))] ++ args).size = 1 + args.size := by simp
              simp only [invoke, h0, hsz, hext, hm2]
            · cases hfn
          · cases ha
        · cases hu
      · cases h
    · cases h
  · cases h
theorem mruns_deref {F : Blk → Prop} {P : Program} {t : TypeId} {name : String} {f : FuncId} {e : TypeId} (h : derefM P t name f e = true) {rb : Blk} {sv : Value} {args : Array Value} {bs : List Blk} {k : Nat} {v : List Nat → Value} {out : List Nat → List (Option Blk)}
    (hrb : rb ∈ bs) (hb : rb.base = 0) (hs : rb.cont.get 0 = some sv) (hR : RunsF F P f (sv :: args.toList) bs k v out) : MRuns F P (invSem (.iface t (.pointer (some ⟨rb.name, 0, none⟩))) name args) bs k v out := fun w hw ha hF => by
  have hc := (hw rb hrb).cell 0 sv hs
  rw [hb] at hc
  refine ⟨f, #[sv] ++ args, run_invoke_deref h hc args, ?_⟩
  have h2 := hR w hw ha hF
  have e : (sv :: args.toList).toArray = #[sv] ++ args := by apply Array.ext'; simp
  rw [e] at h2; exact h2
end Go.Eng
