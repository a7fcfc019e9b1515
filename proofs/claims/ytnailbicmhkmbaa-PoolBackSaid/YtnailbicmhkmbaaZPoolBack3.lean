/-
  Many in one: EngL, Nat4, EngM, LimbDefs, LimbMath.
-/
import Derived.Test.YtnailbicmhkmbaaZPoolBack2
import Derived.KernelRfl
set_option linter.unusedVariables false
set_option linter.unusedSimpArgs false
set_option maxRecDepth 100000
set_option maxHeartbeats 1000000
section
namespace Go.Eng
def fin0 (P : Program) (fn : Func) (hs : List (Nat × Nat)) (v : Value) : Exit → St → Prop := fun e s => match e with
  | .ret | .normal => match resVal P s fn.results.toList hs with
    | some (vc, vs) => vc ∧ oneOf vs = v
    | none => False
  | _ => False
theorem fin_of_fin0 {P : Program} {fn : Func} {hs : List (Nat × Nat)} {v : Value} {e : Exit} {s : St} (h : fin0 P fn hs v e s) : fin P fn hs [] 0 (fun _ => v) (fun _ => []) 0 e s := by
  have key : (match resVal P s fn.results.toList hs with
    | some (vc, vs) => vc ∧ oneOf vs = v
    | none => False) → (match resVal P s fn.results.toList hs with
    | some (vc, vs) => vc ∧ ∃ ns : List Nat, ns.length = 0 ∧ oneOf vs = v ∧ outOf s (List.range 0 ++ []) = []
    | none => False) := fun h => by
    split
    · rename_i vc vs hr
      rw [hr] at h
      exact ⟨h.1, [], rfl, h.2, rfl⟩
    · rename_i hr; rw [hr] at h; exact h
  cases e with
  | normal => exact key h
  | ret => exact key h
  | _ => exact h.elim
def Pure (P : Program) (f : FuncId) (args : List Value) (v : Value) : Prop := Runs P f args [] 0 (fun _ => v) (fun _ => [])
theorem evF_mono {F : Blk → Prop} {P : Program} {nt : Nat} : ∀ (n : Nat) (lp : Bool) (c : Code) (s : St) (h : H) (K K' : Exit → St → H → Prop), (∀ e s h, K e s h → K' e s h) → evF F P nt n lp c s h K → evF F P nt n lp c s h K'
  | 0, _, _, _, _, _, _, _, h => h
  | n + 1, lp, c, s, h, K, K', hK, hev => by
    by_cases hkeep : ∃ ts ps nx r, h = .keep ts ps nx r
    · obtain ⟨ts, ps, nx, r, rfl⟩ := hkeep
      exact evF_mono n lp c _ r K K' hK hev
    · by_cases htold : ∃ s' r, h = .told s' r
      · obtain ⟨s', r, rfl⟩ := htold
        simp only [evF] at hev ⊢
        exact ⟨hev.1, evF_mono n lp c s' r K K' hK hev.2⟩
      by_cases hopen : ∃ b r, h = .openb b r
      · obtain ⟨b, r, rfl⟩ := hopen
        simp only [evF] at hev ⊢
        exact ⟨hev.1, evF_mono n lp c _ r _ _ (fun e s h he => hK _ _ _ he) hev.2⟩
      by_cases hopr : ∃ b r, h = .openr b r ∧ isReg c = true
      · obtain ⟨b, r, rfl, hreg⟩ := hopr
        simp only [evF, hreg] at hev ⊢
        exact ⟨hev.1, evF_mono n lp c _ r _ _ (fun e s h he => hK _ _ _ he) hev.2⟩
      by_cases hboth : ∃ b h1 h2, h = .both b h1 h2
      · obtain ⟨b, h1, h2, rfl⟩ := hboth
        simp only [evF] at hev ⊢
        exact ⟨fun hb => evF_mono n lp c s h1 K K' hK (hev.1 hb), fun hb => evF_mono n lp c s h2 K K' hK (hev.2 hb)⟩
      by_cases hren : ∃ p q r, h = .ren p q r
      · obtain ⟨p, q, r, rfl⟩ := hren
        simp only [evF] at hev ⊢
        split
        · rename_i b hb
          rw [hb] at hev
          simp only at hev
          split
          · rename_i ho
            rw [ho] at hev
            simp only at hev
            split
            · rename_i hq
              rw [hq] at hev
              exact evF_mono n lp c _ r K K' hK hev
            · rename_i hq
              rw [hq] at hev; exact hev
          · rename_i ho
            rw [ho] at hev; exact hev
        · rename_i hb
          rw [hb] at hev; exact hev
      by_cases hrenO : ∃ p q r, h = .renO p q r
      · obtain ⟨p, q, r, rfl⟩ := hrenO
        simp only [evF] at hev ⊢
        exact ⟨hev.1, evF_mono n lp c _ r K K' hK hev.2⟩
      by_cases hpack : ∃ q p m g r, h = .pack q p m g r
      · obtain ⟨q, p, m, g, r, rfl⟩ := hpack
        simp only [evF] at hev ⊢
        split
        · rename_i b hb
          rw [hb] at hev
          simp only at hev
          split
          · rename_i ho
            rw [ho] at hev
            exact ⟨hev.1, evF_mono n lp c _ r K K' hK hev.2⟩
          · rename_i ho
            rw [ho] at hev; exact hev
        · rename_i hb
          rw [hb] at hev; exact hev
      by_cases hcast : ∃ p c' r, h = .cast p c' r
      · obtain ⟨p, c', r, rfl⟩ := hcast
        simp only [evF] at hev ⊢
        split
        · rename_i b hb
          rw [hb] at hev
          simp only at hev
          split
          · rename_i ho
            rw [ho] at hev
            simp only at hev
            split
            · rename_i hnm; rw [hnm] at hev; exact hev
            · rename_i hnm; rw [hnm] at hev
              exact ⟨hev.1, evF_mono n lp c _ r K K' hK hev.2⟩
          · rename_i ho
            rw [ho] at hev; exact hev
        · rename_i hb
          rw [hb] at hev; exact hev
      by_cases hcut : ∃ (α : Type) (ts ps : List Nat) (nx : Nat) (R : α → Prop) (S : α → St) (h1 : H) (r : α → H), h = .cut ts ps nx R S h1 r
      · obtain ⟨α, ts, ps, nx, R, S, h1, r, rfl⟩ := hcut
        simp only [evF] at hev ⊢
        cases lp with
        | true => exact hev.elim
        | false =>
          refine ⟨evF_mono n false c s h1 _ _ (fun e s h he => ?_) hev.1, fun x hx => hK _ _ _ (hev.2 x hx)⟩
          cases e with
          | normal => exact he
          | _ => exact hK _ _ _ he
      cases lp with
      | true =>
        cases h with
        | cut ts ps nx R S h1 r => exact absurd ⟨_, ts, ps, nx, R, S, h1, r, rfl⟩ hcut
        | keep ts ps nx r => exact absurd ⟨ts, ps, nx, r, rfl⟩ hkeep
        | cast p c' r => exact absurd ⟨p, c', r, rfl⟩ hcast
        | told s' r => exact absurd ⟨s', r, rfl⟩ htold
        | both b h1 h2 => exact absurd ⟨b, h1, h2, rfl⟩ hboth
        | openb b r => exact absurd ⟨b, r, rfl⟩ hopen
        | ren p q r => exact absurd ⟨p, q, r, rfl⟩ hren
        | renO p q r => exact absurd ⟨p, q, r, rfl⟩ hrenO
        | pack q p m g r => exact absurd ⟨q, p, m, g, r, rfl⟩ hpack
        | openr b r =>
          cases hreg : isReg c with
          | true => exact absurd ⟨b, r, rfl, hreg⟩ hopr
          | false => simp only [evF, hreg] at hev
        | unroll r =>
          refine evF_mono n false c s r _ _ (fun e s h he => ?_) hev
          cases e with
          | normal => exact evF_mono n true c s h K K' hK he
          | _ => exact hK _ _ _ he
        | _ => exact hev
      | false =>
        have hnk : ∀ K, evF F P nt (n + 1) false c s h K = evStep F P nt (fun lp c s h K => evF F P nt n lp c s h K) c s h K := fun K => by
          cases h with
          | keep ts ps nx r => exact absurd ⟨ts, ps, nx, r, rfl⟩ hkeep
          | cast p c' r => exact absurd ⟨p, c', r, rfl⟩ hcast
          | told s' r => exact absurd ⟨s', r, rfl⟩ htold
          | both b h1 h2 => exact absurd ⟨b, h1, h2, rfl⟩ hboth
          | openr b r =>
            cases hreg : isReg c with
            | true => exact absurd ⟨b, r, rfl, hreg⟩ hopr
            | false => simp only [evF, hreg]
          | openb b r => exact absurd ⟨b, r, rfl⟩ hopen
          | ren p q r => exact absurd ⟨p, q, r, rfl⟩ hren
          | renO p q r => exact absurd ⟨p, q, r, rfl⟩ hrenO
          | pack q p m g r => exact absurd ⟨q, p, m, g, r, rfl⟩ hpack
          | cut ts ps nx R S h1 r => exact absurd ⟨_, ts, ps, nx, R, S, h1, r, rfl⟩ hcut
          | _ => rfl
        rw [hnk] at hev ⊢
        have ih := fun lp c s h K K' hK => evF_mono (F := F) (P := P) (nt := nt) n lp c s h K K' hK
        cases c with
        | skip => exact hK _ _ _ hev
        | label l => exact hK _ _ _ hev
        | ret => exact hK _ _ _ hev
        | exit id => exact hK _ _ _ hev
        | seq x y =>
          refine ih false x s h _ _ (fun e s h he => ?_) hev
          cases e with
          | normal => exact ih false y s h K K' hK he
          | _ => exact hK _ _ _ he
        | block id b =>
          refine ih false b s h _ _ (fun e s h he => ?_) hev
          cases e with
          | exit id' =>
            simp only at he ⊢
            split
            · rename_i hb; rw [hb] at he; exact hK _ _ _ he
            · rename_i hb; rw [hb] at he; exact hK _ _ _ he
          | _ => exact hK _ _ _ he
        | scope b =>
          refine ih false b s h _ _ (fun e s h he => ?_) hev
          cases e with
          | goto l => exact he
          | _ => exact hK _ _ _ he
        | cond o x y =>
          simp only [evStep] at hev ⊢
          split
          · rename_i ee hee
            rw [hee] at hev
            simp only at hev
            split
            · rename_i b hb
              rw [hb] at hev
              simp only at hev
              cases h with
              | br h1 h2 => exact ⟨hev.1, fun ht => ih false x s h1 K K' hK (hev.2.1 ht), fun hf => ih false y s h2 K K' hK (hev.2.2 hf)⟩
              | yes r => exact ⟨hev.1, hev.2.1, ih false x s r K K' hK hev.2.2⟩
              | no r => exact ⟨hev.1, hev.2.1, ih false y s r K K' hK hev.2.2⟩
              | _ => exact hev
            · rename_i hne
              cases hv : ee.val with
              | bool b => exact absurd hv (hne b)
              | _ => rw [hv] at hev; exact hev
          · rename_i hee; rw [hee] at hev; exact hev
        | loop b =>
          cases h with
          | sum R E S r => exact ⟨hev.1, fun x hx => hK _ _ _ (hev.2 x hx)⟩
          | inv ts ps nx R S μ x0 r =>
            refine ⟨hev.1, hev.2.1, fun x hx => ih false b (S x) (r x) _ _ (fun e s h he => ?_) (hev.2.2 x hx)⟩
            cases e with
            | normal => exact he
            | _ => exact hK _ _ _ he
          | peel ts ps nx R S μ B f r =>
            refine ⟨ih false b s f _ _ (fun e s h he => ?_) hev.1, fun x hx => ih false b (S x) (r x) _ _ (fun e s h he => ?_) (hev.2 x hx)⟩
            · cases e with
              | normal => exact he
              | _ => exact hK _ _ _ he
            · cases e with
              | normal => exact he
              | _ => exact hK _ _ _ he
          | yes f0 =>
            refine ih false b s f0 _ _ (fun e s h he => ?_) hev
            cases e with
            | normal =>
              cases h with
              | peel ts ps nx R S μ B f r =>
                refine ⟨ih false b s f _ _ (fun e s h he => ?_) he.1, fun x hx => ih false b (S x) (r x) _ _ (fun e s h he => ?_) (he.2 x hx)⟩
                · cases e with
                  | normal => exact he
                  | _ => exact hK _ _ _ he
                · cases e with
                  | normal => exact he
                  | _ => exact hK _ _ _ he
              | _ => exact he.elim
            | _ => exact hK _ _ _ he
          | _ => exact ih true b s _ K K' hK hev
        | region id ops draw =>
          have hns : ∀ (m : Nat) (F G : List Nat → Prop), (∀ l, F l → G l) → allNs m F → allNs m G := by
            intro m
            induction m with
            | zero => intro F G hFG h; exact hFG _ h
            | succ m ihm => intro F G hFG h x; exact ihm _ _ (fun l hl => hFG _ hl) (h x)
          cases h with
          | reg ks r =>
            simp only [evStep] at hev ⊢
            split
            · rename_i hok
              rw [hok] at hev
              refine hns _ _ _ (fun ns h => ?_) hev
              split
              · rename_i vc s' he
                rw [he] at h
                exact ⟨h.1, hK _ _ _ h.2⟩
              · rename_i he
                rw [he] at h; exact h
            · rename_i hok
              rw [hok] at hev; exact hev
          | regn ks r =>
            simp only [evStep] at hev ⊢
            split
            · rename_i hok
              rw [hok] at hev
              refine hns _ _ _ (fun ns h => ?_) hev
              split
              · rename_i vc s' he
                rw [he] at h
                exact ⟨h.1, hK _ _ _ h.2⟩
              · rename_i he
                rw [he] at h; exact h
            · rename_i hok
              rw [hok] at hev; exact hev
          | byF R E S r =>
            simp only [evStep] at hev ⊢
            split
            · rename_i hok
              rw [hok] at hev
              exact ⟨hev.1, fun x hx => hK _ _ _ (hev.2 x hx)⟩
            · rename_i hok
              rw [hok] at hev; exact hev
          | _ => exact hev
        | rangeFunc g ps asg bd =>
          cases h with
          | byF R E S r => exact ⟨hev.1, fun x hx => hK _ _ _ (hev.2 x hx)⟩
          | _ => exact hev
        | _ => exact hev
theorem ev_mono {P : Program} {nt : Nat} (n : Nat) (lp : Bool) (c : Code) (s : St) (h : H) (K K' : Exit → St → H → Prop) (hK : ∀ e s h, K e s h → K' e s h) (hev : ev P nt n lp c s h K) : ev P nt n lp c s h K' := evF_mono n lp c s h K K' hK hev
theorem pure_of_ev {P : Program} {f : FuncId} {fn : Func} {c : Code} {args : List Value} {v : Value}
    (hmix : P.follows .mixedOrders = true) (hf : P.funcs[f]? = some fn) (hb : fn.body = some c) (hn : Nat.ble args.length fn.ntmps = true) (n : Nat) (h : H) (hs : List (Nat × Nat))
    (hev : ev P fn.ntmps n false c (start args []) h fun e s _ => fin0 P fn hs v e s) : Pure P f args v :=
  runs_of_ev hmix hf hb hn n h hs [] rfl (ev_mono n false c _ h _ _ (fun _ _ _ he => fin_of_fin0 he) hev)
theorem t2 : True ∧ True := ⟨trivial, trivial⟩
theorem sk {q : Prop} (h : q) : (True ∧ True) ∧ q := ⟨t2, h⟩
theorem s1 {p q : Prop} (hp : p) (h : q) : (True ∧ p) ∧ q := ⟨⟨trivial, hp⟩, h⟩
theorem ad (n o : Nat) : True ∧ (Value.pointer (some ⟨n, o, none⟩) = Value.pointer (some ⟨n, o, none⟩)) := ⟨trivial, rfl⟩
end Go.Eng
end
section
namespace Go.Eng
structure N4 where
  a : UInt64
  b : UInt64
  c : UInt64
  d : UInt64
structure N8 where
  lo : N4
  hi : N4
def nat4 (x : N4) : Value := .agg #[u64 x.a, u64 x.b, u64 x.c, u64 x.d]
def N4.val (x : N4) : Nat := x.a.toNat + 2 ^ 64 * x.b.toNat + 2 ^ 128 * x.c.toNat + 2 ^ 192 * x.d.toNat
end Go.Eng
end
section
namespace Go.Eng
theorem pureRun_bind' {α β : Type} (P : Program) (s : Go.Sem α) (f : α → Go.Sem β) : pureRun P (s >>= f) = match pureRun P s with
    | some a => pureRun P (f a)
    | none => none := pureRun_bind P s f
theorem pureRun_underlying {P : Program} {t : TypeId} {d : TypeDesc} (h : P.underlying t = some d) : pureRun P (underlying t) = some d := by
  unfold underlying
  rw [pureRun_bind']
  show pureRun P (match P.underlying t with | some d => pure d | none => stuck "no such type") = _
  rw [h]; rfl
theorem pureRun_typeInfo {P : Program} {t : TypeId} {i : TypeInfo} (h : P.info? t = some i) : pureRun P (typeInfo t) = some i := by
  unfold typeInfo
  rw [pureRun_bind']
  show pureRun P (match P.info? t with | some i => pure i | none => stuck "no such type") = _
  rw [h]; rfl
theorem pureRun_sizeOf {P : Program} {t : TypeId} {n : Nat} (h : sizeB P t = some n) : pureRun P (sizeOf t) = some n := by
  simp only [sizeB, Option.map_eq_some_iff] at h
  obtain ⟨i, hi, rfl⟩ := h
  unfold sizeOf
  rw [pureRun_bind', pureRun_typeInfo hi]; rfl
theorem wrap_i64 (n : Int) (h : -9223372036854775808 ≤ n ∧ n ≤ 9223372036854775807) : IntKind.i64.wrap n = n := by
  have e : IntKind.i64.wrap n = if n % 18446744073709551616 ≥ 9223372036854775808 then n % 18446744073709551616 - 18446744073709551616 else n % 18446744073709551616 := by
    simp [IntKind.wrap, IntKind.bits, IntKind.signed]
  rw [e]; split <;> omega
section ints
variable {P : Program} {t t' : TypeId} {x y : Operand} (a b : Int)
end ints
theorem pickm {a b : Bool} : a = true → b = true → selB a b false = true := by cases a <;> cases b <;> simp [selB]
theorem pickl {a b : Bool} (h : selB a b false = true) : a = true := by cases a <;> first | rfl | cases h
theorem pickr {a b : Bool} (h : selB a b false = true) : b = true := by cases a <;> first | exact h | cases h
theorem sband_l {a b : Bool} (h : selB a b false = true) : a = true := by cases a <;> first | rfl | cases h
theorem sband_r {a b : Bool} (h : selB a b false = true) : b = true := by cases a <;> first | exact h | cases h
theorem sband_f {a b : Bool} (h : selB a b false = false) : a = false ∨ b = false := by cases a <;> first | exact .inl rfl | exact .inr h
theorem sbor_t {a b : Bool} (h : selB a true b = true) : a = true ∨ b = true := by cases a <;> first | exact .inl rfl | exact .inr h
theorem sbor_l {a b : Bool} (h : selB a true b = false) : a = false := by cases a <;> first | rfl | cases h
theorem sbor_r {a b : Bool} (h : selB a true b = false) : b = false := by cases a <;> first | exact h | cases h
theorem sameB_t {x : Bool} (h : sameB x true = true) : x = true := h
theorem sameB_f {x : Bool} (h : sameB x false = true) : x = false := by cases x <;> first | rfl | cases h
theorem sameB_mk {x : Bool} (h : x = true) : sameB x true = true := h
theorem sameB_mkf {x : Bool} (h : x = false) : sameB x false = true := by rw [h]; rfl
end Go.Eng
end
section
namespace Go.Eng
end Go.Eng
namespace Go.Eng
end Go.Eng
namespace Go.Eng
end Go.Eng
end
section
namespace Go.Eng
theorem N4.val_lt (x : N4) : x.val < 2 ^ 256 := by
  have := x.a.toNat_lt; have := x.b.toNat_lt; have := x.c.toNat_lt; have := x.d.toNat_lt
  unfold N4.val; omega
theorem N4.ext_val {x y : N4} (h : x.val = y.val) : x = y := by
  have := x.a.toNat_lt; have := x.b.toNat_lt; have := x.c.toNat_lt; have := x.d.toNat_lt
  have := y.a.toNat_lt; have := y.b.toNat_lt; have := y.c.toNat_lt; have := y.d.toNat_lt
  unfold N4.val at h
  have h1 : x.a.toNat = y.a.toNat := by omega
  have h2 : x.b.toNat = y.b.toNat := by omega
  have h3 : x.c.toNat = y.c.toNat := by omega
  have h4 : x.d.toNat = y.d.toNat := by omega
  cases x; cases y
  simp only at h1 h2 h3 h4
  rw [UInt64.toNat_inj.1 h1, UInt64.toNat_inj.1 h2, UInt64.toNat_inj.1 h3, UInt64.toNat_inj.1 h4]
theorem toNat_inj {a b : Bool} (h : a.toNat = b.toNat) : a = b := by cases a <;> cases b <;> simp_all
theorem N8.ext_val {x y : N8} (h : x.lo.val + 2 ^ 256 * x.hi.val = y.lo.val + 2 ^ 256 * y.hi.val) : x = y := by
  have h1 := x.lo.val_lt
  have h2 := y.lo.val_lt
  have e1 : x.lo = y.lo := N4.ext_val (by omega)
  have e2 : x.hi = y.hi := N4.ext_val (by omega)
  cases x; cases y
  simp only at e1 e2
  rw [e1, e2]
end Go.Eng
end
