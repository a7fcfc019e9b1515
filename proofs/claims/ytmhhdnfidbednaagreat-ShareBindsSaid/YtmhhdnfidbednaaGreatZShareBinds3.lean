/-
  Many in one: EngL, Nat4, EngM, LimbDefs, LimbMath.
-/
import Derived.Test.YtmhhdnfidbednaaGreatZShareBinds2
import Derived.KernelRfl
set_option linter.unusedVariables false
set_option linter.unusedSimpArgs false
set_option maxRecDepth 100000
set_option maxHeartbeats 1000000
section
namespace Go.Eng
def fin0 (P : Program) (fn : Func) (hs : List (Nat × Nat)) (v : Value) : Exit → St → Prop := fun e s => match e with
  | .ret | .normal => match resVal P s fn.results.toList hs with
    | some (vc, vs) => vc ∧ oneOf vs = v
    | none => False
  | _ => False
theorem fin_of_fin0 {P : Program} {fn : Func} {hs : List (Nat × Nat)} {v : Value} {e : Exit} {s : St} (h : fin0 P fn hs v e s) : fin P fn hs [] 0 (fun _ => v) (fun _ => []) 0 e s := by
  have key : (match resVal P s fn.results.toList hs with
    | some (vc, vs) => vc ∧ oneOf vs = v
    | none => False) → (match resVal P s fn.results.toList hs with
    | some (vc, vs) => vc ∧ ∃ ns : List Nat, ns.length = 0 ∧ oneOf vs = v ∧ outOf s (List.range 0 ++ []) = []
    | none => False) := fun h => by
    split
    · rename_i vc vs hr
      rw [hr] at h
      exact ⟨h.1, [], rfl, h.2, rfl⟩
    · rename_i hr; rw [hr] at h; exact h
  cases e with
  | normal => exact key h
  | ret => exact key h
  | _ => exact h.elim
def Pure (P : Program) (f : FuncId) (args : List Value) (v : Value) : Prop := Runs P f args [] 0 (fun _ => v) (fun _ => [])
theorem evF_mono {F : Blk → Prop} {P : Program} {nt : Nat} : ∀ (n : Nat) (lp : Bool) (c : Code) (s : St) (h : H) (K K' : Exit → St → H → Prop), (∀ e s h, K e s h → K' e s h) → evF F P nt n lp c s h K → evF F P nt n lp c s h K'
  | 0, _, _, _, _, _, _, _, h => h
  | n + 1, lp, c, s, h, K, K', hK, hev => by
    by_cases hkeep : ∃ ts ps nx r, h = .keep ts ps nx r
    · obtain ⟨ts, ps, nx, r, rfl⟩ := hkeep
      exact evF_mono n lp c _ r K K' hK hev
    · by_cases htold : ∃ s' r, h = .told s' r
      · obtain ⟨s', r, rfl⟩ := htold
        simp only [evF] at hev ⊢
        exact ⟨hev.1, evF_mono n lp c s' r K K' hK hev.2⟩
      by_cases hopen : ∃ b r, h = .openb b r
      · obtain ⟨b, r, rfl⟩ := hopen
        simp only [evF] at hev ⊢
        exact ⟨hev.1, evF_mono n lp c _ r _ _ (fun e s h he => hK _ _ _ he) hev.2⟩
      by_cases hopr : ∃ b r, h = .openr b r ∧ isReg c = true
      · obtain ⟨b, r, rfl, hreg⟩ := hopr
        simp only [evF, hreg] at hev ⊢
        exact ⟨hev.1, evF_mono n lp c _ r _ _ (fun e s h he => hK _ _ _ he) hev.2⟩
      by_cases hboth : ∃ b h1 h2, h = .both b h1 h2
      · obtain ⟨b, h1, h2, rfl⟩ := hboth
        simp only [evF] at hev ⊢
        exact ⟨fun hb => evF_mono n lp c s h1 K K' hK (hev.1 hb), fun hb => evF_mono n lp c s h2 K K' hK (hev.2 hb)⟩
      by_cases hren : ∃ p q r, h = .ren p q r
      · obtain ⟨p, q, r, rfl⟩ := hren
        simp only [evF] at hev ⊢
        split
        · rename_i b hb
          rw [hb] at hev
          simp only at hev
          split
          · rename_i ho
            rw [ho] at hev
            simp only at hev
            split
            · rename_i hq
              rw [hq] at hev
              exact evF_mono n lp c _ r K K' hK hev
            · rename_i hq
              rw [hq] at hev; exact hev
          · rename_i ho
            rw [ho] at hev; exact hev
        · rename_i hb
          rw [hb] at hev; exact hev
      by_cases hrenO : ∃ p q r, h = .renO p q r
      · obtain ⟨p, q, r, rfl⟩ := hrenO
        simp only [evF] at hev ⊢
        exact ⟨hev.1, evF_mono n lp c _ r K K' hK hev.2⟩
      by_cases hpack : ∃ q p m g r, h = .pack q p m g r
      · obtain ⟨q, p, m, g, r, rfl⟩ := hpack
        simp only [evF] at hev ⊢
        split
        · rename_i b hb
          rw [hb] at hev
          simp only at hev
          split
          · rename_i ho
            rw [ho] at hev
            exact ⟨hev.1, evF_mono n lp c _ r K K' hK hev.2⟩
          · rename_i ho
            rw [ho] at hev; exact hev
        · rename_i hb
          rw [hb] at hev; exact hev
      by_cases hcast : ∃ p c' r, h = .cast p c' r
      · obtain ⟨p, c', r, rfl⟩ := hcast
        simp only [evF] at hev ⊢
        split
        · rename_i b hb
          rw [hb] at hev
          simp only at hev
          split
          · rename_i ho
            rw [ho] at hev
            simp only at hev
            split
            · rename_i hnm; rw [hnm] at hev; exact hev
            · rename_i hnm; rw [hnm] at hev
              exact ⟨hev.1, evF_mono n lp c _ r K K' hK hev.2⟩
          · rename_i ho
            rw [ho] at hev; exact hev
        · rename_i hb
          rw [hb] at hev; exact hev
      by_cases hcut : ∃ (α : Type) (ts ps : List Nat) (nx : Nat) (R : α → Prop) (S : α → St) (h1 : H) (r : α → H), h = .cut ts ps nx R S h1 r
      · obtain ⟨α, ts, ps, nx, R, S, h1, r, rfl⟩ := hcut
        simp only [evF] at hev ⊢
        cases lp with
        | true => exact hev.elim
        | false =>
          refine ⟨evF_mono n false c s h1 _ _ (fun e s h he => ?_) hev.1, fun x hx => hK _ _ _ (hev.2 x hx)⟩
          cases e with
          | normal => exact he
          | _ => exact hK _ _ _ he
      cases lp with
      | true =>
        cases h with
        | cut ts ps nx R S h1 r => exact absurd ⟨_, ts, ps, nx, R, S, h1, r, rfl⟩ hcut
        | keep ts ps nx r => exact absurd ⟨ts, ps, nx, r, rfl⟩ hkeep
        | cast p c' r => exact absurd ⟨p, c', r, rfl⟩ hcast
        | told s' r => exact absurd ⟨s', r, rfl⟩ htold
        | both b h1 h2 => exact absurd ⟨b, h1, h2, rfl⟩ hboth
        | openb b r => exact absurd ⟨b, r, rfl⟩ hopen
        | ren p q r => exact absurd ⟨p, q, r, rfl⟩ hren
        | renO p q r => exact absurd ⟨p, q, r, rfl⟩ hrenO
        | pack q p m g r => exact absurd ⟨q, p, m, g, r, rfl⟩ hpack
        | openr b r =>
          cases hreg : isReg c with
          | true => exact absurd ⟨b, r, rfl, hreg⟩ hopr
          | false => simp only [evF, hreg] at hev
        | unroll r =>
          refine evF_mono n false c s r _ _ (fun e s h he => ?_) hev
          cases e with
          | normal => exact evF_mono n true c s h K K' hK he
          | _ => exact hK _ _ _ he
        | _ => exact hev
      | false =>
        have hnk : ∀ K, evF F P nt (n + 1) false c s h K = evStep F P nt (fun lp c s h K => evF F P nt n lp c s h K) c s h K := fun K => by
          cases h with
          | keep ts ps nx r => exact absurd ⟨ts, ps, nx, r, rfl⟩ hkeep
          | cast p c' r => exact absurd ⟨p, c', r, rfl⟩ hcast
          | told s' r => exact absurd ⟨s', r, rfl⟩ htold
          | both b h1 h2 => exact absurd ⟨b, h1, h2, rfl⟩ hboth
          | openr b r =>
            cases hreg : isReg c with
            | true => exact absurd ⟨b, r, rfl, hreg⟩ hopr
            | false => simp only [evF, hreg]
          | openb b r => exact absurd ⟨b, r, rfl⟩ hopen
          | ren p q r => exact absurd ⟨p, q, r, rfl⟩ hren
          | renO p q r => exact absurd ⟨p, q, r, rfl⟩ hrenO
          | pack q p m g r => exact absurd ⟨q, p, m, g, r, rfl⟩ hpack
          | cut ts ps nx R S h1 r => exact absurd ⟨_, ts, ps, nx, R, S, h1, r, rfl⟩ hcut
          | _ => rfl
        rw [hnk] at hev ⊢
        have ih := fun lp c s h K K' hK => evF_mono (F := F) (P := P) (nt := nt) n lp c s h K K' hK
        cases c with
        | skip => exact hK _ _ _ hev
        | label l => exact hK _ _ _ hev
        | ret => exact hK _ _ _ hev
        | exit id => exact hK _ _ _ hev
        | seq x y =>
          refine ih false x s h _ _ (fun e s h he => ?_) hev
          cases e with
          | normal => exact ih false y s h K K' hK he
          | _ => exact hK _ _ _ he
        | block id b =>
          refine ih false b s h _ _ (fun e s h he => ?_) hev
          cases e with
          | exit id' =>
            simp only at he ⊢
            split
            · rename_i hb; rw [hb] at he; exact hK _ _ _ he
            · rename_i hb; rw [hb] at he; exact hK _ _ _ he
          | _ => exact hK _ _ _ he
        | scope b =>
          refine ih false b s h _ _ (fun e s h he => ?_) hev
          cases e with
          | goto l => exact he
          | _ => exact hK _ _ _ he
        | cond o x y =>
          simp only [evStep] at hev ⊢
          split
          · rename_i ee hee
            rw [hee] at hev
            simp only at hev
            split
            · rename_i b hb
              rw [hb] at hev
              simp only at hev
              cases h with
              | br h1 h2 => exact ⟨hev.1, fun ht => ih false x s h1 K K' hK (hev.2.1 ht), fun hf => ih false y s h2 K K' hK (hev.2.2 hf)⟩
              | yes r => exact ⟨hev.1, hev.2.1, ih false x s r K K' hK hev.2.2⟩
              | no r => exact ⟨hev.1, hev.2.1, ih false y s r K K' hK hev.2.2⟩
              | _ => exact hev
            · rename_i hne
              cases hv : ee.val with
              | bool b => exact absurd hv (hne b)
              | _ => rw [hv] at hev; exact hev
          · rename_i hee; rw [hee] at hev; exact hev
        | loop b =>
          cases h with
          | sum R E S r => exact ⟨hev.1, fun x hx => hK _ _ _ (hev.2 x hx)⟩
          | inv ts ps nx R S μ x0 r =>
            refine ⟨hev.1, hev.2.1, fun x hx => ih false b (S x) (r x) _ _ (fun e s h he => ?_) (hev.2.2 x hx)⟩
            cases e with
            | normal => exact he
            | _ => exact hK _ _ _ he
          | peel ts ps nx R S μ B f r =>
            refine ⟨ih false b s f _ _ (fun e s h he => ?_) hev.1, fun x hx => ih false b (S x) (r x) _ _ (fun e s h he => ?_) (hev.2 x hx)⟩
            · cases e with
              | normal => exact he
              | _ => exact hK _ _ _ he
            · cases e with
              | normal => exact he
              | _ => exact hK _ _ _ he
          | yes f0 =>
            refine ih false b s f0 _ _ (fun e s h he => ?_) hev
            cases e with
            | normal =>
              cases h with
              | peel ts ps nx R S μ B f r =>
                refine ⟨ih false b s f _ _ (fun e s h he => ?_) he.1, fun x hx => ih false b (S x) (r x) _ _ (fun e s h he => ?_) (he.2 x hx)⟩
                · cases e with
                  | normal => exact he
                  | _ => exact hK _ _ _ he
                · cases e with
                  | normal => exact he
                  | _ => exact hK _ _ _ he
              | _ => exact he.elim
            | _ => exact hK _ _ _ he
          | _ => exact ih true b s _ K K' hK hev
        | region id ops draw =>
          have hns : ∀ (m : Nat) (F G : List Nat → Prop), (∀ l, F l → G l) → allNs m F → allNs m G := by
            intro m
            induction m with
            | zero => intro F G hFG h; exact hFG _ h
            | succ m ihm => intro F G hFG h x; exact ihm _ _ (fun l hl => hFG _ hl) (h x)
          cases h with
          | reg ks r =>
            simp only [evStep] at hev ⊢
            split
            · rename_i hok
              rw [hok] at hev
              refine hns _ _ _ (fun ns h => ?_) hev
              split
              · rename_i vc s' he
                rw [he] at h
                exact ⟨h.1, hK _ _ _ h.2⟩
              · rename_i he
                rw [he] at h; exact h
            · rename_i hok
              rw [hok] at hev; exact hev
          | regn ks r =>
            simp only [evStep] at hev ⊢
            split
            · rename_i hok
              rw [hok] at hev
              refine hns _ _ _ (fun ns h => ?_) hev
              split
              · rename_i vc s' he
                rw [he] at h
                exact ⟨h.1, hK _ _ _ h.2⟩
              · rename_i he
                rw [he] at h; exact h
            · rename_i hok
              rw [hok] at hev; exact hev
          | byF R E S r =>
            simp only [evStep] at hev ⊢
            split
            · rename_i hok
              rw [hok] at hev
              exact ⟨hev.1, fun x hx => hK _ _ _ (hev.2 x hx)⟩
            · rename_i hok
              rw [hok] at hev; exact hev
          | _ => exact hev
        | rangeFunc g ps asg bd =>
          cases h with
          | byF R E S r => exact ⟨hev.1, fun x hx => hK _ _ _ (hev.2 x hx)⟩
          | _ => exact hev
        | _ => exact hev
theorem ev_mono {P : Program} {nt : Nat} (n : Nat) (lp : Bool) (c : Code) (s : St) (h : H) (K K' : Exit → St → H → Prop) (hK : ∀ e s h, K e s h → K' e s h) (hev : ev P nt n lp c s h K) : ev P nt n lp c s h K' := evF_mono n lp c s h K K' hK hev
theorem pure_of_ev {P : Program} {f : FuncId} {fn : Func} {c : Code} {args : List Value} {v : Value}
    (hmix : P.follows .mixedOrders = true) (hf : P.funcs[f]? = some fn) (hb : fn.body = some c) (hn : Nat.ble args.length fn.ntmps = true) (n : Nat) (h : H) (hs : List (Nat × Nat))
    (hev : ev P fn.ntmps n false c (start args []) h fun e s _ => fin0 P fn hs v e s) : Pure P f args v :=
  runs_of_ev hmix hf hb hn n h hs [] rfl (ev_mono n false c _ h _ _ (fun _ _ _ he => fin_of_fin0 he) hev)
theorem t2 : True ∧ True := ⟨trivial, trivial⟩
theorem sk {q : Prop} (h : q) : (True ∧ True) ∧ q := ⟨t2, h⟩
theorem s1 {p q : Prop} (hp : p) (h : q) : (True ∧ p) ∧ q := ⟨⟨trivial, hp⟩, h⟩
theorem ad (n o : Nat) : True ∧ (Value.pointer (some ⟨n, o, none⟩) = Value.pointer (some ⟨n, o, none⟩)) := ⟨trivial, rfl⟩
end Go.Eng
end
section
namespace Go.Eng
structure N4 where
  a : UInt64
  b : UInt64
  c : UInt64
  d : UInt64
structure N8 where
  lo : N4
  hi : N4
def nat4 (x : N4) : Value := .agg #[u64 x.a, u64 x.b, u64 x.c, u64 x.d]
def wide8 (x : N8) : Value := .agg #[u64 x.lo.a, u64 x.lo.b, u64 x.lo.c, u64 x.lo.d, u64 x.hi.a, u64 x.hi.b, u64 x.hi.c, u64 x.hi.d]
def b2u (b : Bool) : UInt64 := match b with
  | true => 1
  | false => 0
def addS (x y : UInt64) (c : Bool) : UInt64 := x + y + b2u c
def addC (x y : UInt64) (c : Bool) : Bool := decide (18446744073709551616 ≤ x.toNat + y.toNat + c.toNat)
def subS (x y : UInt64) (c : Bool) : UInt64 := x - y - b2u c
def subC (x y : UInt64) (c : Bool) : Bool := decide (x.toNat < y.toNat + c.toNat)
theorem b2u_toNat (c : Bool) : (b2u c).toNat = c.toNat := by cases c <;> rfl
theorem addS_toNat (x y : UInt64) (c : Bool) : (addS x y c).toNat = (x.toNat + y.toNat + c.toNat) % 18446744073709551616 := by
  rw [addS, UInt64.toNat_add, UInt64.toNat_add, b2u_toNat]
  cases c <;> simp only [Bool.toNat_true, Bool.toNat_false] <;> omega
theorem subS_toNat (x y : UInt64) (c : Bool) : (subS x y c).toNat = (x.toNat + 18446744073709551616 - y.toNat - c.toNat) % 18446744073709551616 := by
  have h1 := x.toNat_lt
  have h2 := y.toNat_lt
  rw [subS, UInt64.toNat_sub, UInt64.toNat_sub, b2u_toNat]
  cases c <;> simp only [Bool.toNat_true, Bool.toNat_false] <;> omega
theorem addC_toNat (x y : UInt64) (c : Bool) : (addC x y c).toNat = (x.toNat + y.toNat + c.toNat) / 18446744073709551616 := by
  have h1 := x.toNat_lt
  have h2 := y.toNat_lt
  unfold addC
  cases c <;> simp only [Bool.toNat_true, Bool.toNat_false] <;>
    (by_cases h : 18446744073709551616 ≤ x.toNat + y.toNat + 0 <;> by_cases h' : 18446744073709551616 ≤ x.toNat + y.toNat + 1 <;> simp only [h, h', decide_true, decide_false, Bool.toNat_true, Bool.toNat_false] <;> omega)
theorem is_ext {P : Program} {f : FuncId} {args : Array Operand} {ts : Array TypeId} {vs : List Value} {v : Value} (h : pureRun P (callFunc f vs.toArray) = some (.value v)) :
    IsOp P (.call { callee := .value (.func f), args := args, argTypes := ts }) ((.func (.func f) #[] #[]) :: vs) v := by
  intro ρ o ho hv
  rw [ho] at hv
  have hops : (Op.call { callee := .value (.func f), args := args, argTypes := ts }).operands = #[.func f] ++ args := rfl
  rw [hops] at hv
  simp only [Array.toList_append, List.map_cons, List.cons_append, List.nil_append, List.cons.injEq] at hv
  obtain ⟨h1, h2⟩ := hv
  unfold execOp
  rw [ho]
  simp only
  show pureRun P (Sem.bind (resolve ρ { callee := .value (.func f), args := args, argTypes := ts } o.type) fun d => invoke d.target d.args) = _
  have hargs : args.map ρ = vs.toArray := by
    apply Array.ext'
    simpa using h2
  rw [pureRun_bind]
  simp only [resolve, h1, hargs, Deferred.ofValue]
  show pureRun P (invoke (.fn (.func f) #[]) (#[] ++ vs.toArray)) = _
  simp only [invoke, Array.empty_append, Array.append_empty]
  exact h
theorem pair_add (x y : UInt64) (c : Bool) : Extern.MathBitsCarry.pair ((x.toNat + y.toNat + c.toNat) % Extern.MathBitsCarry.m64) ((x.toNat + y.toNat + c.toNat) / Extern.MathBitsCarry.m64) =
    .tuple #[u64 (addS x y c), u64 (b2u (addC x y c))] := by
  unfold Extern.MathBitsCarry.pair u64
  rw [addS_toNat, b2u_toNat, addC_toNat]
  rfl
theorem pair_sub (x y : UInt64) (c : Bool) : Extern.MathBitsCarry.pair ((x.toNat + Extern.MathBitsCarry.m64 - y.toNat - c.toNat) % Extern.MathBitsCarry.m64) (if x.toNat < y.toNat + c.toNat then 1 else 0) =
    .tuple #[u64 (subS x y c), u64 (b2u (subC x y c))] := by
  unfold Extern.MathBitsCarry.pair u64
  rw [subS_toNat, b2u_toNat]
  unfold subC
  by_cases h : x.toNat < y.toNat + c.toNat <;> simp only [h, if_true, if_false, decide_true, decide_false] <;> rfl
def N4.val (x : N4) : Nat := x.a.toNat + 2 ^ 64 * x.b.toNat + 2 ^ 128 * x.c.toNat + 2 ^ 192 * x.d.toNat
def eq4 (x y : N4) : Bool := x.a == y.a && (x.b == y.b && (x.c == y.c && x.d == y.d))
def mulHi (x y : UInt64) : UInt64 := .ofNat (x.toNat * y.toNat / 18446744073709551616)
def add4 (x y : N4) : N4 := ⟨addS x.a y.a false, addS x.b y.b (addC x.a y.a false), addS x.c y.c (addC x.b y.b (addC x.a y.a false)), addS x.d y.d (addC x.c y.c (addC x.b y.b (addC x.a y.a false)))⟩
def add4c (x y : N4) : Bool := addC x.d y.d (addC x.c y.c (addC x.b y.b (addC x.a y.a false)))
def sub4 (x y : N4) : N4 := ⟨subS x.a y.a false, subS x.b y.b (subC x.a y.a false), subS x.c y.c (subC x.b y.b (subC x.a y.a false)), subS x.d y.d (subC x.c y.c (subC x.b y.b (subC x.a y.a false)))⟩
def sub4c (x y : N4) : Bool := subC x.d y.d (subC x.c y.c (subC x.b y.b (subC x.a y.a false)))
end Go.Eng
end
section
namespace Go.Eng
theorem pureRun_bind' {α β : Type} (P : Program) (s : Go.Sem α) (f : α → Go.Sem β) : pureRun P (s >>= f) = match pureRun P s with
    | some a => pureRun P (f a)
    | none => none := pureRun_bind P s f
theorem pureRun_underlying {P : Program} {t : TypeId} {d : TypeDesc} (h : P.underlying t = some d) : pureRun P (underlying t) = some d := by
  unfold underlying
  rw [pureRun_bind']
  show pureRun P (match P.underlying t with | some d => pure d | none => stuck "no such type") = _
  rw [h]; rfl
theorem pureRun_typeInfo {P : Program} {t : TypeId} {i : TypeInfo} (h : P.info? t = some i) : pureRun P (typeInfo t) = some i := by
  unfold typeInfo
  rw [pureRun_bind']
  show pureRun P (match P.info? t with | some i => pure i | none => stuck "no such type") = _
  rw [h]; rfl
theorem pureRun_sizeOf {P : Program} {t : TypeId} {n : Nat} (h : sizeB P t = some n) : pureRun P (sizeOf t) = some n := by
  simp only [sizeB, Option.map_eq_some_iff] at h
  obtain ⟨i, hi, rfl⟩ := h
  unfold sizeOf
  rw [pureRun_bind', pureRun_typeInfo hi]; rfl
theorem pureRun_part {P : Program} {e : TypeId} {k : IntKind} {cs : Array Value} {i : Nat} {v : Value} (he : P.underlying e = some (.int k)) (hv : cs[i]? = some v) : pureRun P (part e cs i) = some v := by
  unfold part
  rw [pureRun_bind']
  have : pureRun P (isAgg e) = some false := by
    unfold isAgg
    rw [pureRun_bind', pureRun_underlying he]; rfl
  rw [this]
  simp only [Bool.false_eq_true, if_false, hv]
  rfl
theorem pureRun_equalIn_int {P : Program} {e : TypeId} {k : IntKind} (d : Nat) (a b : Int) (he : P.underlying e = some (.int k)) : pureRun P (Op.equalIn (d + 1) e (.int k a) (.int k b)) = some (a == b) := by
  unfold Op.equalIn
  rw [pureRun_bind', pureRun_underlying he]
  simp only [if_true]
  rfl
theorem pureRun_all {P : Program} {α β : Type} (A : Nat → Go.Sem α) (B : Nat → Go.Sem β) (E : α → β → Go.Sem Bool) (f : Nat → Bool) : ∀ (l : List Nat),
    (∀ i ∈ l, ∃ a b, pureRun P (A i) = some a ∧ pureRun P (B i) = some b ∧ pureRun P (E a b) = some (f i)) →
    pureRun P (forIn l (none, ()) fun i _ => do
      let a ← A i
      let b ← B i
      let r ← E a b
      if (!r) = true then pure (ForInStep.done (some false, ())) else pure (ForInStep.yield ((none : Option Bool), ()))) = some (if l.all f then (none, ()) else (some false, ()))
  | [], _ => rfl
  | i :: l, h => by
    obtain ⟨a, b, h1, h2, h3⟩ := h i (by simp)
    have ih := pureRun_all A B E f l fun j hj => h j (by simp [hj])
    rw [List.forIn_cons, pureRun_bind', pureRun_bind', h1]
    simp only
    rw [pureRun_bind', h2]
    simp only
    rw [pureRun_bind', h3]
    simp only
    cases hf : f i with
    | true =>
      simp only [Bool.not_true, Bool.false_eq_true, if_false, List.all_cons, hf, Bool.true_and]
      exact ih
    | false =>
      simp only [Bool.not_false, if_true, List.all_cons, hf, Bool.false_and, Bool.false_eq_true, if_false]
      rfl
theorem pureRun_equalIn_arr {P : Program} {t e : TypeId} {k : IntKind} {n : Nat} (d : Nat) (xs ys : List Int) (ht : P.underlying t = some (.array n e)) (he : P.underlying e = some (.int k)) (hs : sizeB P e = some 1)
    (hx : xs.length = n) (hy : ys.length = n) :
    pureRun P (Op.equalIn (d + 2) t (.agg (xs.map (Value.int k)).toArray) (.agg (ys.map (Value.int k)).toArray)) = some ((List.range n).all fun i => xs.getD i 0 == ys.getD i 0) := by
  rw [Op.equalIn, pureRun_bind', pureRun_underlying ht]
  simp only
  rw [pureRun_bind', pureRun_sizeOf hs]
  simp only
  rw [Std.Legacy.Range.forIn_eq_forIn_range', pureRun_bind']
  have hr : List.range' ({ stop := n, step_pos := by omega } : Std.Legacy.Range).start ({ stop := n, step_pos := by omega } : Std.Legacy.Range).size ({ stop := n, step_pos := by omega } : Std.Legacy.Range).step = List.range n := by
    simp [Std.Legacy.Range.size, List.range_eq_range']
  have key := pureRun_all (P := P) (fun i => part e (xs.map (Value.int k)).toArray (i * 1)) (fun i => part e (ys.map (Value.int k)).toArray (i * 1)) (fun a b => Op.equalIn (d + 1) e a b)
    (fun i => xs.getD i 0 == ys.getD i 0) (List.range n) (fun i hi => by
      have hi' := List.mem_range.1 hi
      refine ⟨.int k (xs.getD i 0), .int k (ys.getD i 0), pureRun_part he ?_, pureRun_part he ?_, pureRun_equalIn_int d _ _ he⟩
      · simp [List.getD, List.getElem?_eq_getElem (show i < xs.length by omega)]
      · simp [List.getD, List.getElem?_eq_getElem (show i < ys.length by omega)])
  rw [← hr] at key
  erw [key]
  simp only [hr]
  generalize ((List.range n).all fun i => xs.getD i 0 == ys.getD i 0) = q
  cases q <;> rfl
theorem guard_arr {P : Program} {op : BinOp} {t : TypeId} {x y : Operand} {xs ys : Array Value} (hg : P.eqGuardType P.depth t = false) :
    pureRun P (eqGuard op t x y (.agg xs) (.agg ys)) = some () := by
  unfold eqGuard
  cases op <;> first | rfl | (show pureRun P (if (!P.eqGuardType P.depth t) = true then _ else _) = _; rw [hg]; rfl)
theorem beq64 (a b : UInt64) : ((a.toNat : Int) == (b.toNat : Int)) = (a == b) := int_beq64 a b
theorem equal_nat4 {P : Program} {t e : TypeId} (ht : P.underlying t = some (.array 4 e)) (he : P.underlying e = some (.int .u64)) (hs : sizeB P e = some 1) (x y : N4) :
    pureRun P (Op.equal t (nat4 x) (nat4 y)) = some (eq4 x y) := by
  have h := pureRun_equalIn_arr (P := P) 9998 [(x.a.toNat : Int), x.b.toNat, x.c.toNat, x.d.toNat] [(y.a.toNat : Int), y.b.toNat, y.c.toNat, y.d.toNat] ht he hs rfl rfl
  have e : ((List.range 4).all fun i => [(x.a.toNat : Int), x.b.toNat, x.c.toNat, x.d.toNat].getD i 0 == [(y.a.toNat : Int), y.b.toNat, y.c.toNat, y.d.toNat].getD i 0) = eq4 x y := by
    show (((x.a.toNat : Int) == y.a.toNat) && (((x.b.toNat : Int) == y.b.toNat) && (((x.c.toNat : Int) == y.c.toNat) && (((x.d.toNat : Int) == y.d.toNat) && true)))) = _
    simp only [beq64, Bool.and_true, eq4]
  rw [e] at h
  exact h
theorem is_eql_nat4 {P : Program} {t t' e : TypeId} {a b : Operand} (ht : P.underlying t = some (.array 4 e)) (he : P.underlying e = some (.int .u64)) (hs : sizeB P e = some 1) (hg : P.eqGuardType P.depth t = false) (x y : N4) :
    IsOp P (.binOp .eql t a b t') [nat4 x, nat4 y] (.bool (eq4 x y)) := isOp_bin (guard_arr hg) (by
  show pureRun P (do pure (Value.bool (← Op.equal t (nat4 x) (nat4 y)))) = _
  rw [pureRun_bind', equal_nat4 ht he hs]; rfl)
theorem is_neq_nat4 {P : Program} {t t' e : TypeId} {a b : Operand} (ht : P.underlying t = some (.array 4 e)) (he : P.underlying e = some (.int .u64)) (hs : sizeB P e = some 1) (hg : P.eqGuardType P.depth t = false) (x y : N4) :
    IsOp P (.binOp .neq t a b t') [nat4 x, nat4 y] (.bool (!eq4 x y)) := isOp_bin (guard_arr hg) (by
  show pureRun P (do pure (Value.bool (!(← Op.equal t (nat4 x) (nat4 y))))) = _
  rw [pureRun_bind', equal_nat4 ht he hs]; rfl)
theorem wrap_i64 (n : Int) (h : -9223372036854775808 ≤ n ∧ n ≤ 9223372036854775807) : IntKind.i64.wrap n = n := by
  have e : IntKind.i64.wrap n = if n % 18446744073709551616 ≥ 9223372036854775808 then n % 18446744073709551616 - 18446744073709551616 else n % 18446744073709551616 := by
    simp [IntKind.wrap, IntKind.bits, IntKind.signed]
  rw [e]; split <;> omega
section ints
variable {P : Program} {t t' : TypeId} {x y : Operand} (a b : Int)
end ints
theorem sband_l {a b : Bool} (h : selB a b false = true) : a = true := by cases a <;> first | rfl | cases h
theorem sband_r {a b : Bool} (h : selB a b false = true) : b = true := by cases a <;> first | exact h | cases h
theorem sband_f {a b : Bool} (h : selB a b false = false) : a = false ∨ b = false := by cases a <;> first | exact .inl rfl | exact .inr h
theorem sbor_t {a b : Bool} (h : selB a true b = true) : a = true ∨ b = true := by cases a <;> first | exact .inl rfl | exact .inr h
theorem sbor_l {a b : Bool} (h : selB a true b = false) : a = false := by cases a <;> first | rfl | cases h
theorem sbor_r {a b : Bool} (h : selB a true b = false) : b = false := by cases a <;> first | exact h | cases h
theorem sameB_t {x : Bool} (h : sameB x true = true) : x = true := h
theorem sameB_f {x : Bool} (h : sameB x false = true) : x = false := by cases x <;> first | rfl | cases h
theorem sameB_mk {x : Bool} (h : x = true) : sameB x true = true := h
theorem sameB_mkf {x : Bool} (h : x = false) : sameB x false = true := by rw [h]; rfl
end Go.Eng
end
section
namespace Go.Eng
def gtL (a b c d : UInt64) : UInt64 := addS (addS (a * b) c false) d false
def gtH (a b c d : UInt64) : UInt64 := mulHi a b + b2u (addC (a * b) c false) + b2u (addC (addS (a * b) c false) d false)
structure Row where
  a : UInt64
  b : UInt64
  c : UInt64
  d : UInt64
  e : UInt64
def mulRow (x : UInt64) (y : N4) (w0 w1 w2 w3 : UInt64) : Row :=
  ⟨gtL x y.a w0 0, gtL x y.b w1 (gtH x y.a w0 0), gtL x y.c w2 (gtH x y.b w1 (gtH x y.a w0 0)),
    gtL x y.d w3 (gtH x y.c w2 (gtH x y.b w1 (gtH x y.a w0 0))),
    gtH x y.d w3 (gtH x y.c w2 (gtH x y.b w1 (gtH x y.a w0 0)))⟩
def row1 (x y : N4) : Row := mulRow x.a y 0 0 0 0
def row2 (x y : N4) : Row := mulRow x.b y (row1 x y).b (row1 x y).c (row1 x y).d (row1 x y).e
def row3 (x y : N4) : Row := mulRow x.c y (row2 x y).b (row2 x y).c (row2 x y).d (row2 x y).e
def row4 (x y : N4) : Row := mulRow x.d y (row3 x y).b (row3 x y).c (row3 x y).d (row3 x y).e
def mul8 (x y : N4) : N8 := ⟨⟨(row1 x y).a, (row2 x y).a, (row3 x y).a, (row4 x y).a⟩, ⟨(row4 x y).b, (row4 x y).c, (row4 x y).d, (row4 x y).e⟩⟩
def cmp3 (x y : UInt64) : Int := match decide (x < y) with
  | true => -1
  | false => match decide (y < x) with
    | true => 1
    | false => 0
def cmp4 (x y : N4) : Int :=
  if cmp3 x.d y.d ≠ 0 then cmp3 x.d y.d else if cmp3 x.c y.c ≠ 0 then cmp3 x.c y.c else if cmp3 x.b y.b ≠ 0 then cmp3 x.b y.b else cmp3 x.a y.a
theorem lo32 (x : UInt64) : (x &&& 4294967295).toNat = x.toNat % 4294967296 := by
  rw [UInt64.toNat_and]
  exact Nat.and_two_pow_sub_one_eq_mod x.toNat 32
theorem mul_lt32 {a b : Nat} (ha : a < 4294967296) (hb : b < 4294967296) : a * b ≤ 18446744065119617025 :=
  Nat.mul_le_mul (Nat.le_of_lt_succ ha) (Nat.le_of_lt_succ hb)
theorem mulHi_eq (x y : UInt64) : (shr64 x 32) * (shr64 y 32) + shr64 (((shr64 x 32) * (y &&& 4294967295)) + (shr64 ((x &&& 4294967295) * (y &&& 4294967295)) 32)) 32 +
    shr64 (((((shr64 x 32) * (y &&& 4294967295)) + (shr64 ((x &&& 4294967295) * (y &&& 4294967295)) 32)) &&& 4294967295) + ((x &&& 4294967295) * (shr64 y 32))) 32 = mulHi x y := by
  apply UInt64.toNat_inj.1
  have hx := x.toNat_lt
  have hy := y.toNat_lt
  have x0 : (x &&& 4294967295).toNat = x.toNat % 4294967296 := lo32 x
  have y0 : (y &&& 4294967295).toNat = y.toNat % 4294967296 := lo32 y
  have x1 : (shr64 x 32).toNat = x.toNat / 4294967296 := shr64_toNat x 32
  have y1 : (shr64 y 32).toNat = y.toNat / 4294967296 := shr64_toNat y 32
  have b00 := mul_lt32 (Nat.mod_lt x.toNat (show 0 < 4294967296 by omega)) (Nat.mod_lt y.toNat (show 0 < 4294967296 by omega))
  have hx1 : x.toNat / 4294967296 < 4294967296 := by omega
  have hy1 : y.toNat / 4294967296 < 4294967296 := by omega
  have b10 := mul_lt32 hx1 (Nat.mod_lt y.toNat (show 0 < 4294967296 by omega))
  have b01 := mul_lt32 (Nat.mod_lt x.toNat (show 0 < 4294967296 by omega)) hy1
  have b11 := mul_lt32 hx1 hy1
  have key : x.toNat * y.toNat = 18446744073709551616 * (x.toNat / 4294967296 * (y.toNat / 4294967296)) + 4294967296 * (x.toNat / 4294967296 * (y.toNat % 4294967296)) +
      4294967296 * (x.toNat % 4294967296 * (y.toNat / 4294967296)) + x.toNat % 4294967296 * (y.toNat % 4294967296) := by
    have e1 := Nat.div_add_mod x.toNat 4294967296
    have e2 := Nat.div_add_mod y.toNat 4294967296
    generalize x.toNat / 4294967296 = p at *
    generalize x.toNat % 4294967296 = q at *
    generalize y.toNat / 4294967296 = r at *
    generalize y.toNat % 4294967296 = s at *
    rw [← e1, ← e2, Nat.add_mul, Nat.mul_add, Nat.mul_add]
    have h1 : 4294967296 * p * (4294967296 * r) = 18446744073709551616 * (p * r) := by
      rw [Nat.mul_mul_mul_comm]
    have h2 : 4294967296 * p * s = 4294967296 * (p * s) := Nat.mul_assoc _ _ _
    have h3 : q * (4294967296 * r) = 4294967296 * (q * r) := Nat.mul_left_comm _ _ _
    omega
  have hi : (mulHi x y).toNat = x.toNat * y.toNat / 18446744073709551616 := by
    have : x.toNat * y.toNat / 18446744073709551616 < 18446744073709551616 := by rw [key]; omega
    rw [mulHi, UInt64.toNat_ofNat', Nat.mod_eq_of_lt this]
  rw [hi, key]
  have m00 : ((x &&& 4294967295) * (y &&& 4294967295)).toNat = x.toNat % 4294967296 * (y.toNat % 4294967296) := by
    rw [UInt64.toNat_mul, x0, y0]; omega
  have m10 : ((shr64 x 32) * (y &&& 4294967295)).toNat = x.toNat / 4294967296 * (y.toNat % 4294967296) := by
    rw [UInt64.toNat_mul, x1, y0]; omega
  have m01 : ((x &&& 4294967295) * (shr64 y 32)).toNat = x.toNat % 4294967296 * (y.toNat / 4294967296) := by
    rw [UInt64.toNat_mul, x0, y1]; omega
  have m11 : ((shr64 x 32) * (shr64 y 32)).toNat = x.toNat / 4294967296 * (y.toNat / 4294967296) := by
    rw [UInt64.toNat_mul, x1, y1]; omega
  clear key hi x0 y0 x1 y1
  generalize x.toNat % 4294967296 * (y.toNat % 4294967296) = p00 at *
  generalize x.toNat / 4294967296 * (y.toNat % 4294967296) = p10 at *
  generalize x.toNat % 4294967296 * (y.toNat / 4294967296) = p01 at *
  generalize x.toNat / 4294967296 * (y.toNat / 4294967296) = p11 at *
  have s1 : (shr64 ((x &&& 4294967295) * (y &&& 4294967295)) 32).toNat = p00 / 4294967296 := by rw [shr64_toNat, m00]
  have t1 : (((shr64 x 32) * (y &&& 4294967295)) + (shr64 ((x &&& 4294967295) * (y &&& 4294967295)) 32)).toNat = p10 + p00 / 4294967296 := by
    rw [UInt64.toNat_add, m10, s1]; omega
  have t2 : (shr64 (((shr64 x 32) * (y &&& 4294967295)) + (shr64 ((x &&& 4294967295) * (y &&& 4294967295)) 32)) 32).toNat = (p10 + p00 / 4294967296) / 4294967296 := by rw [shr64_toNat, t1]
  have t3 : ((((shr64 x 32) * (y &&& 4294967295)) + (shr64 ((x &&& 4294967295) * (y &&& 4294967295)) 32)) &&& 4294967295).toNat = (p10 + p00 / 4294967296) % 4294967296 := by rw [lo32, t1]
  have t4 : (((((shr64 x 32) * (y &&& 4294967295)) + (shr64 ((x &&& 4294967295) * (y &&& 4294967295)) 32)) &&& 4294967295) + ((x &&& 4294967295) * (shr64 y 32))).toNat =
      (p10 + p00 / 4294967296) % 4294967296 + p01 := by
    rw [UInt64.toNat_add, t3, m01]; omega
  have t5 : (shr64 (((((shr64 x 32) * (y &&& 4294967295)) + (shr64 ((x &&& 4294967295) * (y &&& 4294967295)) 32)) &&& 4294967295) + ((x &&& 4294967295) * (shr64 y 32))) 32).toNat =
      ((p10 + p00 / 4294967296) % 4294967296 + p01) / 4294967296 := by rw [shr64_toNat, t4]
  rw [UInt64.toNat_add, UInt64.toNat_add, m11, t2, t5]
  omega
end Go.Eng
namespace Go.Eng
end Go.Eng
namespace Go.Eng
end Go.Eng
end
section
namespace Go.Eng
theorem add_limb (x y : UInt64) (c : Bool) : (addS x y c).toNat + 18446744073709551616 * (addC x y c).toNat = x.toNat + y.toNat + c.toNat := by
  rw [addS_toNat, addC_toNat]; omega
theorem sub_limb (x y : UInt64) (c : Bool) : (subS x y c).toNat + y.toNat + c.toNat = x.toNat + 18446744073709551616 * (subC x y c).toNat := by
  have h1 := x.toNat_lt
  have h2 := y.toNat_lt
  rw [subS_toNat]
  unfold subC
  have hc : c.toNat ≤ 1 := by cases c <;> simp
  by_cases h : x.toNat < y.toNat + c.toNat
  · simp only [h, decide_true, Bool.toNat_true]; omega
  · simp only [h, decide_false, Bool.toNat_false]; omega
theorem N4.val_lt (x : N4) : x.val < 2 ^ 256 := by
  have := x.a.toNat_lt; have := x.b.toNat_lt; have := x.c.toNat_lt; have := x.d.toNat_lt
  unfold N4.val; omega
theorem N4.ext_val {x y : N4} (h : x.val = y.val) : x = y := by
  have := x.a.toNat_lt; have := x.b.toNat_lt; have := x.c.toNat_lt; have := x.d.toNat_lt
  have := y.a.toNat_lt; have := y.b.toNat_lt; have := y.c.toNat_lt; have := y.d.toNat_lt
  unfold N4.val at h
  have h1 : x.a.toNat = y.a.toNat := by omega
  have h2 : x.b.toNat = y.b.toNat := by omega
  have h3 : x.c.toNat = y.c.toNat := by omega
  have h4 : x.d.toNat = y.d.toNat := by omega
  cases x; cases y
  simp only at h1 h2 h3 h4
  rw [UInt64.toNat_inj.1 h1, UInt64.toNat_inj.1 h2, UInt64.toNat_inj.1 h3, UInt64.toNat_inj.1 h4]
theorem eq4_iff (x y : N4) : eq4 x y = true ↔ x = y := by
  unfold eq4
  constructor
  · intro h
    simp only [Bool.and_eq_true, beq_iff_eq] at h
    obtain ⟨h1, h2, h3, h4⟩ := h
    cases x; cases y
    simp only at h1 h2 h3 h4
    rw [h1, h2, h3, h4]
  · rintro rfl; simp
theorem eq4_val (x y : N4) : eq4 x y = decide (x.val = y.val) := by
  rw [Bool.eq_iff_iff, eq4_iff, decide_eq_true_iff]
  exact ⟨fun h => by rw [h], N4.ext_val⟩
theorem add4_val (x y : N4) : (add4 x y).val + 2 ^ 256 * (add4c x y).toNat = x.val + y.val := by
  have h1 := add_limb x.a y.a false
  have h2 := add_limb x.b y.b (addC x.a y.a false)
  have h3 := add_limb x.c y.c (addC x.b y.b (addC x.a y.a false))
  have h4 := add_limb x.d y.d (addC x.c y.c (addC x.b y.b (addC x.a y.a false)))
  simp only [Bool.toNat_false] at h1
  simp only [N4.val, add4, add4c]
  omega
theorem sub4_val (x y : N4) : (sub4 x y).val + y.val = x.val + 2 ^ 256 * (sub4c x y).toNat := by
  have h1 := sub_limb x.a y.a false
  have h2 := sub_limb x.b y.b (subC x.a y.a false)
  have h3 := sub_limb x.c y.c (subC x.b y.b (subC x.a y.a false))
  have h4 := sub_limb x.d y.d (subC x.c y.c (subC x.b y.b (subC x.a y.a false)))
  simp only [Bool.toNat_false] at h1
  simp only [N4.val, sub4, sub4c]
  omega
theorem toNat_le (b : Bool) : b.toNat ≤ 1 := by cases b <;> simp
theorem toNat_inj {a b : Bool} (h : a.toNat = b.toNat) : a = b := by cases a <;> cases b <;> simp_all
theorem sub4c_eq (x y : N4) : sub4c x y = decide (x.val < y.val) := by
  have h := sub4_val x y
  have h1 := (sub4 x y).val_lt
  have h2 := x.val_lt
  have h3 := y.val_lt
  cases hc : sub4c x y with
  | true => rw [hc] at h; simp only [Bool.toNat_true] at h; exact (decide_eq_true (by omega)).symm
  | false => rw [hc] at h; simp only [Bool.toNat_false] at h; exact (decide_eq_false (by omega)).symm
theorem cmp3_eq (x y : UInt64) : cmp3 x y = if x.toNat < y.toNat then -1 else if y.toNat < x.toNat then 1 else 0 := by
  unfold cmp3
  by_cases h : x.toNat < y.toNat
  · have : decide (x < y) = true := decide_eq_true (UInt64.lt_iff_toNat_lt.2 h)
    rw [this, if_pos h]
  · have : decide (x < y) = false := decide_eq_false (fun h' => h (UInt64.lt_iff_toNat_lt.1 h'))
    rw [this, if_neg h]
    by_cases h2 : y.toNat < x.toNat
    · have : decide (y < x) = true := decide_eq_true (UInt64.lt_iff_toNat_lt.2 h2)
      rw [this, if_pos h2]
    · have : decide (y < x) = false := decide_eq_false (fun h' => h2 (UInt64.lt_iff_toNat_lt.1 h'))
      rw [this, if_neg h2]
def ord (a b : Nat) : Int := if a < b then -1 else if b < a then 1 else 0
theorem cmp4_eq (x y : N4) : cmp4 x y = ord x.val y.val := by
  have := x.a.toNat_lt; have := x.b.toNat_lt; have := x.c.toNat_lt; have := x.d.toNat_lt
  have := y.a.toNat_lt; have := y.b.toNat_lt; have := y.c.toNat_lt; have := y.d.toNat_lt
  unfold cmp4 ord N4.val
  simp only [cmp3_eq]
  by_cases hd : x.d.toNat < y.d.toNat
  · rw [if_pos hd, if_pos (by omega), if_pos (by omega)]
  · by_cases hd' : y.d.toNat < x.d.toNat
    · rw [if_neg hd, if_pos hd', if_pos (by omega), if_neg (by omega), if_pos (by omega)]
    · rw [if_neg hd, if_neg hd', if_neg (by omega)]
      by_cases hc : x.c.toNat < y.c.toNat
      · rw [if_pos hc, if_pos (by omega), if_pos (by omega)]
      · by_cases hc' : y.c.toNat < x.c.toNat
        · rw [if_neg hc, if_pos hc', if_pos (by omega), if_neg (by omega), if_pos (by omega)]
        · rw [if_neg hc, if_neg hc', if_neg (by omega)]
          by_cases hb : x.b.toNat < y.b.toNat
          · rw [if_pos hb, if_pos (by omega), if_pos (by omega)]
          · by_cases hb' : y.b.toNat < x.b.toNat
            · rw [if_neg hb, if_pos hb', if_pos (by omega), if_neg (by omega), if_pos (by omega)]
            · rw [if_neg hb, if_neg hb', if_neg (by omega)]
              by_cases ha : x.a.toNat < y.a.toNat
              · rw [if_pos ha, if_pos (by omega)]
              · by_cases ha' : y.a.toNat < x.a.toNat
                · rw [if_neg ha, if_pos ha', if_neg (by omega), if_pos (by omega)]
                · rw [if_neg ha, if_neg ha', if_neg (by omega), if_neg (by omega)]
theorem b2u_one (b : Bool) : (b2u b == 1) = b := by cases b <;> rfl
theorem mul_le64 (a b : UInt64) : a.toNat * b.toNat ≤ 340282366920938463426481119284349108225 :=
  Nat.mul_le_mul (Nat.le_of_lt_succ a.toNat_lt) (Nat.le_of_lt_succ b.toNat_lt)
theorem gather_val (a b c d : UInt64) : (gtL a b c d).toNat + 18446744073709551616 * (gtH a b c d).toNat = a.toNat * b.toNat + c.toNat + d.toNat := by
  have hm := mul_le64 a b
  have hc := c.toNat_lt
  have hd := d.toNat_lt
  have h0 : (a * b).toNat = a.toNat * b.toNat % 18446744073709551616 := UInt64.toNat_mul a b
  have h1 : (mulHi a b).toNat = a.toNat * b.toNat / 18446744073709551616 := by
    rw [mulHi, UInt64.toNat_ofNat', Nat.mod_eq_of_lt (by omega)]
  have h2 := add_limb (a * b) c false
  have h3 := add_limb (addS (a * b) c false) d false
  simp only [Bool.toNat_false, Nat.add_zero] at h2 h3
  have h4 := toNat_le (addC (a * b) c false)
  have h5 := toNat_le (addC (addS (a * b) c false) d false)
  unfold gtL gtH
  rw [UInt64.toNat_add, UInt64.toNat_add, b2u_toNat, b2u_toNat, h1]
  generalize a.toNat * b.toNat = m at *
  omega
theorem row_val (x : UInt64) (y : N4) (w0 w1 w2 w3 : UInt64) :
    (mulRow x y w0 w1 w2 w3).a.toNat + 18446744073709551616 * ((mulRow x y w0 w1 w2 w3).b.toNat + 18446744073709551616 * ((mulRow x y w0 w1 w2 w3).c.toNat + 18446744073709551616 * ((mulRow x y w0 w1 w2 w3).d.toNat + 18446744073709551616 * (mulRow x y w0 w1 w2 w3).e.toNat))) =
      x.toNat * y.val + (w0.toNat + 18446744073709551616 * (w1.toNat + 18446744073709551616 * (w2.toNat + 18446744073709551616 * w3.toNat))) := by
  have h1 := gather_val x y.a w0 0
  have h2 := gather_val x y.b w1 (gtH x y.a w0 0)
  have h3 := gather_val x y.c w2 (gtH x y.b w1 (gtH x y.a w0 0))
  have h4 := gather_val x y.d w3 (gtH x y.c w2 (gtH x y.b w1 (gtH x y.a w0 0)))
  have h0 : (0 : UInt64).toNat = 0 := rfl
  rw [h0] at h1
  have hv : x.toNat * y.val = x.toNat * y.a.toNat + 2 ^ 64 * (x.toNat * y.b.toNat) + 2 ^ 128 * (x.toNat * y.c.toNat) + 2 ^ 192 * (x.toNat * y.d.toNat) := by
    unfold N4.val
    rw [Nat.mul_add, Nat.mul_add, Nat.mul_add, Nat.mul_left_comm, Nat.mul_left_comm _ (2 ^ 128), Nat.mul_left_comm _ (2 ^ 192)]
  rw [hv]
  simp only [mulRow]
  omega
theorem mul8_val (x y : N4) : (mul8 x y).lo.val + 2 ^ 256 * (mul8 x y).hi.val = x.val * y.val := by
  have h1 := row_val x.a y 0 0 0 0
  have h2 := row_val x.b y (row1 x y).b (row1 x y).c (row1 x y).d (row1 x y).e
  have h3 := row_val x.c y (row2 x y).b (row2 x y).c (row2 x y).d (row2 x y).e
  have h4 := row_val x.d y (row3 x y).b (row3 x y).c (row3 x y).d (row3 x y).e
  have h0 : (0 : UInt64).toNat = 0 := rfl
  rw [h0] at h1
  have e1 : mulRow x.a y 0 0 0 0 = row1 x y := rfl
  have e2 : mulRow x.b y (row1 x y).b (row1 x y).c (row1 x y).d (row1 x y).e = row2 x y := rfl
  have e3 : mulRow x.c y (row2 x y).b (row2 x y).c (row2 x y).d (row2 x y).e = row3 x y := rfl
  have e4 : mulRow x.d y (row3 x y).b (row3 x y).c (row3 x y).d (row3 x y).e = row4 x y := rfl
  rw [e1] at h1; rw [e2] at h2; rw [e3] at h3; rw [e4] at h4
  have hv : x.val * y.val = x.a.toNat * y.val + 2 ^ 64 * (x.b.toNat * y.val) + 2 ^ 128 * (x.c.toNat * y.val) + 2 ^ 192 * (x.d.toNat * y.val) := by
    have : x.val = x.a.toNat + 2 ^ 64 * x.b.toNat + 2 ^ 128 * x.c.toNat + 2 ^ 192 * x.d.toNat := rfl
    rw [this, Nat.add_mul, Nat.add_mul, Nat.add_mul, Nat.mul_assoc, Nat.mul_assoc, Nat.mul_assoc]
  rw [hv]
  have hlo : (mul8 x y).lo.val = (row1 x y).a.toNat + 2 ^ 64 * (row2 x y).a.toNat + 2 ^ 128 * (row3 x y).a.toNat + 2 ^ 192 * (row4 x y).a.toNat := rfl
  have hhi : (mul8 x y).hi.val = (row4 x y).b.toNat + 2 ^ 64 * (row4 x y).c.toNat + 2 ^ 128 * (row4 x y).d.toNat + 2 ^ 192 * (row4 x y).e.toNat := rfl
  rw [hlo, hhi]
  generalize x.a.toNat * y.val = p1 at *
  generalize x.b.toNat * y.val = p2 at *
  generalize x.c.toNat * y.val = p3 at *
  generalize x.d.toNat * y.val = p4 at *
  omega
theorem N8.ext_val {x y : N8} (h : x.lo.val + 2 ^ 256 * x.hi.val = y.lo.val + 2 ^ 256 * y.hi.val) : x = y := by
  have h1 := x.lo.val_lt
  have h2 := y.lo.val_lt
  have e1 : x.lo = y.lo := N4.ext_val (by omega)
  have e2 : x.hi = y.hi := N4.ext_val (by omega)
  cases x; cases y
  simp only at e1 e2
  rw [e1, e2]
theorem small_val (b : Bool) : (N4.mk (b2u b) 0 0 0).val = b.toNat := by
  cases b <;> rfl
end Go.Eng
end
