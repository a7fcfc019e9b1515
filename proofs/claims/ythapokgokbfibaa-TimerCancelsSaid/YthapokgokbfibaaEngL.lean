/-
  An engine for walks, twelfth part: functions that are told of no memory, and small words for proofs that a program writes.
-/
import Derived.Test.YthapokgokbfibaaEngK
import Derived.KernelRfl
namespace Go.Eng

/-- What is to be shown at a function's end, if it hands back a plain value. -/
def fin0 (P : Program) (fn : Func) (hs : List (Nat × Nat)) (v : Value) : Exit → St → Prop := fun e s => match e with
  | .ret | .normal => match resVal P s fn.results.toList hs with
    | some (vc, vs) => vc ∧ oneOf vs = v
    | none => False
  | _ => False

theorem fin_of_fin0 {P : Program} {fn : Func} {hs : List (Nat × Nat)} {v : Value} {e : Exit} {s : St} (h : fin0 P fn hs v e s) : fin P fn hs [] 0 (fun _ => v) (fun _ => []) 0 e s := by
  have key : (match resVal P s fn.results.toList hs with
    | some (vc, vs) => vc ∧ oneOf vs = v
    | none => False) → (match resVal P s fn.results.toList hs with
    | some (vc, vs) => vc ∧ ∃ ns : List Nat, ns.length = 0 ∧ oneOf vs = v ∧ outOf s (List.range 0 ++ []) = []
    | none => False) := fun h => by
    split
    · rename_i vc vs hr
      rw [hr] at h
      exact ⟨h.1, [], rfl, h.2, rfl⟩
    · rename_i hr; rw [hr] at h; exact h
  cases e with
  | normal => exact key h
  | ret => exact key h
  | _ => exact h.elim

/-- A function of plain values. -/
def Pure (P : Program) (f : FuncId) (args : List Value) (v : Value) : Prop := Runs P f args [] 0 (fun _ => v) (fun _ => [])

theorem evF_mono {F : Blk → Prop} {P : Program} {nt : Nat} : ∀ (n : Nat) (lp : Bool) (c : Code) (s : St) (h : H) (K K' : Exit → St → H → Prop), (∀ e s h, K e s h → K' e s h) → evF F P nt n lp c s h K → evF F P nt n lp c s h K'
  | 0, _, _, _, _, _, _, _, h => h
  | n + 1, lp, c, s, h, K, K', hK, hev => by
    by_cases hkeep : ∃ ts ps nx r, h = .keep ts ps nx r
    · obtain ⟨ts, ps, nx, r, rfl⟩ := hkeep
      exact evF_mono n lp c _ r K K' hK hev
    · by_cases htold : ∃ s' r, h = .told s' r
      · obtain ⟨s', r, rfl⟩ := htold
        simp only [evF] at hev ⊢
        exact ⟨hev.1, evF_mono n lp c s' r K K' hK hev.2⟩
      by_cases hopen : ∃ b r, h = .openb b r
      · obtain ⟨b, r, rfl⟩ := hopen
        simp only [evF] at hev ⊢
        exact ⟨hev.1, evF_mono n lp c _ r _ _ (fun e s h he => hK _ _ _ he) hev.2⟩
      by_cases hopr : ∃ b r, h = .openr b r ∧ isReg c = true
      · obtain ⟨b, r, rfl, hreg⟩ := hopr
        simp only [evF, hreg] at hev ⊢
        exact ⟨hev.1, evF_mono n lp c _ r _ _ (fun e s h he => hK _ _ _ he) hev.2⟩
      by_cases hboth : ∃ b h1 h2, h = .both b h1 h2
      · obtain ⟨b, h1, h2, rfl⟩ := hboth
        simp only [evF] at hev ⊢
        exact ⟨fun hb => evF_mono n lp c s h1 K K' hK (hev.1 hb), fun hb => evF_mono n lp c s h2 K K' hK (hev.2 hb)⟩
      by_cases hren : ∃ p q r, h = .ren p q r
      · obtain ⟨p, q, r, rfl⟩ := hren
        simp only [evF] at hev ⊢
        split
        · rename_i b hb
          rw [hb] at hev
          simp only at hev
          split
          · rename_i ho
            rw [ho] at hev
            simp only at hev
            split
            · rename_i hq
              rw [hq] at hev
              exact evF_mono n lp c _ r K K' hK hev
            · rename_i hq
              rw [hq] at hev; exact hev
          · rename_i ho
            rw [ho] at hev; exact hev
        · rename_i hb
          rw [hb] at hev; exact hev
      by_cases hcast : ∃ p c' r, h = .cast p c' r
      · obtain ⟨p, c', r, rfl⟩ := hcast
        simp only [evF] at hev ⊢
        split
        · rename_i b hb
          rw [hb] at hev
          simp only at hev
          split
          · rename_i ho
            rw [ho] at hev
            simp only at hev
            split
            · rename_i hnm; rw [hnm] at hev; exact hev
            · rename_i hnm; rw [hnm] at hev
              exact ⟨hev.1, evF_mono n lp c _ r K K' hK hev.2⟩
          · rename_i ho
            rw [ho] at hev; exact hev
        · rename_i hb
          rw [hb] at hev; exact hev
      by_cases hcut : ∃ (α : Type) (ts ps : List Nat) (nx : Nat) (R : α → Prop) (S : α → St) (h1 : H) (r : α → H), h = .cut ts ps nx R S h1 r
      · obtain ⟨α, ts, ps, nx, R, S, h1, r, rfl⟩ := hcut
        simp only [evF] at hev ⊢
        cases lp with
        | true => exact hev.elim
        | false =>
          refine ⟨evF_mono n false c s h1 _ _ (fun e s h he => ?_) hev.1, fun x hx => hK _ _ _ (hev.2 x hx)⟩
          cases e with
          | normal => exact he
          | _ => exact hK _ _ _ he
      cases lp with
      | true =>
        cases h with
        | cut ts ps nx R S h1 r => exact absurd ⟨_, ts, ps, nx, R, S, h1, r, rfl⟩ hcut
        | keep ts ps nx r => exact absurd ⟨ts, ps, nx, r, rfl⟩ hkeep
        | cast p c' r => exact absurd ⟨p, c', r, rfl⟩ hcast
        | told s' r => exact absurd ⟨s', r, rfl⟩ htold
        | both b h1 h2 => exact absurd ⟨b, h1, h2, rfl⟩ hboth
        | openb b r => exact absurd ⟨b, r, rfl⟩ hopen
        | ren p q r => exact absurd ⟨p, q, r, rfl⟩ hren
        | openr b r =>
          cases hreg : isReg c with
          | true => exact absurd ⟨b, r, rfl, hreg⟩ hopr
          | false => simp only [evF, hreg] at hev
        | unroll r =>
          refine evF_mono n false c s r _ _ (fun e s h he => ?_) hev
          cases e with
          | normal => exact evF_mono n true c s h K K' hK he
          | _ => exact hK _ _ _ he
        | _ => exact hev
      | false =>
        have hnk : ∀ K, evF F P nt (n + 1) false c s h K = evStep F P nt (fun lp c s h K => evF F P nt n lp c s h K) c s h K := fun K => by
          cases h with
          | keep ts ps nx r => exact absurd ⟨ts, ps, nx, r, rfl⟩ hkeep
          | cast p c' r => exact absurd ⟨p, c', r, rfl⟩ hcast
          | told s' r => exact absurd ⟨s', r, rfl⟩ htold
          | both b h1 h2 => exact absurd ⟨b, h1, h2, rfl⟩ hboth
          | openr b r =>
            cases hreg : isReg c with
            | true => exact absurd ⟨b, r, rfl, hreg⟩ hopr
            | false => simp only [evF, hreg]
          | openb b r => exact absurd ⟨b, r, rfl⟩ hopen
          | ren p q r => exact absurd ⟨p, q, r, rfl⟩ hren
          | cut ts ps nx R S h1 r => exact absurd ⟨_, ts, ps, nx, R, S, h1, r, rfl⟩ hcut
          | _ => rfl
        rw [hnk] at hev ⊢
        have ih := fun lp c s h K K' hK => evF_mono (F := F) (P := P) (nt := nt) n lp c s h K K' hK
        cases c with
        | skip => exact hK _ _ _ hev
        | label l => exact hK _ _ _ hev
        | ret => exact hK _ _ _ hev
        | exit id => exact hK _ _ _ hev
        | seq x y =>
          refine ih false x s h _ _ (fun e s h he => ?_) hev
          cases e with
          | normal => exact ih false y s h K K' hK he
          | _ => exact hK _ _ _ he
        | block id b =>
          refine ih false b s h _ _ (fun e s h he => ?_) hev
          cases e with
          | exit id' =>
            simp only at he ⊢
            split
            · rename_i hb; rw [hb] at he; exact hK _ _ _ he
            · rename_i hb; rw [hb] at he; exact hK _ _ _ he
          | _ => exact hK _ _ _ he
        | scope b =>
          refine ih false b s h _ _ (fun e s h he => ?_) hev
          cases e with
          | goto l => exact he
          | _ => exact hK _ _ _ he
        | cond o x y =>
          simp only [evStep] at hev ⊢
          split
          · rename_i ee hee
            rw [hee] at hev
            simp only at hev
            split
            · rename_i b hb
              rw [hb] at hev
              simp only at hev
              cases h with
              | br h1 h2 => exact ⟨hev.1, fun ht => ih false x s h1 K K' hK (hev.2.1 ht), fun hf => ih false y s h2 K K' hK (hev.2.2 hf)⟩
              | yes r => exact ⟨hev.1, hev.2.1, ih false x s r K K' hK hev.2.2⟩
              | no r => exact ⟨hev.1, hev.2.1, ih false y s r K K' hK hev.2.2⟩
              | _ => exact hev
            · rename_i hne
              cases hv : ee.val with
              | bool b => exact absurd hv (hne b)
              | _ => rw [hv] at hev; exact hev
          · rename_i hee; rw [hee] at hev; exact hev
        | loop b =>
          cases h with
          | sum R E S r => exact ⟨hev.1, fun x hx => hK _ _ _ (hev.2 x hx)⟩
          | inv ts ps nx R S μ x0 r =>
            refine ⟨hev.1, hev.2.1, fun x hx => ih false b (S x) (r x) _ _ (fun e s h he => ?_) (hev.2.2 x hx)⟩
            cases e with
            | normal => exact he
            | _ => exact hK _ _ _ he
          | peel ts ps nx R S μ B f r =>
            refine ⟨ih false b s f _ _ (fun e s h he => ?_) hev.1, fun x hx => ih false b (S x) (r x) _ _ (fun e s h he => ?_) (hev.2 x hx)⟩
            · cases e with
              | normal => exact he
              | _ => exact hK _ _ _ he
            · cases e with
              | normal => exact he
              | _ => exact hK _ _ _ he
          | yes f0 =>
            refine ih false b s f0 _ _ (fun e s h he => ?_) hev
            cases e with
            | normal =>
              cases h with
              | peel ts ps nx R S μ B f r =>
                refine ⟨ih false b s f _ _ (fun e s h he => ?_) he.1, fun x hx => ih false b (S x) (r x) _ _ (fun e s h he => ?_) (he.2 x hx)⟩
                · cases e with
                  | normal => exact he
                  | _ => exact hK _ _ _ he
                · cases e with
                  | normal => exact he
                  | _ => exact hK _ _ _ he
              | _ => exact he.elim
            | _ => exact hK _ _ _ he
          | _ => exact ih true b s _ K K' hK hev
        | region id ops draw =>
          have hns : ∀ (m : Nat) (F G : List Nat → Prop), (∀ l, F l → G l) → allNs m F → allNs m G := by
            intro m
            induction m with
            | zero => intro F G hFG h; exact hFG _ h
            | succ m ihm => intro F G hFG h x; exact ihm _ _ (fun l hl => hFG _ hl) (h x)
          cases h with
          | reg ks r =>
            simp only [evStep] at hev ⊢
            split
            · rename_i hok
              rw [hok] at hev
              refine hns _ _ _ (fun ns h => ?_) hev
              split
              · rename_i vc s' he
                rw [he] at h
                exact ⟨h.1, hK _ _ _ h.2⟩
              · rename_i he
                rw [he] at h; exact h
            · rename_i hok
              rw [hok] at hev; exact hev
          | regn ks r =>
            simp only [evStep] at hev ⊢
            split
            · rename_i hok
              rw [hok] at hev
              refine hns _ _ _ (fun ns h => ?_) hev
              split
              · rename_i vc s' he
                rw [he] at h
                exact ⟨h.1, hK _ _ _ h.2⟩
              · rename_i he
                rw [he] at h; exact h
            · rename_i hok
              rw [hok] at hev; exact hev
          | _ => exact hev
        | _ => exact hev

theorem ev_mono {P : Program} {nt : Nat} (n : Nat) (lp : Bool) (c : Code) (s : St) (h : H) (K K' : Exit → St → H → Prop) (hK : ∀ e s h, K e s h → K' e s h) (hev : ev P nt n lp c s h K) : ev P nt n lp c s h K' := evF_mono n lp c s h K K' hK hev

theorem pure_of_ev {P : Program} {f : FuncId} {fn : Func} {c : Code} {args : List Value} {v : Value}
    (hmix : P.follows .mixedOrders = true) (hf : P.funcs[f]? = some fn) (hb : fn.body = some c) (hn : Nat.ble args.length fn.ntmps = true) (n : Nat) (h : H) (hs : List (Nat × Nat))
    (hev : ev P fn.ntmps n false c (start args []) h fun e s _ => fin0 P fn hs v e s) : Pure P f args v :=
  runs_of_ev hmix hf hb hn n h hs [] rfl (ev_mono n false c _ h _ _ (fun _ _ _ he => fin_of_fin0 he) hev)

theorem t2 : True ∧ True := ⟨trivial, trivial⟩
/-- Past an operation of which nothing is to be shown. -/
theorem sk {q : Prop} (h : q) : (True ∧ True) ∧ q := ⟨t2, h⟩
theorem sk2 {q : Prop} (h : q) : (True ∧ True) ∧ (True ∧ True) ∧ q := sk (sk h)
theorem sk4 {q : Prop} (h : q) : (True ∧ True) ∧ (True ∧ True) ∧ (True ∧ True) ∧ (True ∧ True) ∧ q := sk2 (sk2 h)
/-- Past one of which something is. -/
theorem s1 {p q : Prop} (hp : p) (h : q) : (True ∧ p) ∧ q := ⟨⟨trivial, hp⟩, h⟩
/-- An address. -/
theorem ad (n o : Nat) : True ∧ (Value.pointer (some ⟨n, o, none⟩) = Value.pointer (some ⟨n, o, none⟩)) := ⟨trivial, rfl⟩

end Go.Eng
