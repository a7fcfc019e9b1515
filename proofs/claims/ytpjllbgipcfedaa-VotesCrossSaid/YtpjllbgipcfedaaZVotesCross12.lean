/-
  Many in one: EngRf, VotGa, VotFn, VotVo, VotTw, VotAw.
-/
import Derived.Test.YtpjllbgipcfedaaZVotesCross11
import Derived.Below
import Derived.RangeFuncFrom
section
set_option linter.unusedSimpArgs false
set_option linter.unusedVariables false
set_option maxRecDepth 100000
namespace Go.Eng
variable {ds : Nat}
def TmOk (nt : Nat) (env : Nat → Option EV) (tm : Array Value) : Prop := tm.size = nt ∧ ∀ t e, env t = some e → tm[t]? = some e.den
def yv (l : Nat) : Value := .func (.yield l) #[] #[]
def recL (st : LoopState) (pe : Option Code) (fn : FuncId) (tm : Array Value) (ps : Array Tmp) (asg bd : Code) (D : Nat) : Loop :=
  { state := st, pending := pe, fn, tmps := tm, params := ps, assign := asg, body := bd, defers := D }
def stL (pe : Option Code) : LoopState := match pe with | none => .ready | some _ => .done
def loopB (l : Nat) (L : Loop) : Blk := ⟨l, true, 0, .map (.o (.loop L)) 0⟩
theorem loopB_holds {l : Nat} {L : Loop} {w : World} (h : w.heap[l]? = some (.loop L)) : Holds (loopB l L) w :=
  ⟨(Array.getElem?_eq_some_iff.1 h).1, (fun o v ho => by cases ho), (fun _ o v ho => by cases ho), fun es c hc => by injection hc with h1 h2; subst h1; exact h⟩
def shB (x : Option Blk) (m : Nat → Option Blk) : Nat → Option Blk
  | 0 => x
  | p + 1 => m p
def shP (ps : List (Nat × Bool)) : List (Nat × Bool) := ps.map fun x => (x.1 + 1, x.2)
theorem lendO_sh (x : Option Blk) (m : Nat → Option Blk) : ∀ ps : List (Nat × Bool), lendO (shB x m) (shP ps) = lendO m ps
  | [] => rfl
  | (p, ro) :: r => by
    show _ :: lendO (shB x m) (shP r) = _ :: lendO m r
    rw [lendO_sh x m r]; rfl
theorem look_sh : ∀ (ps : List (Nat × Bool)) (nx : Nat) (out : List (Option Blk)) (p : Nat), look (outUpd (shP ps) (nx + 1) out) (p + 1) = look (outUpd ps nx out) p
  | [], nx, [], p => rfl
  | [], nx, b :: out, p => by
    show look ((nx + 1, b) :: outUpd [] (nx + 1 + 1) out) (p + 1) = look ((nx, b) :: outUpd [] (nx + 1) out) p
    rw [look_cons, look_cons]
    have := look_sh [] (nx + 1) out p
    by_cases h : nx = p
    · rw [if_pos h, if_pos (by omega)]
    · rw [if_neg h, if_neg (by omega)]; exact this
  | (q, ro) :: r, nx, [], p => rfl
  | (q, true) :: r, nx, b :: out, p => look_sh r nx out p
  | (q, false) :: r, nx, b :: out, p => by
    show look ((q + 1, b) :: outUpd (shP r) (nx + 1) out) (p + 1) = look ((q, b) :: outUpd r nx out) p
    rw [look_cons, look_cons]
    by_cases h : q = p
    · rw [if_pos h, if_pos (by omega)]
    · rw [if_neg h, if_neg (by omega)]; exact look_sh r nx out p
theorem apply_sh (x x' : Option Blk) (m : Nat → Option Blk) (ps : List (Nat × Bool)) (nx : Nat) (out : List (Option Blk)) :
    memApply (shB x m) (outUpd ((0, false) :: shP ps) (nx + 1) (x' :: out)) = shB x' (memApply m (outUpd ps nx out)) := by
  funext p
  show (match look ((0, x') :: outUpd (shP ps) (nx + 1) out) p with | some ob => ob | none => shB x m p) = _
  rw [look_cons]
  cases p with
  | zero => rfl
  | succ p =>
    rw [if_neg (by omega), look_sh]
    rfl
theorem memOf_app (l r : List (Nat × Option Blk)) : memOf (l ++ r) = memApply (memOf r) l := by
  funext p
  unfold memOf memApply
  induction l with
  | nil => rfl
  | cons x l ih =>
    obtain ⟨q, b⟩ := x
    simp only [List.cons_append, look_cons]
    by_cases h : q = p
    · simp [h]
    · simp only [h, if_false]; exact ih
theorem shB_owns {x : Option Blk} {m : Nat → Option Blk} {k : Nat} (h : Owns (shB x m) k) : (∃ b, x = some b ∧ b.own = true ∧ b.name = k) ∨ Owns m k := by
  obtain ⟨p, b, h1, h2, h3⟩ := h
  cases p with
  | zero => exact .inl ⟨b, h1, h2, h3⟩
  | succ p => exact .inr ⟨p, b, h1, h2, h3⟩
theorem awp_rangeFunc {F : Blk → Prop} {P : Program} {nt : Nat} {g : Operand} {ps : Array Tmp} {asg bd : Code} {s : St} {gf : Nat} {caps : List Value} {psl : List (Nat × Bool)} {k : Nat} {v : List Nat → Value}
    {out : List Nat → List (Option Blk)} {pe : Option Code} {E : Exit} (hg : opdEV s.fs.env g = some (.v (.func (.func gf) #[] caps.toArray))) (eg : ∀ args w, (callFunc gf args).run P w = .ok (.enter gf args) w)
    (hn : nodupPs psl = true) (hlen : ∀ ns, ns.length = k → psl.length ≤ (out ns).length) (hpe : pe = none ∧ E = .normal ∨ pe = some .ret ∧ E = .ret ∨ ∃ id, pe = some (.exit id) ∧ E = .exit id) (nb : Nat)
    (hc : ∀ l D fn tm, TmOk nt s.fs.env tm → RunsO F P gf (yv l :: caps) (some (loopB l (recL .ready none fn tm ps asg bd D)) :: lendO s.fs.mem psl) k v
      (fun ns => some (loopB l (recL (stL pe) pe fn tm ps asg bd D)) :: out ns)) :
    AWPF F ds P nt (.rangeFunc g ps asg bd) s (fun e s' => ∃ ns : List Nat, ns.length = k ∧ e = E ∧ s' = ⟨s.env, outUpd psl s.nx (out ns) ++ s.mem, s.nx + nb⟩) := by
  intro a w hs hF
  refine (wpIn_wide (n := 1)).1 (wpIn_rangeFunc (F := Fence.wide) (n := 1) ?_)
  intro fn _
  obtain ⟨l, hl⟩ : ∃ l, l = w.heap.size + 1 := ⟨_, rfl⟩
  obtain ⟨W1, hW1⟩ : ∃ W1, (w.alloc (.deferred (some []))).alloc (.loop (recL .ready none fn a.tmps ps asg bd w.heap.size)) = W1 := ⟨_, rfl⟩
  have hL1 : W1.heap[l]? = some (.loop (recL .ready none fn a.tmps ps asg bd w.heap.size)) := by
    rw [← hW1, hl]; have := World.alloc_heap_new (w.alloc (.deferred (some []))) (.loop (recL .ready none fn a.tmps ps asg bd w.heap.size)); rwa [World.size_alloc] at this
  have hK1 : W1.heap[w.heap.size]? = some (.deferred (some [])) := by
    rw [← hW1]; exact (Go.RowKit.Below.heap_alloc _ _ _ (by simp)).trans (World.alloc_heap_new w _)
  have hsz : W1.heap.size = w.heap.size + 2 := by rw [← hW1]; simp
  have hold : ∀ q, q < w.heap.size → W1.heap[q]? = w.heap[q]? := fun q hq => by
    rw [← hW1]; exact (Go.RowKit.Below.heap_alloc _ _ _ (by simp; omega)).trans (Go.RowKit.Below.heap_alloc _ _ _ hq)
  have hev : a.eval g = .func (.func gf) #[] caps.toArray := opd_eval hs hg
  refine ⟨l, [{ target := .collected w.heap.size, args := #[] }], W1, { target := .fn (.func gf) caps.toArray, args := #[.func (.yield l) #[] #[]] }, W1, gf,
    #[.func (.yield l) #[] #[]] ++ caps.toArray, W1, ?_, ?_, fun _ _ => trivial, ?_, fun _ => Nat.le_refl _, ?_⟩
  · rw [← hW1, hl]; exact run_enterLoop_outer _ _ _ _ _
  · simp only [resolve, hev]
    simp [go_sem]
  · simp [invoke, go_sem, eg]
  have hm1 : ∀ p b, shB (some (loopB l (recL .ready none fn a.tmps ps asg bd w.heap.size))) s.fs.mem p = some b → Holds b W1 := fun p b hb => by
    cases p with
    | zero => injection hb with hb; subst hb; exact loopB_holds hL1
    | succ p => have := hs.mem p b hb; exact this.of_heap (by omega) (hold _ this.lt)
  have ha1 : Apart (shB (some (loopB l (recL .ready none fn a.tmps ps asg bd w.heap.size))) s.fs.mem) := fun p q b c hpq hb hc ho => by
    cases p with
    | zero =>
      cases q with
      | zero => exact absurd rfl hpq
      | succ q => injection hb with hb; subst hb; have := (hs.mem q c hc).lt; show l ≠ c.name; omega
    | succ p =>
      cases q with
      | zero => injection hc with hc; subst hc; have := (hs.mem p b hb).lt; show b.name ≠ l; omega
      | succ q => exact hs.apart p q b c (by omega) hb hc ho
  have hF1 : Fam F (shB (some (loopB l (recL .ready none fn a.tmps ps asg bd w.heap.size))) s.fs.mem) W1 := fun b hb => by
    obtain ⟨h1, h2, h3⟩ := hF b hb
    refine ⟨h1.of_heap (by omega) (hold _ h1.lt), h2, fun ho => ?_⟩
    rcases shB_owns ho with ⟨c, e, _, h5⟩ | h4
    · injection e with e; subst e; have := h1.lt; have : l = b.name := h5; omega
    · exact h3 h4
  have hn1 : nodupPs ((0, false) :: shP psl) = true := by
    have h1 : ∀ qs : List (Nat × Bool), nodupPs qs = true → nodupPs (shP qs) = true := by
      intro qs
      induction qs with
      | nil => intro _; rfl
      | cons x r ih =>
        intro h
        simp only [nodupPs, Bool.and_eq_true, List.all_eq_true] at h
        show ((shP r).all _ && nodupPs (shP r)) = true
        rw [ih h.2, Bool.and_true, List.all_eq_true]
        intro y hy
        obtain ⟨z, hz, rfl⟩ := List.mem_map.1 hy
        exact h.1 z hz
    show ((shP psl).all _ && nodupPs (shP psl)) = true
    rw [h1 psl hn, Bool.and_true, List.all_eq_true]
    intro y hy
    obtain ⟨z, hz, rfl⟩ := List.mem_map.1 hy
    rfl
  have hlend : lendO (shB (some (loopB l (recL .ready none fn a.tmps ps asg bd w.heap.size))) s.fs.mem) ((0, false) :: shP psl) = some (loopB l (recL .ready none fn a.tmps ps asg bd w.heap.size)) :: lendO s.fs.mem psl := by
    show _ :: lendO _ (shP psl) = _
    rw [lendO_sh]; rfl
  have hcall := hc l w.heap.size fn a.tmps ⟨hs.size, hs.env⟩ W1 (by rw [← hlend]; exact lendO_holds hm1) (by rw [← hlend]; exact lendO_apart ha1 hn1) (by rw [← hlend]; exact fam_lendO hF1)
  have hargs : (yv l :: caps).toArray = #[.func (.yield l) #[] #[]] ++ caps.toArray := by simp [yv]
  rw [hargs] at hcall
  refine callsIn_wide.2 (Calls.mono hcall ?_)
  rintro e W2 ⟨ns, hns, rfl, hp⟩
  have hl0 := (hp.holds 0 _ rfl).obj _ _ rfl
  have hl2 : W2.heap[l]? = some (.loop (recL (stL pe) pe fn a.tmps ps asg bd w.heap.size)) := hl0
  have hp1 := post_frameO (nx := s.nx + 1) (out := some (loopB l (recL (stL pe) pe fn a.tmps ps asg bd w.heap.size)) :: out ns) hm1 ha1 (ps := (0, false) :: shP psl) (by simp [shP]; exact hlen ns hns) (by rw [hlend]; exact hp)
  rw [apply_sh] at hp1
  obtain ⟨W4, hW4⟩ : ∃ W4, W2.putObj l (.loop { recL (stL pe) pe fn a.tmps ps asg bd w.heap.size with state := .exhausted }) = W4 := ⟨_, rfl⟩
  have hoth : ∀ q, q ≠ l → W4.heap[q]? = W2.heap[q]? := fun q hq => by rw [← hW4]; exact World.putObj_heap_other hq
  have hsz4 : W4.heap.size = W2.heap.size := by rw [← hW4]; simp [World.putObj]
  have hname : ∀ p b, memApply s.fs.mem (outUpd psl s.nx (out ns)) p = some b → b.name ≠ l := fun p b hb => by
    cases ho : b.own with
    | true => exact hp1.apart (p + 1) 0 b _ (by omega) hb rfl ho
    | false => have h1 := hp1.adv.ro (p + 1) b hb ho; have := (hs.mem p b h1).lt; omega
  have hnames : ∀ q, Owns (memApply s.fs.mem (outUpd psl s.nx (out ns))) q → Owns s.fs.mem q ∨ w.heap.size + 2 ≤ q := fun q hq => by
    obtain ⟨p, b, h1, h2, h3⟩ := hq
    rcases hp1.adv.names q ⟨p + 1, b, h1, h2, h3⟩ with h4 | h4
    · rcases shB_owns h4 with ⟨c, e, _, h5⟩ | h5
      · injection e with e; subst e; exact absurd (h3.trans h5.symm) (hname p b h1)
      · exact .inl h5
    · exact .inr (by omega)
  have hkeep : ∀ q, q < W1.heap.size → q ≠ l → ¬ Owns s.fs.mem q → W4.heap[q]? = W1.heap[q]? := fun q hq hql hno => by
    rw [hoth q hql]
    refine hp1.adv.heap q hq fun ho => ?_
    rcases shB_owns ho with ⟨c, e, _, h5⟩ | h5
    · injection e with e; subst e; exact hql h5.symm
    · exact hno h5
  obtain ⟨hB, D, hD1, hD2, hD3⟩ := hs.defers
  have hfs : (St.mk s.env (outUpd psl s.nx (out ns) ++ s.mem) (s.nx + nb)).fs.mem = memApply s.fs.mem (outUpd psl s.nx (out ns)) := memOf_app _ _
  have hmk : w.heap.size ∉ D := fun h => by
    have := (Array.getElem?_eq_some_iff.1 (hD3 _ h).2.1).1; omega
  have hno0 : ¬ Owns s.fs.mem w.heap.size := fun ⟨p, b, h1, _, h3⟩ => by have := (hs.mem p b h1).lt; omega
  have hsat : Sat ds nt (St.mk s.env (outUpd psl s.nx (out ns) ++ s.mem) (s.nx + nb)).fs { a with defers := [{ target := .collected w.heap.size, args := #[] }] ++ a.defers } W4 := by
    refine ⟨⟨?_, w.heap.size :: D, List.nodup_cons.2 ⟨hmk, hD1⟩, by simp [hD2], fun r hr => ?_⟩, hs.size, hs.env, fun p b hb => ?_, ?_⟩
    · have := hp1.adv.size; omega
    · rw [hfs]
      rcases List.mem_cons.1 hr with rfl | hr
      · refine ⟨hB, (hkeep _ (by omega) (by omega) hno0).trans hK1, fun ho => ?_⟩
        rcases hnames _ ho with h4 | h4
        · exact hno0 h4
        · omega
      · obtain ⟨k1, k2, k3⟩ := hD3 r hr
        have hlt := (Array.getElem?_eq_some_iff.1 k2).1
        refine ⟨k1, ((hkeep r (by omega) (by omega) k3).trans (hold r hlt)).trans k2, fun ho => ?_⟩
        rcases hnames _ ho with h4 | h4
        · exact k3 h4
        · omega
    · rw [hfs] at hb
      exact (hp1.holds (p + 1) b hb).of_heap (by omega) (hoth _ (hname p b hb))
    · rw [hfs]
      exact fun p q b c hpq hb hc ho => hp1.apart (p + 1) (q + 1) b c (by omega) hb hc ho
  have hadv : Adv s.fs.mem w (St.mk s.env (outUpd psl s.nx (out ns) ++ s.mem) (s.nx + nb)).fs.mem W4 := by
    rw [hfs]
    refine ⟨?_, ?_, ?_, ?_, fun q hq hno => ?_, fun q hq => ?_, fun p b hb ho => hp1.adv.ro (p + 1) b hb ho⟩
    · rw [← hW4]; exact hp1.adv.os.trans (by rw [← hW1]; rfl)
    · rw [← hW4]; exact hp1.adv.output.trans (by rw [← hW1]; rfl)
    · rw [← hW4]; exact hp1.adv.tape.trans (by rw [← hW1]; rfl)
    · have := hp1.adv.size; omega
    · exact (hkeep q (by omega) (by omega) hno).trans (hold q hq)
    · rcases hnames q hq with h4 | h4
      · exact .inl h4
      · exact .inr (by omega)
  have hend : (Instr.endLoop l).run P W2 = .ok pe W4 := by
    have := run_endLoop (P := P) hl2 (by cases pe <;> simp [recL, stL])
    rw [← hW4]; exact this
  refine ⟨pe, W4, hend, ?_⟩
  rcases hpe with ⟨rfl, rfl⟩ | ⟨rfl, rfl⟩ | ⟨id, rfl, rfl⟩
  · exact ⟨_, ⟨ns, hns, rfl, rfl⟩, hsat, hadv⟩
  · exact wpIn_wide.2 (wp_ret ⟨_, ⟨ns, hns, rfl, rfl⟩, hsat, hadv⟩)
  · exact wpIn_wide.2 (wp_exit ⟨_, ⟨ns, hns, rfl, rfl⟩, hsat, hadv⟩)
theorem lmS {o : Option Blk} {r : List (Option Blk)} (p : Nat) : listMem (o :: r) (p + 1) = listMem r p := by simp [listMem]
theorem optMem_look : ∀ (l : List (Option Blk)) (i p : Nat), memOf (optMem l i) p = if i ≤ p then listMem l (p - i) else none
  | [], i, p => by simp [optMem, memOf, look, listMem]
  | b :: r, i, p => by
    have := optMem_look r (i + 1) p
    simp only [memOf] at this
    simp only [optMem, memOf, look_cons]
    by_cases hip : i = p
    · subst hip; simp [listMem]
    · simp only [hip, if_false]
      rw [this]
      by_cases hle : i ≤ p
      · rw [if_pos hle, if_pos (by omega), show p - i = (p - (i + 1)) + 1 by omega]; simp [listMem]
      · rw [if_neg hle, if_neg (by omega)]
theorem startO_mem (env : List (Nat × EV)) (bs : List (Option Blk)) : (St.mk env (optMem bs 0) bs.length).fs.mem = listMem bs := by
  funext p
  show memOf (optMem bs 0) p = _
  rw [optMem_look]; simp
theorem putObj_self {w : World} {l : Nat} {o : Obj} (h : l < w.heap.size) : (w.putObj l o).heap[l]? = some o := World.putObj_heap_same h
def Free (l : Nat) (m : Nat → Option Blk) : Prop := ∀ p b, m p = some b → b.name ≠ l
theorem Free.adv {l : Nat} {m m' : Nat → Option Blk} {w w' : World} (h : Free l m) (hl : l < w.heap.size) (ha : Adv m w m' w') : Free l m' := fun p b hb e => by
  cases ho : b.own with
  | true =>
    rcases ha.names l ⟨p, b, hb, ho, e⟩ with ⟨q, c, h1, _, h3⟩ | h1
    · exact h q c h1 h3
    · omega
  | false => exact h p b (ha.ro p b hb ho) e
theorem Free.owns {l : Nat} {m : Nat → Option Blk} (h : Free l m) : ¬ Owns m l := fun ⟨p, b, h1, _, h3⟩ => h p b h1 h3
theorem Sat.put {nt : Nat} {s : FSt} {a : Act} {w : World} (h : Sat ds nt s a w) {l : Nat} {L : Loop} {o : Obj} (hl : w.heap[l]? = some (.loop L)) (hf : Free l s.mem) : Sat ds nt s a (w.putObj l o) := by
  refine ⟨?_, h.size, h.env, fun p b hb => (h.mem p b hb).of_heap (by simp [World.putObj]) (World.putObj_heap_other (hf p b hb)), h.apart⟩
  obtain ⟨h0, D, h1, h2, h3⟩ := h.defers
  refine ⟨by simpa [World.putObj] using h0, D, h1, h2, fun r hr => ?_⟩
  obtain ⟨k1, k2, k3⟩ := h3 r hr
  have hne : r ≠ l := fun e => by subst e; rw [hl] at k2; cases k2
  exact ⟨k1, (World.putObj_heap_other hne).trans k2, k3⟩
def YRuns (F : Blk → Prop) (P : Program) (l : Nat) (args : List Value) (bs : List (Option Blk)) (k : Nat) (v : List Nat → Value) (out : List Nat → List (Option Blk)) : Prop :=
  ∀ w, (∀ p b, listMem bs p = some b → Holds b w) → Apart (listMem bs) → Fam F (listMem bs) w →
    ∃ fn tmps asg bd, (Instr.yield l args.toArray).run P w = .ok (.round l fn tmps asg bd) w ∧ ∀ m, RoundIn Fence.wide m P l fn tmps asg bd w fun e w' =>
      ∃ ns, ns.length = k ∧ e = .returned (v ns) ∧ Post (listMem bs) w (listMem (out ns)) w'
def parEnv : List Tmp → List Value → List (Nat × EV)
  | p :: ps, x :: xs => (p, .v x) :: parEnv ps xs
  | _, _ => []
theorem fold_get (nt : Nat) : ∀ (ps : List Tmp) (xs : List Value) (tm : Array Value) (t : Nat) (e : EV), ps.Nodup → (∀ p ∈ ps, p < tm.size) → look (parEnv ps xs) t = some e → ((ps.zip xs).foldl (fun t (p, v) => t.setIfInBounds p v) tm)[t]? = some e.den
  | [], xs, tm, t, e, _, _, h => by cases h
  | p :: ps, [], tm, t, e, _, _, h => by cases h
  | p :: ps, x :: xs, tm, t, e, hn, hp, h => by
    rw [List.nodup_cons] at hn
    simp only [List.zip_cons_cons, List.foldl_cons]
    by_cases hin : ∃ e', look (parEnv ps xs) t = some e'
    · obtain ⟨e', he'⟩ := hin
      have hmem : ∀ (qs : List Tmp) (ys : List Value) (t : Nat) (e : EV), look (parEnv qs ys) t = some e → t ∈ qs := by
        intro qs
        induction qs with
        | nil => intro ys t e h; cases h
        | cons q qs ih =>
          intro ys t e h
          cases ys with
          | nil => cases h
          | cons y ys =>
            rw [parEnv, look_cons] at h
            split at h
            · rename_i e1; subst e1; simp
            · exact List.mem_cons_of_mem _ (ih ys t e h)
      have htp : p ≠ t := fun e1 => hn.1 (by subst e1; exact hmem ps xs _ _ he')
      rw [parEnv, look_cons, if_neg htp] at h
      exact fold_get nt ps xs _ t e hn.2 (fun q hq => by simpa using hp q (by simp [hq])) h
    · rw [parEnv, look_cons] at h
      have key : ∀ (qs : List Tmp) (ys : List Value) (tm : Array Value), look (parEnv qs ys) t = none → ((qs.zip ys).foldl (fun t (p, v) => t.setIfInBounds p v) tm)[t]? = tm[t]? := by
        intro qs
        induction qs with
        | nil => intro ys tm _; rfl
        | cons q qs ih =>
          intro ys tm hq
          cases ys with
          | nil => rfl
          | cons y ys =>
            rw [parEnv, look_cons] at hq
            split at hq
            · cases hq
            · rename_i hne
              simp only [List.zip_cons_cons, List.foldl_cons]
              rw [ih ys _ hq, Array.getElem?_setIfInBounds_ne hne]
      have hnone : look (parEnv ps xs) t = none := by
        cases hk : look (parEnv ps xs) t with
        | none => rfl
        | some e' => exact absurd ⟨e', hk⟩ hin
      rw [key ps xs _ hnone]
      split at h
      · rename_i e1; subst e1
        injection h with h; subst h
        rw [Array.getElem?_setIfInBounds_self_of_lt (hp p (by simp))]; rfl
      · rw [hnone] at h; cases h
theorem fold_old : ∀ (ps : List Tmp) (xs : List Value) (tm : Array Value) (t : Nat), look (parEnv ps xs) t = none → ps.length ≤ xs.length → ((ps.zip xs).foldl (fun t (p, v) => t.setIfInBounds p v) tm)[t]? = tm[t]?
  | [], xs, tm, t, _, _ => rfl
  | p :: ps, [], tm, t, _, h => by simp at h
  | p :: ps, x :: xs, tm, t, hq, hl => by
    rw [parEnv, look_cons] at hq
    split at hq
    · cases hq
    · rename_i hne
      simp only [List.zip_cons_cons, List.foldl_cons]
      rw [fold_old ps xs _ t hq (by simpa using hl), Array.getElem?_setIfInBounds_ne hne]
theorem fold_size : ∀ (ps : List Tmp) (xs : List Value) (tm : Array Value), ((ps.zip xs).foldl (fun t (p, v) => t.setIfInBounds p v) tm).size = tm.size
  | [], _, _ => rfl
  | _ :: _, [], _ => rfl
  | p :: ps, x :: xs, tm => by simp only [List.zip_cons_cons, List.foldl_cons]; rw [fold_size ps xs]; simp
theorem look_app (l r : List (Nat × EV)) (t : Nat) : look (l ++ r) t = match look l t with
    | some e => some e
    | none => look r t := by
  induction l with
  | nil => rfl
  | cons x l ih =>
    obtain ⟨q, b⟩ := x
    simp only [List.cons_append, look_cons]
    by_cases h : q = t
    · simp [h]
    · simp only [h, if_false]; exact ih
def roundFin (mk : LoopState → Option Code → Blk) (ps : List Nat) (k : Nat) (v : List Nat → Value) (out : List Nat → List (Option Blk)) (nb : Nat) : Exit → St → Prop := fun e s => match e with
  | .normal => ∃ ns, ns.length = k ∧ Value.bool true = v ns ∧ some (mk .ready none) :: outOf s (List.range nb ++ ps) = out ns
  | .ret => ∃ ns, ns.length = k ∧ Value.bool false = v ns ∧ some (mk .done (some .ret)) :: outOf s (List.range nb ++ ps) = out ns
  | .exit id => ∃ ns, ns.length = k ∧ Value.bool false = v ns ∧ some (mk .done (some (.exit id))) :: outOf s (List.range nb ++ ps) = out ns
  | _ => False
theorem yruns_of_ev {F : Blk → Prop} {P : Program} {nt l D : Nat} {fn : FuncId} {tm : Array Value} {pars : Array Tmp} {asg bd : Code} {env : List (Nat × EV)} {args : List Value} {bs : List (Option Blk)} {k : Nat} {v : List Nat → Value}
    {out : List Nat → List (Option Blk)} (hmix : P.follows .mixedOrders = true) (htm : TmOk nt (fun t => look env t) tm) (hpn : pars.toList.Nodup) (hlen : args.length = pars.size) (hlt : ∀ p ∈ pars.toList, p < nt)
    (hC1 : okCd asg = true) (hC2 : okCd bd = true) (n : Nat) (h : H) (ps : List Nat) (hps : (nodupL (List.range bs.length ++ ps) && ps.all (fun p => Nat.ble bs.length p)) = true)
    (hev : evF F P nt n false asg ⟨parEnv pars.toList args ++ env, optMem bs 0, bs.length⟩ h fun e s h' => match e with
      | .normal => evF F P nt n false bd s h' fun e s _ => roundFin (fun st pe => loopB l (recL st pe fn tm pars asg bd D)) ps k v out bs.length e s
      | _ => False) :
    YRuns F P l args (some (loopB l (recL .ready none fn tm pars asg bd D)) :: bs) k v out := by
  intro w hm ha hF
  simp only [Bool.and_eq_true, List.all_eq_true] at hps
  have hl : w.heap[l]? = some (.loop (recL .ready none fn tm pars asg bd D)) := (hm 0 _ rfl).obj _ _ rfl
  have hlw : l < w.heap.size := (Array.getElem?_eq_some_iff.1 hl).1
  have hmem : (St.mk (parEnv pars.toList args ++ env) (optMem bs 0) bs.length).fs.mem = listMem bs := startO_mem _ _
  have hfree : Free l (listMem bs) := fun p b hb e => ha 0 (p + 1) _ b (by omega) rfl (by rw [lmS]; exact hb) rfl e.symm
  have hfold : (pars.zip args.toArray).foldl (fun t (p, v) => t.setIfInBounds p v) tm = (pars.toList.zip args).foldl (fun t (p, v) => t.setIfInBounds p v) tm := by
    rw [← Array.foldl_toList]; simp
  have hs : Sat 0 nt (St.mk (parEnv pars.toList args ++ env) (optMem bs 0) bs.length).fs { tmps := (pars.zip args.toArray).foldl (fun t (p, v) => t.setIfInBounds p v) tm, defers := [] } w := by
    rw [hfold]
    refine ⟨.none (Nat.zero_le _), (fold_size _ _ _).trans htm.1, fun t e ht => ?_, fun p b hb => ?_, ?_⟩
    · have ht2 : look (parEnv pars.toList args ++ env) t = some e := ht
      rw [look_app] at ht2
      cases hk : look (parEnv pars.toList args) t with
      | some e' => rw [hk] at ht2; injection ht2 with ht2; subst ht2; exact fold_get nt _ _ _ t _ hpn (fun p hp => by rw [htm.1]; exact hlt p hp) hk
      | none => rw [hk] at ht2; exact (fold_old _ _ _ t hk (by simp [hlen])).trans (htm.2 t e ht2)
    · rw [hmem] at hb; exact hm (p + 1) b (by rw [lmS]; exact hb)
    · rw [hmem]; exact fun p q b c hpq hb hc ho => ha (p + 1) (q + 1) b c (by omega) (by rw [lmS]; exact hb) (by rw [lmS]; exact hc) ho
  have hF0 : Fam F (St.mk (parEnv pars.toList args ++ env) (optMem bs 0) bs.length).fs.mem w := fun b hb => by
    obtain ⟨h1, h2, h3⟩ := hF b hb
    rw [hmem]
    exact ⟨h1, h2, fun ⟨p, c, k1, k2, k3⟩ => h3 ⟨p + 1, c, by rw [lmS]; exact k1, k2, k3⟩⟩
  have hFl : ∀ b, F b → b.name ≠ l := fun b hb e => (hF b hb).2.2 ⟨0, _, rfl, rfl, e.symm⟩
  refine ⟨fn, _, asg, bd, run_yield hl (by simpa [recL] using hlen), fun m => roundIn_of_wpIn trivial ?_⟩
  refine wpIn_mono (evIn_sound (l := l) hmix n asg _ h _ _ w (fun _ _ h => h) hC1 hev hs hF0) ?_
  rintro e a1 w1 ⟨s1, h1, hK1, hS1, hA1⟩
  cases e with
  | normal =>
    rw [hmem] at hA1
    have hl1 : w1.heap[l]? = some (.loop (recL .ready none fn tm pars asg bd D)) := (hA1.heap l hlw hfree.owns).trans hl
    have hf1 := hfree.adv hlw hA1
    obtain ⟨w2, hw2⟩ : ∃ w2, w1.putObj l (.loop { recL .ready none fn tm pars asg bd D with state := .busy }) = w2 := ⟨_, rfl⟩
    have hlw1 : l < w1.heap.size := (Array.getElem?_eq_some_iff.1 hl1).1
    have hl2 : w2.heap[l]? = some (.loop { recL .ready none fn tm pars asg bd D with state := .busy }) := by rw [← hw2]; exact putObj_self hlw1
    have hS2 : Sat 0 nt s1.fs a1 w2 := by rw [← hw2]; exact hS1.put hl1 hf1
    have hF2 : Fam F s1.fs.mem w2 := fun b hb => by
      obtain ⟨k1, k2, k3⟩ := hF0.adv (hmem ▸ hA1) b hb
      exact ⟨k1.of_heap (by rw [← hw2]; simp [World.putObj]) (by rw [← hw2]; exact World.putObj_heap_other (hFl b hb)), k2, k3⟩
    refine ⟨w2, by rw [← hw2]; exact run_beginRound hl1 rfl, ?_⟩
    refine wpIn_mono (evIn_sound (l := l) hmix n bd s1 h1 _ a1 w2 (fun _ _ h => h) hC2 hK1 hS2 hF2) ?_
    have hsz2 : w2.heap.size = w1.heap.size := by rw [← hw2]; simp [World.putObj]
    have oth2 : ∀ q, q ≠ l → w2.heap[q]? = w1.heap[q]? := fun q hq => by rw [← hw2]; exact World.putObj_heap_other hq
    have fin : ∀ (jump : Option Code) (a3 : Act) (w3 : World) (s2 : St), Sat 0 nt s2.fs a3 w3 → Adv s1.fs.mem w2 s2.fs.mem w3 →
        (Instr.endRound l jump).run P w3 = .ok (.bool jump.isNone) (w3.putObj l (.loop (recL (stL jump) jump fn tm pars asg bd D))) ∧
        Post (listMem (some (loopB l (recL .ready none fn tm pars asg bd D)) :: bs)) w (listMem (some (loopB l (recL (stL jump) jump fn tm pars asg bd D)) :: outOf s2 (List.range bs.length ++ ps))) (w3.putObj l (.loop (recL (stL jump) jump fn tm pars asg bd D))) := fun jump a3 w3 s2 hS3 hA3 => by
      have hl3 : w3.heap[l]? = some (.loop { recL .ready none fn tm pars asg bd D with state := .busy }) := (hA3.heap l (by omega) hf1.owns).trans hl2
      have hlw3 := (Array.getElem?_eq_some_iff.1 hl3).1
      have hf3 := hf1.adv (by omega) hA3
      obtain ⟨w4, hw4⟩ : ∃ w4, w3.putObj l (.loop (recL (stL jump) jump fn tm pars asg bd D)) = w4 := ⟨_, rfl⟩
      have oth4 : ∀ q, q ≠ l → w4.heap[q]? = w3.heap[q]? := fun q hq => by rw [← hw4]; exact World.putObj_heap_other hq
      have hsz4 : w4.heap.size = w3.heap.size := by rw [← hw4]; simp [World.putObj]
      refine ⟨?_, ?_⟩
      · have := run_endRound (P := P) jump hl3
        rw [this]
        cases jump <;> rfl
      rw [hw4]
      have hnm : ∀ q, Owns s2.fs.mem q → Owns (listMem bs) q ∨ w.heap.size ≤ q := fun q hq => by
        rcases hA3.names q hq with h4 | h4
        · exact hA1.names q h4
        · right; have := hA1.size; omega
      have hget : ∀ p b, listMem (some (loopB l (recL (stL jump) jump fn tm pars asg bd D)) :: outOf s2 (List.range bs.length ++ ps)) (p + 1) = some b → ∃ q, (List.range bs.length ++ ps)[p]? = some q ∧ s2.fs.mem q = some b := fun p b hb => by
        rw [lmS] at hb; exact outOf_get hb
      refine ⟨fun p b hb => ?_, fun p q b c hpq hb hc ho => ?_, ⟨?_, ?_, ?_, ?_, fun q hq hno => ?_, fun q hq => ?_, fun p b hb ho => ?_⟩⟩
      · cases p with
        | zero => injection hb with hb; subst hb; exact loopB_holds (by rw [← hw4]; exact putObj_self hlw3)
        | succ p =>
          obtain ⟨q, _, hq⟩ := hget p b hb
          exact (hS3.mem q b hq).of_heap (by omega) (oth4 _ (hf3 q b hq))
      · cases p with
        | zero =>
          cases q with
          | zero => exact absurd rfl hpq
          | succ q =>
            injection hb with hb; subst hb
            obtain ⟨x, _, hx⟩ := hget q c hc
            exact fun e => hf3 x c hx e.symm
        | succ p =>
          obtain ⟨x, hx1, hx2⟩ := hget p b hb
          cases q with
          | zero => injection hc with hc; subst hc; exact hf3 x b hx2
          | succ q =>
            obtain ⟨y, hy1, hy2⟩ := hget q c hc
            exact hS3.apart x y b c (nodupL_get hps.1 p q x y hx1 hy1 (by omega)) hx2 hy2 ho
      · rw [← hw4]; exact hA3.os.trans ((by rw [← hw2]; rfl : w2.os = w1.os).trans hA1.os)
      · rw [← hw4]; exact hA3.output.trans ((by rw [← hw2]; rfl : w2.output = w1.output).trans hA1.output)
      · rw [← hw4]; exact hA3.tape.trans ((by rw [← hw2]; rfl : w2.tape = w1.tape).trans hA1.tape)
      · have := hA1.size; have := hA3.size; omega
      · have hql : q ≠ l := fun e => hno ⟨0, _, rfl, rfl, e.symm⟩
        have hnb : ¬ Owns (listMem bs) q := fun ⟨p, b, k1, k2, k3⟩ => hno ⟨p + 1, b, by rw [lmS]; exact k1, k2, k3⟩
        have hn1 : ¬ Owns s1.fs.mem q := fun ho => by
          rcases hA1.names q ho with h4 | h4
          · exact hnb h4
          · omega
        have := hA1.size
        exact (oth4 q hql).trans ((hA3.heap q (by omega) hn1).trans ((oth2 q hql).trans (hA1.heap q hq hnb)))
      · obtain ⟨p, b, hb, ho, rfl⟩ := hq
        cases p with
        | zero => injection hb with hb; subst hb; exact .inl ⟨0, _, rfl, rfl, rfl⟩
        | succ p =>
          obtain ⟨x, _, hx2⟩ := hget p b hb
          rcases hnm b.name ⟨x, b, hx2, ho, rfl⟩ with ⟨y, c, k1, k2, k3⟩ | h4
          · exact .inl ⟨y + 1, c, by rw [lmS]; exact k1, k2, k3⟩
          · exact .inr h4
      · cases p with
        | zero => injection hb with hb; subst hb; cases ho
        | succ p =>
          obtain ⟨x, hx1, hx2⟩ := hget p b hb
          have hro := hA1.ro x b (hA3.ro x b hx2 ho) ho
          have hx : x = p := by
            by_cases hi : p < bs.length
            · rw [List.getElem?_append_left (by simpa using hi), List.getElem?_range hi] at hx1
              injection hx1 with hx1; exact hx1.symm
            · rw [List.getElem?_append_right (by simp; omega)] at hx1
              have := Nat.le_of_ble_eq_true (hps.2 x (List.mem_of_getElem? hx1))
              have : bs[x]? = none := List.getElem?_eq_none (by omega)
              simp [listMem, this] at hro
          subst hx
          rw [lmS]; exact hro
    rintro e a3 w3 ⟨s2, h2, hK2, hS3, hA3⟩
    cases e with
    | normal =>
      obtain ⟨ns, hns, hv, ho⟩ := hK2
      obtain ⟨f1, f2⟩ := fin none a3 w3 s2 hS3 hA3
      exact ⟨_, _, f1, ns, hns, by rw [← hv]; rfl, by rw [← ho]; exact f2⟩
    | ret =>
      obtain ⟨ns, hns, hv, ho⟩ := hK2
      obtain ⟨f1, f2⟩ := fin (some .ret) a3 w3 s2 hS3 hA3
      exact ⟨_, _, f1, ns, hns, by rw [← hv]; rfl, by rw [← ho]; exact f2⟩
    | exit id =>
      obtain ⟨ns, hns, hv, ho⟩ := hK2
      obtain ⟨f1, f2⟩ := fin (some (.exit id)) a3 w3 s2 hS3 hA3
      exact ⟨_, _, f1, ns, hns, by rw [← hv]; rfl, by rw [← ho]; exact f2⟩
    | _ => exact hK2.elim
  | _ => exact hK1.elim
theorem rows_wide {n : Nat} {P : Program} {row : String} {args : Array Value} {w : World} {R : Value → World → Prop} (h : Rows P row args w R) : RowsIn Fence.wide n P row args w R :=
  fun c cs _ => let ⟨v, w', r, s⟩ := h c cs; ⟨v, w', r, (stepsIn_wide (P := P)).2 s⟩
theorem op_wide {n : Nat} {P : Program} {o : Oper} {a : Act} {w : World} {K : Act → World → Prop} {Q : Exit → Act → World → Prop} (hd : ∀ c, o.op ≠ .defer c) (hQ : ¬ LetsOut Q)
    (h : o.wp P a w K Q ∨ (o.asks P a w ∧ LetsOut Q)) : o.wpIn Fence.wide n P a w K Q := by
  have h := h.resolve_right fun h => hQ h.2
  refine ⟨fun _ _ => trivial, ?_⟩
  rw [Oper.semAt_eq _ _ _ hd]
  unfold Oper.wp at h
  generalize (execOp a.eval o).run P w = r at h ⊢
  unfold Oper.upon at h
  unfold Oper.uponIn
  split at h
  · exact h
  · exact h
  · exact h
  · exact ⟨fun h => by simp [Fence.wide] at h, callsIn_wide.2 h⟩
  · exact ⟨fun h => by simp [Fence.wide] at h, rows_wide h⟩
  · exact h
  · exact h.elim
theorem wpOp_wide {n : Nat} {P : Program} {ops : Array Oper} {Q : Exit → Act → World → Prop} {i : Nat} {K : Act → World → Prop} {a : Act} {w : World} (hd : noDefer ops = true) (hQ : ¬ LetsOut Q)
    (h : wpOp P ops Q i K a w) : wpOpIn Fence.wide n P ops Q i K a w := by
  unfold wpOp at h
  unfold wpOpIn
  cases ho : ops[i]? with
  | none => rw [ho] at h; exact h
  | some o =>
    rw [ho] at h
    simp only at h ⊢
    split at h
    · rename_i hw; rw [if_pos hw]; exact op_wide (noDefer_get hd ho) hQ h
    · rename_i hw; rw [if_neg hw]; exact ⟨fun _ _ => trivial, h⟩
def chainW (n : Nat) (P : Program) (ops : Array Oper) (Q : Exit → Act → World → Prop) : List Nat → (Act → World → Prop) → Act → World → Prop
  | [], K, a, w => K a w
  | i :: r, K, a, w => wpOpIn Fence.wide n P ops Q i (chainW n P ops Q r K) a w
theorem chain_app {n : Nat} {P : Program} {ops : Array Oper} {Q : Exit → Act → World → Prop} : ∀ (is js : List Nat) (a : Act) (w : World), chainW n P ops Q is (wpOpsIn Fence.wide n P ops Q js) a w → wpOpsIn Fence.wide n P ops Q (is ++ js) a w
  | [], _, _, _, h => h
  | i :: r, js, a, w, h => by
    show wpOpsIn Fence.wide n P ops Q (i :: (r ++ js)) a w
    rw [wpOpsIn_cons]
    exact wpOpIn_mono (fun a w => chain_app r js a w) h
theorem seq_chain {F : Blk → Prop} {P : Program} {ops : Array Oper} {nt m : Nat} {Q : Exit → Act → World → Prop} {K : Act → World → Prop} (hd : noDefer ops = true) (hQ : ¬ LetsOut Q) : ∀ (ks : (List (Nat × OpH))) {s : St} {a : Act} {w : World}, Sat ds nt s.fs a w → Fam F s.fs.mem w →
    (∀ ns, ns.length = nnL ks → ∃ vc s', evSeq F P ops nt ks ns s = some (vc, s') ∧ vc) →
    (∀ ns vc s' a' w', ns.length = nnL ks → evSeq F P ops nt ks ns s = some (vc, s') → vc → Sat ds nt s'.fs a' w' → Adv s.fs.mem w s'.fs.mem w' → K a' w') →
    chainW m P ops Q (ks.map (·.1)) K a w
  | [], s, a, w, hs, hF, hall, hK => hK [] True s a w rfl rfl trivial hs (.refl _ _)
  | (i, h) :: ks, s, a, w, hs, hF, hall, hK => by
    obtain ⟨vc, s', hev, hvc⟩ := hall (List.replicate _ 0) List.length_replicate
    obtain ⟨o, vc1, e, vc2, ho, hok, he, hr, hv⟩ := evSeq_cons hev
    show wpOpIn Fence.wide m P ops Q i (chainW m P ops Q (ks.map (·.1)) K) a w
    refine wpOp_wide hd hQ (op_sound (nx := s.nx) (h := h) ho hs hF (opOk_sel hok) (fun ns hns => ?_) (fun ns vc1' e' w' hns hev' hvc1 hp => ?_))
    · obtain ⟨vc, s', hev, hvc⟩ := hall (ns ++ List.replicate (nnL ks) 0) (by simp [nnL, hns])
      obtain ⟨o', vc1, e, vc2, ho', hok, he, hr, rfl⟩ := evSeq_cons hev
      rw [ho] at ho'; injection ho' with ho'; subst ho'
      rw [List.take_left' hns] at he
      exact ⟨vc1, e, he, hvc.1⟩
    · have hsat := sat_apply hs (opOk_dst hok) hp
      rw [← St.fs_apply s o.dst e' h.nb] at hsat
      have hmem : (s.apply o.dst e' h.nb).fs.mem = memApply s.fs.mem e'.upd := by rw [St.fs_apply]; rfl
      refine seq_chain hd hQ ks hsat (hmem ▸ hF.adv hp.adv) (fun ns2 hns2 => ?_) (fun ns2 vc2 s2 a2 w2 hns2 hev2 hvc2 hsat2 hadv2 => ?_)
      · obtain ⟨vc, s', hev, hvc⟩ := hall (ns ++ ns2) (by simp [nnL, hns, hns2])
        obtain ⟨o', vc1, e, vc2, ho', hok, he, hr, rfl⟩ := evSeq_cons hev
        rw [ho] at ho'; injection ho' with ho'; subst ho'
        rw [List.take_left' hns, hev'] at he
        injection he with he; injection he with h1 h2; subst h2
        rw [List.drop_left' hns] at hr
        exact ⟨vc2, s', hr, hvc.2⟩
      · refine hK (ns ++ ns2) (vc1' ∧ vc2) s2 a2 w2 (by simp [nnL, hns, hns2]) ?_ ⟨hvc1, hvc2⟩ hsat2 ((hp.adv).trans (hmem ▸ hadv2))
        exact evSeq_mk ho hok (by rw [List.take_left' hns]; exact hev') (by rw [List.drop_left' hns]; exact hev2)
theorem awp_yield {F : Blk → Prop} {P : Program} {nt id : Nat} {ops : Array Oper} {s s1 : St} {ks1 ks2 : List (Nat × OpH)} {i : Nat} {o : Oper} {vc1 : Prop} {l : Nat} {args : List Value} {psl : List (Nat × Bool)} {k nb : Nat}
    {v : List Nat → Value} {out : List Nat → List (Option Blk)} (hd : noDefer ops = true) (hidx : ks1.map (·.1) ++ i :: ks2.map (·.1) = List.range ops.size) (hn1 : nnL ks1 = 0) (hn2 : nnL ks2 = 0)
    (he1 : evSeq F P ops nt ks1 [] s = some (vc1, s1)) (hv1 : vc1) (ho : ops[i]? = some o) (hok : opOk nt o = true) (hg : o.guard = none) (hk : known s1.fs.env o.op.operands.toList = true) (hc : conds s1.fs.env o.op.operands.toList)
    (hex : ∀ w, (execOp (rho s1.fs.env) o).run P w = (Instr.yield l args.toArray).run P w) (hn : nodupPs psl = true) (hlen : ∀ ns, ns.length = k → psl.length ≤ (out ns).length) (hy : YRuns F P l args (lendO s1.fs.mem psl) k v out)
    (vc2 : List Nat → Prop) (s2 : List Nat → St) (he2 : ∀ ns, ns.length = k → evSeq F P ops nt ks2 [] (s1.apply o.dst ⟨.v (v ns), outUpd psl s1.nx (out ns)⟩ nb) = some (vc2 ns, s2 ns) ∧ vc2 ns) :
    AWPF F ds P nt (.region id ops false) s (fun e s' => ∃ ns : List Nat, ns.length = k ∧ e = .normal ∧ s' = s2 ns) := by
  intro a w hs hF
  have hQ : ¬ LetsOut (fun e a' w' => ∃ s', (∃ ns : List Nat, ns.length = k ∧ e = Exit.normal ∧ s' = s2 ns) ∧ Sat ds nt s'.fs a' w' ∧ Adv s.fs.mem w s'.fs.mem w') := fun ⟨_, _, _, ⟨_, _, h, _⟩, _⟩ => by cases h
  refine (wpIn_wide (n := 1)).1 (wpIn_region ?_)
  rw [← hidx]
  refine chain_app _ _ _ _ (seq_chain hd hQ ks1 hs hF (fun ns hns => ?_) fun ns vc s' a1 w1 hns hev _ hS1 hA1 => ?_)
  · have : ns = [] := List.eq_nil_of_length_eq_zero (by omega)
    subst this; exact ⟨vc1, s1, he1, hv1⟩
  have hnil : ns = [] := List.eq_nil_of_length_eq_zero (by omega)
  subst hnil
  rw [he1] at hev
  injection hev with hev; injection hev with _ hs'; subst hs'
  have hF1 := hF.adv hA1
  obtain ⟨fn, tmps, asg, bd, hrun, hR⟩ := hy w1 (lendO_holds hS1.mem) (lendO_apart hS1.apart hn) (fam_lendO hF1)
  rw [wpOpsIn_cons]
  unfold wpOpIn
  rw [ho]
  have hw : Region.wanted o (yielded ops a1.tmps) = true := by unfold Region.wanted; rw [hg]
  simp only [hw, if_true]
  refine ⟨fun _ _ => trivial, ?_⟩
  rw [Oper.semAt_eq _ _ _ (noDefer_get hd ho), exec_eq hS1 (opOk_sel hok) hk hc, hex, hrun]
  refine ⟨fun h => by simp [Fence.wide] at h, (hR _).mono ?_⟩
  rintro e w2 ⟨ns, hns, rfl, hp⟩
  have hp2 := post_frameO (nx := s1.nx) hS1.mem hS1.apart (hlen ns hns) hp
  have hS2 := sat_apply (dst := o.dst) (e := ⟨.v (v ns), outUpd psl s1.nx (out ns)⟩) hS1 (opOk_dst hok) hp2
  rw [← St.fs_apply s1 o.dst _ nb] at hS2
  have hmem : (s1.apply o.dst ⟨.v (v ns), outUpd psl s1.nx (out ns)⟩ nb).fs.mem = memApply s1.fs.mem (outUpd psl s1.nx (out ns)) := by rw [St.fs_apply]; rfl
  obtain ⟨he3, hv3⟩ := he2 ns hns
  have := chain_app (n := 1) (P := P) (ops := ops) (Q := fun e a' w' => ∃ s', (∃ ns : List Nat, ns.length = k ∧ e = Exit.normal ∧ s' = s2 ns) ∧ Sat ds nt s'.fs a' w' ∧ Adv s.fs.mem w s'.fs.mem w') (ks2.map (·.1)) [] (a1.put o.dst (v ns)) w2
    (seq_chain hd hQ ks2 hS2 (hmem ▸ hF1.adv hp2.adv) (fun ns2 hns2 => ?_) fun ns2 vc s' a3 w3 hns2 hev _ hS3 hA3 => ?_)
  · rw [List.append_nil] at this; exact this
  · have : ns2 = [] := List.eq_nil_of_length_eq_zero (by omega)
    subst this; exact ⟨_, _, he3, hv3⟩
  · have : ns2 = [] := List.eq_nil_of_length_eq_zero (by omega)
    subst this
    rw [he3] at hev
    injection hev with hev; injection hev with _ hs'; subst hs'
    exact ⟨_, ⟨ns, hns, rfl, rfl⟩, hS3, hA1.trans (hp2.adv.trans (hmem ▸ hA3))⟩
def findReg (id : Nat) : Code → Option Code
  | .region i ops d => match Nat.beq i id with
    | true => some (.region i ops d)
    | false => none
  | .seq a b => match findReg id a with
    | some c => some c
    | none => findReg id b
  | .block _ b => findReg id b
  | .scope b => findReg id b
  | .loop b => findReg id b
  | .cond _ x y => match findReg id x with
    | some c => some c
    | none => findReg id y
  | .rangeFunc _ _ a b => match findReg id a with
    | some c => some c
    | none => findReg id b
  | _ => none
def findRf : Code → List Code
  | .seq a b => findRf a ++ findRf b
  | .block _ b => findRf b
  | .scope b => findRf b
  | .loop b => findRf b
  | .cond _ x y => findRf x ++ findRf y
  | .rangeFunc g p a b => [.rangeFunc g p a b]
  | _ => []
def regC (id : Nat) (c : Option Code) : Code := match c with
  | some c => (findReg id c).getD .skip
  | none => .skip
def rfC (k : Nat) (c : Option Code) : Code := match c with
  | some c => (findRf c).getD k .skip
  | none => .skip
def rfA : Code → Code
  | .rangeFunc _ _ a _ => a
  | _ => .skip
def rfB : Code → Code
  | .rangeFunc _ _ _ b => b
  | _ => .skip
def rfP : Code → Array Tmp
  | .rangeFunc _ p _ _ => p
  | _ => #[]
def rfG : Code → Operand
  | .rangeFunc g _ _ _ => g
  | _ => .func 0
def opsOf : Code → Array Oper
  | .region _ ops _ => ops
  | _ => #[]
def idOf : Code → Nat
  | .region i _ _ => i
  | _ => 0
def isPlain : Code → Bool
  | .region _ _ false => true
  | _ => false
theorem isPlain_eq {c : Code} (h : isPlain c = true) : c = .region (idOf c) (opsOf c) false := by
  unfold isPlain at h
  split at h
  · rfl
  · cases h
def yldOk (c : Code) (nt : Nat) (ks1 : List (Nat × OpH)) (i : Nat) (ks2 : List (Nat × OpH)) (psl : List (Nat × Bool)) : Bool :=
  isPlain c && noDefer (opsOf c) && idxIs (ks1 ++ (i, .g) :: ks2) 0 (opsOf c).size && Nat.beq (nnL ks1) 0 && Nat.beq (nnL ks2) 0 && nodupPs psl && (match (opsOf c)[i]? with
    | some o => opOk nt o && o.guard.isNone
    | none => false)
def evYld (F : Blk → Prop) (P : Program) (nt : Nat) (c : Code) (ks1 : List (Nat × OpH)) (i : Nat) (ks2 : List (Nat × OpH)) (psl : List (Nat × Bool)) (k nb l : Nat) (args : List Value) (v : List Nat → Value) (out : List Nat → List (Option Blk))
    (ts ps : List Nat) (nx : Nat) (S : List Nat → St) (s : St) : Prop := match evSeq F P (opsOf c) nt ks1 [] s with
  | some (vc1, s1) => vc1 ∧ match (opsOf c)[i]? with
    | some o => known s1.fs.env o.op.operands.toList = true ∧ conds s1.fs.env o.op.operands.toList ∧ execOp (rho s1.fs.env) o = Instr.yield l args.toArray ∧
        (∀ ns : List Nat, ns.length = k → Nat.ble psl.length (out ns).length = true) ∧ YRuns F P l args (lendO s1.fs.mem psl) k v out ∧
        ∀ ns : List Nat, ns.length = k → match evSeq F P (opsOf c) nt ks2 [] (s1.apply o.dst ⟨.v (v ns), outUpd psl s1.nx (out ns)⟩ nb) with
          | some (vc2, s2) => vc2 ∧ s2.keep ts ps nx = S ns
          | none => False
    | none => False
  | none => False
theorem awp_yld {F : Blk → Prop} {P : Program} {nt : Nat} {c : Code} {s : St} (ks1 : List (Nat × OpH)) (i : Nat) (ks2 : List (Nat × OpH)) (psl : List (Nat × Bool)) (k nb l : Nat) (args : List Value) (v : List Nat → Value) (out : List Nat → List (Option Blk))
    (ts ps : List Nat) (nx : Nat) (S : List Nat → St) (hok : yldOk c nt ks1 i ks2 psl = true) (hev : evYld F P nt c ks1 i ks2 psl k nb l args v out ts ps nx S s) :
    ∀ ds, AWPF F ds P nt c s (fun e s' => ∃ x : List Nat, x.length = k ∧ e = Exit.normal ∧ Le (S x).fs s'.fs) := by
  intro ds
  unfold yldOk at hok
  simp only [Bool.and_eq_true] at hok
  obtain ⟨⟨⟨⟨⟨⟨h1, h2⟩, h3⟩, h4⟩, h5⟩, h6⟩, h7⟩ := hok
  unfold evYld at hev
  split at hev
  · rename_i vc1 s1 he1
    obtain ⟨hv1, hev⟩ := hev
    split at hev
    · rename_i o ho
      rw [ho] at h7
      simp only [Bool.and_eq_true] at h7
      obtain ⟨k1, k2, k3, k4, k5, k6⟩ := hev
      have hidx := (idxIs_range _ 0 (opsOf c).size h3).1
      rw [Nat.sub_zero, ← List.range_eq_range', List.map_append, List.map_cons] at hidx
      have hg : o.guard = none := by
        cases hg : o.guard with
        | none => rfl
        | some x => rw [hg] at h7; simp at h7
      have key := awp_yield (ds := ds) (F := F) (P := P) (nt := nt) (id := idOf c) (ops := opsOf c) (s := s) (s1 := s1) (ks1 := ks1) (ks2 := ks2) (i := i) (o := o) (l := l) (args := args) (psl := psl) (k := k) (nb := nb) (v := v) (out := out)
        h2 hidx (Nat.eq_of_beq_eq_true h4) (Nat.eq_of_beq_eq_true h5) he1 hv1 ho h7.1 hg k1 k2 (fun w => by rw [k3]) h6 (fun ns hns => Nat.le_of_ble_eq_true (k4 ns hns)) k5
        (fun ns => match evSeq F P (opsOf c) nt ks2 [] (s1.apply o.dst ⟨.v (v ns), outUpd psl s1.nx (out ns)⟩ nb) with | some (vc2, _) => vc2 | none => False)
        (fun ns => match evSeq F P (opsOf c) nt ks2 [] (s1.apply o.dst ⟨.v (v ns), outUpd psl s1.nx (out ns)⟩ nb) with | some (_, s2) => s2 | none => s1)
        (fun ns hns => by
          have := k6 ns hns
          split at this
          · rename_i vc2 s2 he2
            rw [he2]; exact ⟨rfl, this.1⟩
          · exact this.elim)
      rw [isPlain_eq h1]
      intro a w hs hF
      refine wp_mono (key a w hs hF) ?_
      rintro e a' w' ⟨s', ⟨ns, hns, he, rfl⟩, hS, hA⟩
      refine ⟨_, ⟨ns, hns, he, ?_⟩, hS, hA⟩
      have := k6 ns hns
      split at this
      · rename_i vc2 s2 he2
        rw [← this.2]; exact keep_le s2 ts ps nx
      · exact this.elim
    · exact hev.elim
  · exact hev.elim
theorem awp_rf {F : Blk → Prop} {P : Program} {nt : Nat} {c : Code} {s : St} (gf : Nat) (caps : List Value) (psl : List (Nat × Bool)) (k nb : Nat) (v : List Nat → Value) (out : List Nat → List (Option Blk)) (pe : Option Code) (E : Exit)
    (ts ps : List Nat) (nx : Nat) (S : List Nat → St) (hc : c = .rangeFunc (rfG c) (rfP c) (rfA c) (rfB c)) (hg : opdEV s.fs.env (rfG c) = some (.v (.func (.func gf) #[] caps.toArray))) (eg : ∀ args w, (callFunc gf args).run P w = .ok (.enter gf args) w)
    (hn : nodupPs psl = true) (hlen : ∀ ns : List Nat, ns.length = k → Nat.ble psl.length (out ns).length = true) (hpe : pe = none ∧ E = .normal ∨ pe = some .ret ∧ E = .ret ∨ ∃ id, pe = some (.exit id) ∧ E = .exit id)
    (hr : ∀ l D fn tm, TmOk nt s.fs.env tm → RunsO F P gf (yv l :: caps) (some (loopB l (recL .ready none fn tm (rfP c) (rfA c) (rfB c) D)) :: lendO s.fs.mem psl) k v
      (fun ns => some (loopB l (recL (stL pe) pe fn tm (rfP c) (rfA c) (rfB c) D)) :: out ns))
    (hS : ∀ ns : List Nat, ns.length = k → (St.mk s.env (outUpd psl s.nx (out ns) ++ s.mem) (s.nx + nb)).keep ts ps nx = S ns) :
    ∀ ds, AWPF F ds P nt c s (fun e s' => ∃ x : List Nat, x.length = k ∧ e = E ∧ Le (S x).fs s'.fs) := by
  intro ds a w hs hF
  have key := awp_rangeFunc (ds := ds) (nt := nt) (ps := rfP c) (asg := rfA c) (bd := rfB c) hg eg hn (fun ns hns => Nat.le_of_ble_eq_true (hlen ns hns)) hpe nb hr a w hs hF
  rw [← hc] at key
  refine wp_mono key ?_
  rintro e a' w' ⟨s', ⟨ns, hns, he, rfl⟩, hS', hA⟩
  exact ⟨_, ⟨ns, hns, he, hS ns hns ▸ keep_le _ ts ps nx⟩, hS', hA⟩
end Go.Eng
end
section
namespace Go.Proofs.Ytpjllbgipcfedaa
open Go Go.Eng
set_option linter.unusedVariables false
set_option linter.unusedSimpArgs false
set_option maxRecDepth 100000
theorem mT72 : MapT Try.prog 72 3 25 int rowV (fun _ => 0) eqI := int_keys (by kernel_rfl) (by kernel_rfl) fun w => pureRun_run (show pureRun Try.prog (zeroValue 25) = some (rowV fun _ => 0) by kernel_rfl) w
theorem mT73 : MapT Try.prog 73 3 77 int ev0 () eqI := int_keys (by kernel_rfl) (by kernel_rfl) fun w => pureRun_run (show pureRun Try.prog (zeroValue 77) = some (ev0 ()) by kernel_rfl) w
theorem mT78 : MapT Try.prog 78 25 26 rowV u64 0 sR := row_keys (by kernel_rfl) (by kernel_rfl : Try.prog.underlying 25 = some (.array 32 5)) (by kernel_rfl) (by kernel_rfl) fun w => pureRun_run (show pureRun Try.prog (zeroValue 26) = some (u64 0) by kernel_rfl) w
theorem digT : Try.prog.underlying 25 = some (.array 32 5) := by kernel_rfl
theorem digE : Try.prog.underlying 5 = some (.int .u8) := by kernel_rfl
theorem digS : sizeB Try.prog 5 = some 1 := by kernel_rfl
theorem digG : Try.prog.eqGuardType Try.prog.depth 25 = false := by kernel_rfl
theorem times_pure (x y : UInt64) : Pure Try.prog 31 [(u64 x), (u64 y)] (nat4 (mul8 (smallN x) (smallN y)).lo) :=
  pure_of_ev mix Try.func31 rfl rfl 400 (.regn [(0, .new)] (more (fun n1 => fun _ => (.regn [(0, .g), (1, (.call [] 0 0 (fun _ => (Value.agg #[(u64 x), (u64 0), (u64 0), (u64 0)])) (fun _ => []))), (2, .g), (3, (.call [] 0 0 (fun _ => (Value.agg #[(u64 y), (u64 0), (u64 0), (u64 0)])) (fun _ => []))), (4, (.call [] 0 0 (fun _ => (wide8 (mul8 (N4.mk x 0 0 0) (N4.mk y 0 0 0)))) (fun _ => []))), (5, .new), (6, (.st 1 (.lit 0)))] (more (fun n2 => fun _ => (.reg [(0, .g), (1, .g), (2, (.ld 1 (.lit 0))), (3, (.st 0 (.lit 0)))] .done))))))) [(0, 0)]
    (Eq.mp (by kernel_rfl) (fun (n1 : Nat) => And.intro (sk trivial) (fun (n2 : Nat) => And.intro (sk (And.intro (And.intro trivial (small_pure x)) (sk (And.intro (And.intro trivial (small_pure y)) (And.intro (And.intro trivial (mul_pure (N4.mk x 0 0 0) (N4.mk y 0 0 0))) (sk (And.intro (And.intro trivial (ad n2 0)) trivial))))))) (And.intro (sk (sk (And.intro (And.intro trivial (ad n2 0)) (And.intro (And.intro trivial (ad n1 0)) trivial)))) (And.intro (And.intro (@rfl Value (ptr n1 0)) trivial) (@rfl Value (nat4 (mul8 (smallN x) (smallN y)).lo)))))))
theorem great_pure (x y : UInt64) : Pure Try.prog 9 [(u64 x), (u64 y)] (Value.bool (greatU x y)) :=
  pure_of_ev mix Try.func9 rfl rfl 400 (.reg [(0, .g)] (.reg [(0, .g), (1, (.call [] 0 0 (fun _ => (nat4 ((mul8 (smallN x) (smallN 3)).lo))) (fun _ => []))), (2, .g), (3, (.call [] 0 0 (fun _ => (nat4 ((mul8 (smallN y) (smallN 2)).lo))) (fun _ => []))), (4, (.call [] 0 0 (fun _ => (int (cmp4 ((mul8 (smallN x) (smallN 3)).lo) ((mul8 (smallN y) (smallN 2)).lo)))) (fun _ => []))), (5, .g), (6, .g)] .done)) []
    (Eq.mp (by kernel_rfl) (And.intro (sk trivial) (And.intro (sk (And.intro (And.intro trivial (times_pure x 3)) (sk (And.intro (And.intro trivial (times_pure y 2)) (And.intro (And.intro trivial (cmp_pure ((mul8 (smallN x) (smallN 3)).lo) ((mul8 (smallN y) (smallN 2)).lo))) (sk (sk trivial))))))) (And.intro trivial ((show (Value.bool (decide (((cmp4 ((mul8 (smallN x) (smallN 3)).lo) ((mul8 (smallN y) (smallN 2)).lo)) : Int) > 0))) = Value.bool (greatU x y) from congrArg Value.bool great_val))))))
theorem more_pure (x y : UInt64) : Pure Try.prog 10 [(u64 x), (u64 y)] (Value.bool (moreU x y)) :=
  pure_of_ev mix Try.func10 rfl rfl 400 (.reg [(0, .g)] (.reg [(0, .g), (1, (.call [] 0 0 (fun _ => (nat4 ((mul8 (smallN x) (smallN 3)).lo))) (fun _ => []))), (2, .g), (3, (.call [] 0 0 (fun _ => (Value.agg #[(u64 y), (u64 0), (u64 0), (u64 0)])) (fun _ => []))), (4, (.call [] 0 0 (fun _ => (int (cmp4 ((mul8 (smallN x) (smallN 3)).lo) (N4.mk y 0 0 0)))) (fun _ => []))), (5, .g), (6, .g)] .done)) []
    (Eq.mp (by kernel_rfl) (And.intro (sk trivial) (And.intro (sk (And.intro (And.intro trivial (times_pure x 3)) (sk (And.intro (And.intro trivial (small_pure y)) (And.intro (And.intro trivial (cmp_pure ((mul8 (smallN x) (smallN 3)).lo) (N4.mk y 0 0 0))) (sk (sk trivial))))))) (And.intro trivial ((show (Value.bool (decide (((cmp4 ((mul8 (smallN x) (smallN 3)).lo) (N4.mk y 0 0 0)) : Int) > 0))) = Value.bool (moreU x y) from congrArg Value.bool more_val))))))
theorem quo1_pure (v : Nat → UInt8) : Pure Try.prog 40 [(vecV 32 (fun k => u8 (v k)))] (rowV v) :=
  pure_of_ev mix Try.func40 rfl rfl 400 (.regn [(0, .new), (1, .new)] (more (fun n1 => more (fun n2 => fun _ => (.reg [(0, (.ld 0 (.lit 0))), (1, (.st 1 (.lit 0)))] .done))))) [(1, 0)]
    (Eq.mp (by kernel_rfl) (fun (n1 n2 : Nat) => And.intro (sk (sk trivial)) (And.intro (And.intro (And.intro trivial (ad n1 0)) (And.intro (And.intro trivial (ad n2 0)) trivial)) (And.intro (And.intro (@rfl Value (ptr n2 0)) trivial) (@rfl Value (rowV v))))))
def gather_row_S1 (t : Nat) (sp : Nat) (sc : Nat) (fm : Nat) (am : Nat) (n : Nat) (s : Nat → UInt64) (F : Fst) (n1 : Nat) (n2 : Nat) (x1 : (List Nat) × (List ((Nat → UInt8) × UInt64))) : St := ⟨[(0, .v (ptr t 0)), (1, .v (Value.func (.func 40) #[] #[])), (5, .v (Value.map (some n1))), (13, .v (ptr n2 0))], [(0, some ⟨t, false, 0, (.lit [(Value.slice (some ⟨sp, 0, none⟩) n sc), (u64 ((totN s n).a)), (Value.map (some fm)), (Value.map (some am))])⟩), (1, some ⟨sp, false, 0, (tabF n (fun k => u64 (s k)))⟩), (2, some ⟨fm, false, 0, (firC F)⟩), (3, some ⟨n1, true, 0, (rowC x1.2)⟩), (4, some ⟨n2, true, 0, (itC fm F.length x1.1)⟩)], 5⟩
def gather_row_R1 (t : Nat) (sp : Nat) (sc : Nat) (fm : Nat) (am : Nat) (n : Nat) (s : Nat → UInt64) (F : Fst) (n1 : Nat) (n2 : Nat) (x1 : (List Nat) × (List ((Nat → UInt8) × UInt64))) : Prop := (OrdN F.length x1.1) ∧ (x1.2 = rowM s F x1.1)
def gather_row_mu1 (t : Nat) (sp : Nat) (sc : Nat) (fm : Nat) (am : Nat) (n : Nat) (s : Nat → UInt64) (F : Fst) (n1 : Nat) (n2 : Nat) (x1 : (List Nat) × (List ((Nat → UInt8) × UInt64))) : Nat := leftN x1.1 F.length
theorem gather_row (t sp sc fm am n : Nat) (s : Nat → UInt64) (F : Fst) (hV : VOk n s F) : Runs Try.prog 39 [(ptr t 0), (Value.func (.func 40) #[] #[])] [⟨t, false, 0, (.lit [(Value.slice (some ⟨sp, 0, none⟩) n sc), (u64 ((totN s n).a)), (Value.map (some fm)), (Value.map (some am))])⟩, ⟨sp, false, 0, (tabF n (fun k => u64 (s k)))⟩, ⟨fm, false, 0, (firC F)⟩] 2 (fun (ns : List Nat) => (Value.map (some (ns.getD 0 0)))) (fun (ns : List Nat) => [some ⟨t, false, 0, (.lit [(Value.slice (some ⟨sp, 0, none⟩) n sc), (u64 ((totN s n).a)), (Value.map (some fm)), (Value.map (some am))])⟩, some ⟨sp, false, 0, (tabF n (fun k => u64 (s k)))⟩, some ⟨fm, false, 0, (firC F)⟩, some ⟨(ns.getD 0 0), true, 0, (rowC (rowM s F (ordD F.length (ns.getD 1 0))))⟩]) :=
  runs_of_ev mix Try.func39 rfl rfl 400 (.reg [(0, .g)] (.regn [(0, (.oth [] 1 1 (fun ns => Value.map (some (ns.getD 0 0))) (fun ns => [some ⟨ns.getD 0 0, true, 0, rowC []⟩]))), (1, .g)] (more (fun n1 => fun _ => (.regn [(0, .g), (1, .g), (2, .g), (3, (.ld 0 (.lit 2))), (4, (.othB [(2, true)] 1 1 (fun ns => ptr (ns.getD 0 0) 0) (fun bs ns => [none, some ⟨(ns.getD 0 0), true, 0, itB bs⟩])))] (more (fun n2 => fun _ => (.inv [0, 1, 5, 13] [0, 1, 2, 3, 4] 5 (gather_row_R1 t sp sc fm am n s F n1 n2) (gather_row_S1 t sp sc fm am n s F n1 n2) (gather_row_mu1 t sp sc fm am n s F n1 n2) ((([]), ([])) : (List Nat) × (List ((Nat → UInt8) × UInt64))) (fun (x1 : (List Nat) × (List ((Nat → UInt8) × UInt64))) => (.both (unseen x1.1 F.length) (.regn [(0, (.oth [(4, false), (2, true)] 1 0 (fun ns => (Value.tuple #[(Value.bool true), (int ((kvAt d0 F (pk x1.1 F.length (ns.getD 0 0))).1)), (vecV 32 (fun k => u8 ((kvAt d0 F (pk x1.1 F.length (ns.getD 0 0))).2 k)))])) (fun ns => [some ⟨n2, true, 0, (itC fm F.length (x1.1 ++ [pk x1.1 F.length (ns.getD 0 0)]))⟩, none]))), (1, .g)] (more (fun n3 => fun _ => (.yes (.regn [(0, (.oth [(4, true), (2, true)] 0 0 (fun _ => (Value.tuple #[(int ((kvAt d0 F (pk x1.1 F.length n3)).1)), (vecV 32 (fun k => u8 ((kvAt d0 F (pk x1.1 F.length n3)).2 k)))])) (fun _ => [none, none]))), (1, .g), (2, .g), (3, .new), (4, .g), (5, (.st 5 (.lit 0)))] (more (fun n4 => fun _ => (.keep [0, 1, 5, 13, 14, 15, 16, 17, 18, 7, 6] [0, 1, 2, 3, 4, 5] 6 (.byF (fun (_ : Unit) => True) (fun (_ : Unit) => Exit.normal) (fun (_ : Unit) => (⟨[(0, .v (ptr t 0)), (1, .v (Value.func (.func 40) #[] #[])), (5, .v (Value.map (some n1))), (13, .v (ptr n2 0)), (14, .v (Value.tuple #[(Value.bool true), (int ((kvAt d0 F (pk x1.1 F.length n3)).1)), (vecV 32 (fun k => u8 ((kvAt d0 F (pk x1.1 F.length n3)).2 k)))])), (15, .v (Value.bool true)), (16, .v (Value.tuple #[(int ((kvAt d0 F (pk x1.1 F.length n3)).1)), (vecV 32 (fun k => u8 ((kvAt d0 F (pk x1.1 F.length n3)).2 k)))])), (17, .v (int ((kvAt d0 F (pk x1.1 F.length n3)).1))), (18, .v (vecV 32 (fun k => u8 ((kvAt d0 F (pk x1.1 F.length n3)).2 k)))), (7, .v (ptr n4 0)), (6, .v (int ((kvAt d0 F (pk x1.1 F.length n3)).1))), (19, .v (Value.map (some n1))), (20, .v (Value.func (.func 40) #[] #[])), (21, .v (vecV 32 (fun k => u8 ((kvAt d0 F (pk x1.1 F.length n3)).2 k)))), (22, .v (vecV 32 (fun k => u8 ((kvAt d0 F (pk x1.1 F.length n3)).2 k)))), (24, .v (ptr t 0)), (25, .v (ptr t 0)), (26, .v (ptr t 0)), (27, .v (Value.slice (some ⟨sp, 0, none⟩) n sc)), (28, .v (nat (((kvAt d0 F (pk x1.1 F.length n3)).1).toNat))), (29, .v (ptr sp (0 + (((kvAt d0 F (pk x1.1 F.length n3)).1).toNat) * 1))), (30, .v (u64 (s (((kvAt d0 F (pk x1.1 F.length n3)).1).toNat)))), (23, .v (u64 ((findE sR ((kvAt d0 F (pk x1.1 F.length n3)).2) x1.2).getD 0))), (31, .v (u64 (((findE sR ((kvAt d0 F (pk x1.1 F.length n3)).2) x1.2).getD 0) + (s (((kvAt d0 F (pk x1.1 F.length n3)).1).toNat))))), (32, .v (Value.tuple #[(u64 ((findE sR ((kvAt d0 F (pk x1.1 F.length n3)).2) x1.2).getD 0)), (nat (idxI sR ((kvAt d0 F (pk x1.1 F.length n3)).2) x1.2))])), (33, .v (nat (idxI sR ((kvAt d0 F (pk x1.1 F.length n3)).2) x1.2)))], [(0, some ⟨t, false, 0, (.lit [(Value.slice (some ⟨sp, 0, none⟩) n sc), (u64 ((totN s n).a)), (Value.map (some fm)), (Value.map (some am))])⟩), (1, some ⟨sp, false, 0, (tabF n (fun k => u64 (s k)))⟩), (2, some ⟨fm, false, 0, (firC F)⟩), (3, some ⟨n1, true, 0, (rowC (putE sR ((kvAt d0 F (pk x1.1 F.length n3)).2) (((findE sR ((kvAt d0 F (pk x1.1 F.length n3)).2) x1.2).getD 0) + (s (((kvAt d0 F (pk x1.1 F.length n3)).1).toNat))) x1.2))⟩), (4, some ⟨n2, true, 0, (itC fm F.length (x1.1 ++ [pk x1.1 F.length n3]))⟩), (5, some ⟨n4, true, 0, (litF 32 (fun k => u8 ((kvAt d0 F (pk x1.1 F.length n3)).2 k)))⟩)], 6⟩ : St)) (fun (_ : Unit) => .done)))))))))) (.reg [(0, (.oth [(4, true), (2, true)] 0 0 (fun _ => Value.tuple #[.bool false]) (fun _ => [none, none]))), (1, .g)] (.no (.reg [(0, .g), (1, .g)] .done))))))))))))) [] [3] rfl
    (Eq.mp (by kernel_rfl) (And.intro (sk trivial) (fun (n1 : Nat) => And.intro (And.intro (And.intro trivial (srun_mkm (P := Try.prog) (kv := rowV) (ev := u64) 78)) (sk trivial)) (fun (n2 : Nat) => And.intro (sk (sk (sk (And.intro (And.intro trivial (ad t 2)) (And.intro (And.intro trivial (SRuns.dark [true] (srun_rng (P := Try.prog) (mt := 72) (kv := int) (ev := rowV) mT72.hm fm false F))) trivial))))) (And.intro (show (gather_row_R1 t sp sc fm am n s F n1 n2) ((([]), ([])) : (List Nat) × (List ((Nat → UInt8) × UInt64))) from (show (OrdN F.length ([])) ∧ (([]) = rowM s F ([])) from by exact ⟨OrdN.nil _, rfl⟩)) (And.intro (@rfl St ((gather_row_S1 t sp sc fm am n s F n1 n2) ((([]), ([])) : (List Nat) × (List ((Nat → UInt8) × UInt64))))) (fun (x1 : (List Nat) × (List ((Nat → UInt8) × UInt64))) (hx1 : (gather_row_R1 t sp sc fm am n s F n1 n2) x1) => have B0 : OrdN F.length x1.1 := hx1.1; have B1 : x1.2 = rowM s F x1.1 := hx1.2; And.intro (fun (h1 : (unseen x1.1 F.length) = true) => have f2 : (unseen x1.1 F.length) = true := h1; fun (n3 : Nat) => And.intro (And.intro (And.intro trivial (SRuns.dark [false, true] (srun_nxt (P := Try.prog) (kv := int) (ev := rowV) 0 n2 fm false F x1.1 d0 h1))) (sk trivial)) (And.intro trivial (And.intro (@rfl Bool true) (fun (n4 : Nat) => And.intro (And.intro (And.intro trivial (srun_ent (P := Try.prog) (kv := int) (ev := rowV) n2 fm false false F x1.1 (pk x1.1 F.length n3) d0 (show pk x1.1 F.length n3 < F.length from by have f3 : (pk x1.1 F.length n3) < F.length := ((pk_ok h1 n3)).1; have f4 : 0 ≤ (kvAt d0 F (pk x1.1 F.length n3)).1 ∧ (kvAt d0 F (pk x1.1 F.length n3)).1.toNat < n := (hV.key (pk x1.1 F.length n3) ((pk_ok h1 n3)).1); omega))) (sk (sk (sk (sk (And.intro (And.intro trivial (ad n4 0)) trivial)))))) (And.intro (awp_spl (F := (fun _ => False)) (P := Try.prog) (nt := 35) (regC 5 Try.f39.body) (⟨[(0, .v (ptr t 0)), (1, .v (Value.func (.func 40) #[] #[])), (5, .v (Value.map (some n1))), (13, .v (ptr n2 0)), (14, .v (Value.tuple #[(Value.bool true), (int ((kvAt d0 F (pk x1.1 F.length n3)).1)), (vecV 32 (fun k => u8 ((kvAt d0 F (pk x1.1 F.length n3)).2 k)))])), (15, .v (Value.bool true)), (16, .v (Value.tuple #[(int ((kvAt d0 F (pk x1.1 F.length n3)).1)), (vecV 32 (fun k => u8 ((kvAt d0 F (pk x1.1 F.length n3)).2 k)))])), (17, .v (int ((kvAt d0 F (pk x1.1 F.length n3)).1))), (18, .v (vecV 32 (fun k => u8 ((kvAt d0 F (pk x1.1 F.length n3)).2 k)))), (7, .v (ptr n4 0)), (6, .v (int ((kvAt d0 F (pk x1.1 F.length n3)).1)))], [(0, some ⟨t, false, 0, (.lit [(Value.slice (some ⟨sp, 0, none⟩) n sc), (u64 ((totN s n).a)), (Value.map (some fm)), (Value.map (some am))])⟩), (1, some ⟨sp, false, 0, (tabF n (fun k => u64 (s k)))⟩), (2, some ⟨fm, false, 0, (firC F)⟩), (3, some ⟨n1, true, 0, (rowC x1.2)⟩), (4, some ⟨n2, true, 0, (itC fm F.length (x1.1 ++ [pk x1.1 F.length n3]))⟩), (5, some ⟨n4, true, 0, (litF 32 (fun k => u8 ((kvAt d0 F (pk x1.1 F.length n3)).2 k)))⟩)], 6⟩ : St) (⟨[(0, .v (ptr t 0)), (1, .v (Value.func (.func 40) #[] #[])), (5, .v (Value.map (some n1))), (13, .v (ptr n2 0)), (14, .v (Value.tuple #[(Value.bool true), (int ((kvAt d0 F (pk x1.1 F.length n3)).1)), (vecV 32 (fun k => u8 ((kvAt d0 F (pk x1.1 F.length n3)).2 k)))])), (15, .v (Value.bool true)), (16, .v (Value.tuple #[(int ((kvAt d0 F (pk x1.1 F.length n3)).1)), (vecV 32 (fun k => u8 ((kvAt d0 F (pk x1.1 F.length n3)).2 k)))])), (17, .v (int ((kvAt d0 F (pk x1.1 F.length n3)).1))), (18, .v (vecV 32 (fun k => u8 ((kvAt d0 F (pk x1.1 F.length n3)).2 k)))), (7, .v (ptr n4 0)), (6, .v (int ((kvAt d0 F (pk x1.1 F.length n3)).1))), (19, .v (Value.map (some n1))), (20, .v (Value.func (.func 40) #[] #[])), (21, .v (vecV 32 (fun k => u8 ((kvAt d0 F (pk x1.1 F.length n3)).2 k)))), (22, .v (vecV 32 (fun k => u8 ((kvAt d0 F (pk x1.1 F.length n3)).2 k)))), (24, .v (ptr t 0)), (25, .v (ptr t 0)), (26, .v (ptr t 0)), (27, .v (Value.slice (some ⟨sp, 0, none⟩) n sc)), (28, .v (nat (((kvAt d0 F (pk x1.1 F.length n3)).1).toNat))), (29, .v (ptr sp (0 + (((kvAt d0 F (pk x1.1 F.length n3)).1).toNat) * 1))), (30, .v (u64 (s (((kvAt d0 F (pk x1.1 F.length n3)).1).toNat)))), (23, .v (u64 ((findE sR ((kvAt d0 F (pk x1.1 F.length n3)).2) x1.2).getD 0))), (31, .v (u64 (((findE sR ((kvAt d0 F (pk x1.1 F.length n3)).2) x1.2).getD 0) + (s (((kvAt d0 F (pk x1.1 F.length n3)).1).toNat))))), (32, .v (Value.tuple #[(u64 ((findE sR ((kvAt d0 F (pk x1.1 F.length n3)).2) x1.2).getD 0)), (nat (idxI sR ((kvAt d0 F (pk x1.1 F.length n3)).2) x1.2))])), (33, .v (nat (idxI sR ((kvAt d0 F (pk x1.1 F.length n3)).2) x1.2)))], [(0, some ⟨t, false, 0, (.lit [(Value.slice (some ⟨sp, 0, none⟩) n sc), (u64 ((totN s n).a)), (Value.map (some fm)), (Value.map (some am))])⟩), (1, some ⟨sp, false, 0, (tabF n (fun k => u64 (s k)))⟩), (2, some ⟨fm, false, 0, (firC F)⟩), (3, some ⟨n1, true, 0, (rowC (putE sR ((kvAt d0 F (pk x1.1 F.length n3)).2) (((findE sR ((kvAt d0 F (pk x1.1 F.length n3)).2) x1.2).getD 0) + (s (((kvAt d0 F (pk x1.1 F.length n3)).1).toNat))) x1.2))⟩), (4, some ⟨n2, true, 0, (itC fm F.length (x1.1 ++ [pk x1.1 F.length n3]))⟩), (5, some ⟨n4, true, 0, (litF 32 (fun k => u8 ((kvAt d0 F (pk x1.1 F.length n3)).2 k)))⟩)], 6⟩ : St) [(0, .g), (1, .g), (2, (.ld 5 (.lit 0))), (3, (.call [] 0 0 (fun _ => (vecV 32 (fun k => u8 ((kvAt d0 F (pk x1.1 F.length n3)).2 k)))) (fun _ => []))), (5, .g), (6, .g), (7, .g), (8, (.ld 0 (.lit 0))), (9, (.as (nat (((kvAt d0 F (pk x1.1 F.length n3)).1).toNat)))), (10, (.as (ptr sp (0 + (((kvAt d0 F (pk x1.1 F.length n3)).1).toNat) * 1)))), (11, (.ld 1 (.tab (((kvAt d0 F (pk x1.1 F.length n3)).1).toNat) 0)))] [(4, (.oth [(3, true)] 0 0 (fun _ => (u64 ((findE sR ((kvAt d0 F (pk x1.1 F.length n3)).2) x1.2).getD 0))) (fun _ => [none]))), (12, (.as (u64 (((findE sR ((kvAt d0 F (pk x1.1 F.length n3)).2) x1.2).getD 0) + (s (((kvAt d0 F (pk x1.1 F.length n3)).1).toNat)))))), (13, (.oth [(3, false)] 0 0 (fun _ => (Value.tuple #[(u64 ((findE sR ((kvAt d0 F (pk x1.1 F.length n3)).2) x1.2).getD 0)), (nat (idxI sR ((kvAt d0 F (pk x1.1 F.length n3)).2) x1.2))])) (fun _ => [some ⟨n1, true, 0, (rowC (putE sR ((kvAt d0 F (pk x1.1 F.length n3)).2) ((findE sR ((kvAt d0 F (pk x1.1 F.length n3)).2) x1.2).getD 0) x1.2))⟩]))), (14, .g), (15, (.upd 3 (rowC (putE sR ((kvAt d0 F (pk x1.1 F.length n3)).2) (((findE sR ((kvAt d0 F (pk x1.1 F.length n3)).2) x1.2).getD 0) + (s (((kvAt d0 F (pk x1.1 F.length n3)).1).toNat))) x1.2))))] [(13, (.oth [(3, false)] 0 0 (fun _ => (Value.tuple #[(u64 ((findE sR ((kvAt d0 F (pk x1.1 F.length n3)).2) x1.2).getD 0)), (nat (idxI sR ((kvAt d0 F (pk x1.1 F.length n3)).2) x1.2))])) (fun _ => [some ⟨n1, true, 0, (rowC (putE sR ((kvAt d0 F (pk x1.1 F.length n3)).2) ((findE sR ((kvAt d0 F (pk x1.1 F.length n3)).2) x1.2).getD 0) x1.2))⟩]))), (4, (.oth [(3, true)] 0 0 (fun _ => (u64 ((findE sR ((kvAt d0 F (pk x1.1 F.length n3)).2) x1.2).getD 0))) (fun _ => [none]))), (12, (.as (u64 (((findE sR ((kvAt d0 F (pk x1.1 F.length n3)).2) x1.2).getD 0) + (s (((kvAt d0 F (pk x1.1 F.length n3)).1).toNat)))))), (14, .g), (15, (.upd 3 (rowC (putE sR ((kvAt d0 F (pk x1.1 F.length n3)).2) (((findE sR ((kvAt d0 F (pk x1.1 F.length n3)).2) x1.2).getD 0) + (s (((kvAt d0 F (pk x1.1 F.length n3)).1).toNat))) x1.2))))] 4 13 [0, 1, 5, 13, 14, 15, 16, 17, 18, 7, 6, 19, 20, 21, 22, 24, 25, 26, 27, 28, 29, 30, 23, 31, 32, 33] [0, 1, 2, 3, 4, 5] 6 mix (by kernel_rfl) (by kernel_rfl) (by kernel_rfl) (by kernel_rfl) (by kernel_rfl) (by kernel_rfl) (by kernel_rfl) (by kernel_rfl) (Eq.mp (by kernel_rfl) (And.intro (sk (sk (And.intro (And.intro trivial (ad n4 0)) (And.intro (And.intro trivial (quo1_pure ((kvAt d0 F (pk x1.1 F.length n3)).2))) (sk (sk (sk (And.intro (And.intro trivial (ad t 0)) (And.intro (And.intro trivial (@is_move_nat Try.prog (.tmp 6) ((kvAt d0 F (pk x1.1 F.length n3)).1) (((kvAt d0 F (pk x1.1 F.length n3)).1).toNat) (show (((kvAt d0 F (pk x1.1 F.length n3)).1) : Int) = ((((kvAt d0 F (pk x1.1 F.length n3)).1).toNat : Nat) : Int) from by have f3 : (pk x1.1 F.length n3) < F.length := ((pk_ok h1 n3)).1; have f4 : 0 ≤ (kvAt d0 F (pk x1.1 F.length n3)).1 ∧ (kvAt d0 F (pk x1.1 F.length n3)).1.toNat < n := (hV.key (pk x1.1 F.length n3) ((pk_ok h1 n3)).1); omega))) (And.intro (And.intro trivial (@is_ixSl Try.prog 22 26 (.tmp 27) (.tmp 28) 1 (by kernel_rfl) (by kernel_rfl) sp 0 n sc (((kvAt d0 F (pk x1.1 F.length n3)).1).toNat) (show ((kvAt d0 F (pk x1.1 F.length n3)).1).toNat < n from by have f3 : (pk x1.1 F.length n3) < F.length := ((pk_ok h1 n3)).1; have f4 : 0 ≤ (kvAt d0 F (pk x1.1 F.length n3)).1 ∧ (kvAt d0 F (pk x1.1 F.length n3)).1.toNat < n := (hV.key (pk x1.1 F.length n3) ((pk_ok h1 n3)).1); omega))) (And.intro (And.intro trivial (And.intro (show ((kvAt d0 F (pk x1.1 F.length n3)).1).toNat < n from by have f3 : (pk x1.1 F.length n3) < F.length := ((pk_ok h1 n3)).1; have f4 : 0 ≤ (kvAt d0 F (pk x1.1 F.length n3)).1 ∧ (kvAt d0 F (pk x1.1 F.length n3)).1.toNat < n := (hV.key (pk x1.1 F.length n3) ((pk_ok h1 n3)).1); omega) (@rfl Value (ptr sp (0 + (((kvAt d0 F (pk x1.1 F.length n3)).1).toNat) * 1))))) (And.intro (And.intro trivial (srun_look1 (P := Try.prog) mT78 n1 false x1.2 ((kvAt d0 F (pk x1.1 F.length n3)).2))) (And.intro (And.intro trivial (@is_add64 Try.prog 26 26 (.tmp 23) (.tmp 30) ((findE sR ((kvAt d0 F (pk x1.1 F.length n3)).2) x1.2).getD 0) (s (((kvAt d0 F (pk x1.1 F.length n3)).1).toNat)))) (And.intro (And.intro trivial (srun_mpe (P := Try.prog) mT78 n1 x1.2 ((kvAt d0 F (pk x1.1 F.length n3)).2))) (sk (And.intro (And.intro trivial (srun_est (P := Try.prog) (kv := rowV) (ev := u64) (eqb := sR) 78 n1 x1.2 ((kvAt d0 F (pk x1.1 F.length n3)).2) (((findE sR ((kvAt d0 F (pk x1.1 F.length n3)).2) x1.2).getD 0) + (s (((kvAt d0 F (pk x1.1 F.length n3)).1).toNat))) ((findE sR ((kvAt d0 F (pk x1.1 F.length n3)).2) x1.2).getD 0))) (trivial))))))))))))))))) (@rfl St (⟨[(0, .v (ptr t 0)), (1, .v (Value.func (.func 40) #[] #[])), (5, .v (Value.map (some n1))), (13, .v (ptr n2 0)), (14, .v (Value.tuple #[(Value.bool true), (int ((kvAt d0 F (pk x1.1 F.length n3)).1)), (vecV 32 (fun k => u8 ((kvAt d0 F (pk x1.1 F.length n3)).2 k)))])), (15, .v (Value.bool true)), (16, .v (Value.tuple #[(int ((kvAt d0 F (pk x1.1 F.length n3)).1)), (vecV 32 (fun k => u8 ((kvAt d0 F (pk x1.1 F.length n3)).2 k)))])), (17, .v (int ((kvAt d0 F (pk x1.1 F.length n3)).1))), (18, .v (vecV 32 (fun k => u8 ((kvAt d0 F (pk x1.1 F.length n3)).2 k)))), (7, .v (ptr n4 0)), (6, .v (int ((kvAt d0 F (pk x1.1 F.length n3)).1))), (19, .v (Value.map (some n1))), (20, .v (Value.func (.func 40) #[] #[])), (21, .v (vecV 32 (fun k => u8 ((kvAt d0 F (pk x1.1 F.length n3)).2 k)))), (22, .v (vecV 32 (fun k => u8 ((kvAt d0 F (pk x1.1 F.length n3)).2 k)))), (24, .v (ptr t 0)), (25, .v (ptr t 0)), (26, .v (ptr t 0)), (27, .v (Value.slice (some ⟨sp, 0, none⟩) n sc)), (28, .v (nat (((kvAt d0 F (pk x1.1 F.length n3)).1).toNat))), (29, .v (ptr sp (0 + (((kvAt d0 F (pk x1.1 F.length n3)).1).toNat) * 1))), (30, .v (u64 (s (((kvAt d0 F (pk x1.1 F.length n3)).1).toNat)))), (23, .v (u64 ((findE sR ((kvAt d0 F (pk x1.1 F.length n3)).2) x1.2).getD 0))), (31, .v (u64 (((findE sR ((kvAt d0 F (pk x1.1 F.length n3)).2) x1.2).getD 0) + (s (((kvAt d0 F (pk x1.1 F.length n3)).1).toNat))))), (32, .v (Value.tuple #[(u64 ((findE sR ((kvAt d0 F (pk x1.1 F.length n3)).2) x1.2).getD 0)), (nat (idxI sR ((kvAt d0 F (pk x1.1 F.length n3)).2) x1.2))])), (33, .v (nat (idxI sR ((kvAt d0 F (pk x1.1 F.length n3)).2) x1.2)))], [(0, some ⟨t, false, 0, (.lit [(Value.slice (some ⟨sp, 0, none⟩) n sc), (u64 ((totN s n).a)), (Value.map (some fm)), (Value.map (some am))])⟩), (1, some ⟨sp, false, 0, (tabF n (fun k => u64 (s k)))⟩), (2, some ⟨fm, false, 0, (firC F)⟩), (3, some ⟨n1, true, 0, (rowC (putE sR ((kvAt d0 F (pk x1.1 F.length n3)).2) (((findE sR ((kvAt d0 F (pk x1.1 F.length n3)).2) x1.2).getD 0) + (s (((kvAt d0 F (pk x1.1 F.length n3)).1).toNat))) x1.2))⟩), (4, some ⟨n2, true, 0, (itC fm F.length (x1.1 ++ [pk x1.1 F.length n3]))⟩), (5, some ⟨n4, true, 0, (litF 32 (fun k => u8 ((kvAt d0 F (pk x1.1 F.length n3)).2 k)))⟩)], 6⟩ : St)))) (Eq.mp (by kernel_rfl) (And.intro (sk (sk (And.intro (And.intro trivial (ad n4 0)) (And.intro (And.intro trivial (quo1_pure ((kvAt d0 F (pk x1.1 F.length n3)).2))) (sk (sk (sk (And.intro (And.intro trivial (ad t 0)) (And.intro (And.intro trivial (@is_move_nat Try.prog (.tmp 6) ((kvAt d0 F (pk x1.1 F.length n3)).1) (((kvAt d0 F (pk x1.1 F.length n3)).1).toNat) (show (((kvAt d0 F (pk x1.1 F.length n3)).1) : Int) = ((((kvAt d0 F (pk x1.1 F.length n3)).1).toNat : Nat) : Int) from by have f3 : (pk x1.1 F.length n3) < F.length := ((pk_ok h1 n3)).1; have f4 : 0 ≤ (kvAt d0 F (pk x1.1 F.length n3)).1 ∧ (kvAt d0 F (pk x1.1 F.length n3)).1.toNat < n := (hV.key (pk x1.1 F.length n3) ((pk_ok h1 n3)).1); omega))) (And.intro (And.intro trivial (@is_ixSl Try.prog 22 26 (.tmp 27) (.tmp 28) 1 (by kernel_rfl) (by kernel_rfl) sp 0 n sc (((kvAt d0 F (pk x1.1 F.length n3)).1).toNat) (show ((kvAt d0 F (pk x1.1 F.length n3)).1).toNat < n from by have f3 : (pk x1.1 F.length n3) < F.length := ((pk_ok h1 n3)).1; have f4 : 0 ≤ (kvAt d0 F (pk x1.1 F.length n3)).1 ∧ (kvAt d0 F (pk x1.1 F.length n3)).1.toNat < n := (hV.key (pk x1.1 F.length n3) ((pk_ok h1 n3)).1); omega))) (And.intro (And.intro trivial (And.intro (show ((kvAt d0 F (pk x1.1 F.length n3)).1).toNat < n from by have f3 : (pk x1.1 F.length n3) < F.length := ((pk_ok h1 n3)).1; have f4 : 0 ≤ (kvAt d0 F (pk x1.1 F.length n3)).1 ∧ (kvAt d0 F (pk x1.1 F.length n3)).1.toNat < n := (hV.key (pk x1.1 F.length n3) ((pk_ok h1 n3)).1); omega) (@rfl Value (ptr sp (0 + (((kvAt d0 F (pk x1.1 F.length n3)).1).toNat) * 1))))) (And.intro (And.intro trivial (srun_mpe (P := Try.prog) mT78 n1 x1.2 ((kvAt d0 F (pk x1.1 F.length n3)).2))) (And.intro (And.intro trivial (srun_look2 (P := Try.prog) eqv_row mT78 n1 false x1.2 ((kvAt d0 F (pk x1.1 F.length n3)).2))) (And.intro (And.intro trivial (@is_add64 Try.prog 26 26 (.tmp 23) (.tmp 30) ((findE sR ((kvAt d0 F (pk x1.1 F.length n3)).2) x1.2).getD 0) (s (((kvAt d0 F (pk x1.1 F.length n3)).1).toNat)))) (sk (And.intro (And.intro trivial (srun_est (P := Try.prog) (kv := rowV) (ev := u64) (eqb := sR) 78 n1 x1.2 ((kvAt d0 F (pk x1.1 F.length n3)).2) (((findE sR ((kvAt d0 F (pk x1.1 F.length n3)).2) x1.2).getD 0) + (s (((kvAt d0 F (pk x1.1 F.length n3)).1).toNat))) ((findE sR ((kvAt d0 F (pk x1.1 F.length n3)).2) x1.2).getD 0))) (trivial))))))))))))))))) (@rfl St (⟨[(0, .v (ptr t 0)), (1, .v (Value.func (.func 40) #[] #[])), (5, .v (Value.map (some n1))), (13, .v (ptr n2 0)), (14, .v (Value.tuple #[(Value.bool true), (int ((kvAt d0 F (pk x1.1 F.length n3)).1)), (vecV 32 (fun k => u8 ((kvAt d0 F (pk x1.1 F.length n3)).2 k)))])), (15, .v (Value.bool true)), (16, .v (Value.tuple #[(int ((kvAt d0 F (pk x1.1 F.length n3)).1)), (vecV 32 (fun k => u8 ((kvAt d0 F (pk x1.1 F.length n3)).2 k)))])), (17, .v (int ((kvAt d0 F (pk x1.1 F.length n3)).1))), (18, .v (vecV 32 (fun k => u8 ((kvAt d0 F (pk x1.1 F.length n3)).2 k)))), (7, .v (ptr n4 0)), (6, .v (int ((kvAt d0 F (pk x1.1 F.length n3)).1))), (19, .v (Value.map (some n1))), (20, .v (Value.func (.func 40) #[] #[])), (21, .v (vecV 32 (fun k => u8 ((kvAt d0 F (pk x1.1 F.length n3)).2 k)))), (22, .v (vecV 32 (fun k => u8 ((kvAt d0 F (pk x1.1 F.length n3)).2 k)))), (24, .v (ptr t 0)), (25, .v (ptr t 0)), (26, .v (ptr t 0)), (27, .v (Value.slice (some ⟨sp, 0, none⟩) n sc)), (28, .v (nat (((kvAt d0 F (pk x1.1 F.length n3)).1).toNat))), (29, .v (ptr sp (0 + (((kvAt d0 F (pk x1.1 F.length n3)).1).toNat) * 1))), (30, .v (u64 (s (((kvAt d0 F (pk x1.1 F.length n3)).1).toNat)))), (23, .v (u64 ((findE sR ((kvAt d0 F (pk x1.1 F.length n3)).2) x1.2).getD 0))), (31, .v (u64 (((findE sR ((kvAt d0 F (pk x1.1 F.length n3)).2) x1.2).getD 0) + (s (((kvAt d0 F (pk x1.1 F.length n3)).1).toNat))))), (32, .v (Value.tuple #[(u64 ((findE sR ((kvAt d0 F (pk x1.1 F.length n3)).2) x1.2).getD 0)), (nat (idxI sR ((kvAt d0 F (pk x1.1 F.length n3)).2) x1.2))])), (33, .v (nat (idxI sR ((kvAt d0 F (pk x1.1 F.length n3)).2) x1.2)))], [(0, some ⟨t, false, 0, (.lit [(Value.slice (some ⟨sp, 0, none⟩) n sc), (u64 ((totN s n).a)), (Value.map (some fm)), (Value.map (some am))])⟩), (1, some ⟨sp, false, 0, (tabF n (fun k => u64 (s k)))⟩), (2, some ⟨fm, false, 0, (firC F)⟩), (3, some ⟨n1, true, 0, (rowC (putE sR ((kvAt d0 F (pk x1.1 F.length n3)).2) (((findE sR ((kvAt d0 F (pk x1.1 F.length n3)).2) x1.2).getD 0) + (s (((kvAt d0 F (pk x1.1 F.length n3)).1).toNat))) x1.2))⟩), (4, some ⟨n2, true, 0, (itC fm F.length (x1.1 ++ [pk x1.1 F.length n3]))⟩), (5, some ⟨n4, true, 0, (litF 32 (fun k => u8 ((kvAt d0 F (pk x1.1 F.length n3)).2 k)))⟩)], 6⟩ : St))))) (fun (_ : Unit) (_ : True) => (rnd (gather_row_R1 t sp sc fm am n s F n1 n2) (gather_row_S1 t sp sc fm am n s F n1 n2) (gather_row_mu1 t sp sc fm am n s F n1 n2) x1 (((x1.1 ++ [pk x1.1 F.length n3]), (putE sR ((kvAt d0 F (pk x1.1 F.length n3)).2) (((findE sR ((kvAt d0 F (pk x1.1 F.length n3)).2) x1.2).getD 0) + (s (((kvAt d0 F (pk x1.1 F.length n3)).1).toNat))) x1.2)) : (List Nat) × (List ((Nat → UInt8) × UInt64))) (show (gather_row_R1 t sp sc fm am n s F n1 n2) (((x1.1 ++ [pk x1.1 F.length n3]), (putE sR ((kvAt d0 F (pk x1.1 F.length n3)).2) (((findE sR ((kvAt d0 F (pk x1.1 F.length n3)).2) x1.2).getD 0) + (s (((kvAt d0 F (pk x1.1 F.length n3)).1).toNat))) x1.2)) : (List Nat) × (List ((Nat → UInt8) × UInt64))) ∧ (gather_row_mu1 t sp sc fm am n s F n1 n2) (((x1.1 ++ [pk x1.1 F.length n3]), (putE sR ((kvAt d0 F (pk x1.1 F.length n3)).2) (((findE sR ((kvAt d0 F (pk x1.1 F.length n3)).2) x1.2).getD 0) + (s (((kvAt d0 F (pk x1.1 F.length n3)).1).toNat))) x1.2)) : (List Nat) × (List ((Nat → UInt8) × UInt64))) < (gather_row_mu1 t sp sc fm am n s F n1 n2) x1 from (show ((OrdN F.length (x1.1 ++ [pk x1.1 F.length n3])) ∧ ((putE sR ((kvAt d0 F (pk x1.1 F.length n3)).2) (((findE sR ((kvAt d0 F (pk x1.1 F.length n3)).2) x1.2).getD 0) + (s (((kvAt d0 F (pk x1.1 F.length n3)).1).toNat))) x1.2) = rowM s F (x1.1 ++ [pk x1.1 F.length n3]))) ∧ (leftN (x1.1 ++ [pk x1.1 F.length n3]) F.length) < (leftN x1.1 F.length) from by have f3 : (pk x1.1 F.length n3) < F.length := ((pk_ok h1 n3)).1; have f4 : 0 ≤ (kvAt d0 F (pk x1.1 F.length n3)).1 ∧ (kvAt d0 F (pk x1.1 F.length n3)).1.toNat < n := (hV.key (pk x1.1 F.length n3) ((pk_ok h1 n3)).1); exact ⟨⟨B0.snoc h1 _, by rw [B1]; exact (gm_snoc sR (vF F) (sF s F) _ _).symm⟩, leftN_lt (pk_ok h1 _).1 (pk_ok h1 _).2⟩))))))))) (fun (h1 : (unseen x1.1 F.length) = false) => have f2 : (unseen x1.1 F.length) = false := h1; And.intro (And.intro (And.intro trivial (srun_nxt0 (P := Try.prog) (kv := int) (ev := rowV) 0 n2 fm false false F x1.1 h1)) (sk trivial)) (And.intro trivial (And.intro (@rfl Bool false) (And.intro (sk (sk trivial)) (And.intro trivial (@Exists.intro (List Nat) (fun (ns : List Nat) => ns.length = 2 ∧ ((Value.map (some n1)) : Value) = (fun (ns : List Nat) => (Value.map (some (ns.getD 0 0)))) ns ∧ ([some ⟨t, false, 0, (.lit [(Value.slice (some ⟨sp, 0, none⟩) n sc), (u64 ((totN s n).a)), (Value.map (some fm)), (Value.map (some am))])⟩, some ⟨sp, false, 0, (tabF n (fun k => u64 (s k)))⟩, some ⟨fm, false, 0, (firC F)⟩, some ⟨n1, true, 0, (rowC x1.2)⟩] : List (Option Blk)) = (fun (ns : List Nat) => [some ⟨t, false, 0, (.lit [(Value.slice (some ⟨sp, 0, none⟩) n sc), (u64 ((totN s n).a)), (Value.map (some fm)), (Value.map (some am))])⟩, some ⟨sp, false, 0, (tabF n (fun k => u64 (s k)))⟩, some ⟨fm, false, 0, (firC F)⟩, some ⟨(ns.getD 0 0), true, 0, (rowC (rowM s F (ordD F.length (ns.getD 1 0))))⟩]) ns) [n1, (codO x1.1)] (And.intro (@rfl Nat 2) (And.intro (@rfl Value (Value.map (some n1))) ((show ([some ⟨t, false, 0, (.lit [(Value.slice (some ⟨sp, 0, none⟩) n sc), (u64 ((totN s n).a)), (Value.map (some fm)), (Value.map (some am))])⟩, some ⟨sp, false, 0, (tabF n (fun k => u64 (s k)))⟩, some ⟨fm, false, 0, (firC F)⟩, some ⟨n1, true, 0, (rowC x1.2)⟩] : List (Option Blk)) = [some ⟨t, false, 0, (.lit [(Value.slice (some ⟨sp, 0, none⟩) n sc), (u64 ((totN s n).a)), (Value.map (some fm)), (Value.map (some am))])⟩, some ⟨sp, false, 0, (tabF n (fun k => u64 (s k)))⟩, some ⟨fm, false, 0, (firC F)⟩, some ⟨n1, true, 0, (rowC (rowM s F (ordD F.length (codO x1.1))))⟩] from by rw [ordD_cod (show OrdA F.length x1.1 from ⟨B0, h1⟩) (Nat.le_trans hV.len (by decide)), ← B1])))))))))))))))))
end Go.Proofs.Ytpjllbgipcfedaa
end
section
namespace Go.Proofs.Ytpjllbgipcfedaa
open Go Go.Eng
set_option linter.unusedVariables false
set_option linter.unusedSimpArgs false
set_option maxRecDepth 100000
noncomputable def quorum_runs_S1 (t : Nat) (sp : Nat) (sc : Nat) (fm : Nat) (am : Nat) (n : Nat) (s : Nat → UInt64) (F : Fst) (n1 : Nat) (n2 : Nat) (n3 : Nat) (n4 : Nat) (x1 : (List Nat)) : St := ⟨[(0, .v (ptr t 0)), (2, .v (ptr n1 0)), (8, .v (ptr n4 0))], [(0, some ⟨t, false, 0, (.lit [(Value.slice (some ⟨sp, 0, none⟩) n sc), (u64 ((totN s n).a)), (Value.map (some fm)), (Value.map (some am))])⟩), (1, some ⟨sp, false, 0, (tabF n (fun k => u64 (s k)))⟩), (2, some ⟨fm, false, 0, (firC F)⟩), (3, some ⟨n1, true, 0, (.lit [(u8 0), (u8 0), (u8 0), (u8 0), (u8 0), (u8 0), (u8 0), (u8 0), (u8 0), (u8 0), (u8 0), (u8 0), (u8 0), (u8 0), (u8 0), (u8 0), (u8 0), (u8 0), (u8 0), (u8 0), (u8 0), (u8 0), (u8 0), (u8 0), (u8 0), (u8 0), (u8 0), (u8 0), (u8 0), (u8 0), (u8 0), (u8 0)])⟩), (4, some ⟨n2, true, 0, (rowC (rowM s F (ordD F.length n3)))⟩), (5, some ⟨n4, true, 0, (itC n2 (rowM s F (ordD F.length n3)).length x1)⟩)], 6⟩
noncomputable def quorum_runs_R1 (t : Nat) (sp : Nat) (sc : Nat) (fm : Nat) (am : Nat) (n : Nat) (s : Nat → UInt64) (F : Fst) (n1 : Nat) (n2 : Nat) (n3 : Nat) (n4 : Nat) (x1 : (List Nat)) : Prop := (OrdN (rowM s F (ordD F.length n3)).length x1) ∧ (∀ j, j ∈ x1 → greatU (kvAt dR (rowM s F (ordD F.length n3)) j).2 (totN s n).a = false)
noncomputable def quorum_runs_mu1 (t : Nat) (sp : Nat) (sc : Nat) (fm : Nat) (am : Nat) (n : Nat) (s : Nat → UInt64) (F : Fst) (n1 : Nat) (n2 : Nat) (n3 : Nat) (n4 : Nat) (x1 : (List Nat)) : Nat := leftN x1 (rowM s F (ordD F.length n3)).length
theorem quorum_runs (t sp sc fm am n : Nat) (s : Nat → UInt64) (F : Fst) (hV : VOk n s F) : Runs Try.prog 18 [(ptr t 0)] [⟨t, false, 0, (.lit [(Value.slice (some ⟨sp, 0, none⟩) n sc), (u64 ((totN s n).a)), (Value.map (some fm)), (Value.map (some am))])⟩, ⟨sp, false, 0, (tabF n (fun k => u64 (s k)))⟩, ⟨fm, false, 0, (firC F)⟩] 0 (fun (_ : List Nat) => Value.tuple #[rowV (qV s F (totN s n).a), .bool (qB s F (totN s n).a)]) (fun (_ : List Nat) => [some ⟨t, false, 0, (.lit [(Value.slice (some ⟨sp, 0, none⟩) n sc), (u64 ((totN s n).a)), (Value.map (some fm)), (Value.map (some am))])⟩, some ⟨sp, false, 0, (tabF n (fun k => u64 (s k)))⟩, some ⟨fm, false, 0, (firC F)⟩]) :=
  runs_of_ev mix Try.func18 rfl rfl 400 (.regn [(0, .new), (1, .g)] (more (fun n1 => fun _ => (.regn [(0, .g), (1, (.call [(0, true), (1, true), (2, true)] 2 1 (fun ns => Value.map (some (ns.getD 0 0))) (fun ns => [none, none, none, some ⟨(ns.getD 0 0), true, 0, (rowC (rowM s F (ordD F.length (ns.getD 1 0))))⟩]))), (2, (.othB [(4, true)] 1 1 (fun ns => ptr (ns.getD 0 0) 0) (fun bs ns => [none, some ⟨(ns.getD 0 0), true, 0, itB bs⟩])))] (more (fun n2 => more (fun n3 => more (fun n4 => fun _ => (.inv [0, 2, 8] [0, 1, 2, 3, 4, 5] 6 (quorum_runs_R1 t sp sc fm am n s F n1 n2 n3 n4) (quorum_runs_S1 t sp sc fm am n s F n1 n2 n3 n4) (quorum_runs_mu1 t sp sc fm am n s F n1 n2 n3 n4) (([]) : (List Nat)) (fun (x1 : (List Nat)) => (.both (unseen x1 (rowM s F (ordD F.length n3)).length) (.regn [(0, (.oth [(5, false), (4, true)] 1 0 (fun ns => (Value.tuple #[(Value.bool true), (vecV 32 (fun k => u8 ((kvAt dR (rowM s F (ordD F.length n3)) (pk x1 (rowM s F (ordD F.length n3)).length (ns.getD 0 0))).1 k))), (u64 ((kvAt dR (rowM s F (ordD F.length n3)) (pk x1 (rowM s F (ordD F.length n3)).length (ns.getD 0 0))).2))])) (fun ns => [some ⟨n4, true, 0, (itC n2 (rowM s F (ordD F.length n3)).length (x1 ++ [pk x1 (rowM s F (ordD F.length n3)).length (ns.getD 0 0)]))⟩, none]))), (1, .g)] (more (fun n5 => fun _ => (.yes (.regn [(0, (.oth [(5, true), (4, true)] 0 0 (fun _ => (Value.tuple #[(vecV 32 (fun k => u8 ((kvAt dR (rowM s F (ordD F.length n3)) (pk x1 (rowM s F (ordD F.length n3)).length n5)).1 k))), (u64 ((kvAt dR (rowM s F (ordD F.length n3)) (pk x1 (rowM s F (ordD F.length n3)).length n5)).2))])) (fun _ => [none, none]))), (1, .g), (2, .g), (3, .new), (4, (.st 6 (.lit 0))), (5, .g)] (more (fun n6 => fun _ => (.reg [(0, .g), (1, .g), (2, .g), (3, .g), (4, (.ld 0 (.lit 1))), (5, (.call [] 0 0 (fun _ => (Value.bool (greatU ((kvAt dR (rowM s F (ordD F.length n3)) (pk x1 (rowM s F (ordD F.length n3)).length n5)).2) ((totN s n).a)))) (fun _ => [])))] (.br (.reg [(0, (.ld 6 (.lit 0))), (1, (.st 3 (.lit 0))), (2, .g)] .done) .done))))))))) (.reg [(0, (.oth [(5, true), (4, true)] 0 0 (fun _ => Value.tuple #[.bool false]) (fun _ => [none, none]))), (1, .g)] (.no (.reg [(0, .g), (1, (.st 3 (.lit 0))), (2, .g)] .done)))))))))))))) [(3, 0)] [] rfl
    (Eq.mp (by kernel_rfl) (fun (n1 : Nat) => And.intro (sk (sk trivial)) (fun (n2 n3 n4 : Nat) => And.intro (sk (And.intro (And.intro trivial (Runs.dark [true, true, true] (gather_row t sp sc fm am n s F hV))) (And.intro (And.intro trivial (SRuns.dark [true] (srun_rng (P := Try.prog) (mt := 78) (kv := rowV) (ev := u64) mT78.hm n2 false (rowM s F (ordD F.length n3))))) trivial))) (And.intro (show (quorum_runs_R1 t sp sc fm am n s F n1 n2 n3 n4) (([]) : (List Nat)) from (show (OrdN (rowM s F (ordD F.length n3)).length ([])) ∧ (∀ j, j ∈ ([]) → greatU (kvAt dR (rowM s F (ordD F.length n3)) j).2 (totN s n).a = false) from by exact ⟨OrdN.nil _, fun j hj => by cases hj⟩)) (And.intro (@rfl St ((quorum_runs_S1 t sp sc fm am n s F n1 n2 n3 n4) (([]) : (List Nat)))) (fun (x1 : (List Nat)) (hx1 : (quorum_runs_R1 t sp sc fm am n s F n1 n2 n3 n4) x1) => have B0 : OrdN (rowM s F (ordD F.length n3)).length x1 := hx1.1; have B1 : ∀ j, j ∈ x1 → greatU (kvAt dR (rowM s F (ordD F.length n3)) j).2 (totN s n).a = false := hx1.2; And.intro (fun (h1 : (unseen x1 (rowM s F (ordD F.length n3)).length) = true) => have f2 : (unseen x1 (rowM s F (ordD F.length n3)).length) = true := h1; fun (n5 : Nat) => And.intro (And.intro (And.intro trivial (SRuns.dark [false, true] (srun_nxt (P := Try.prog) (kv := rowV) (ev := u64) 0 n4 n2 false (rowM s F (ordD F.length n3)) x1 dR h1))) (sk trivial)) (And.intro trivial (And.intro (@rfl Bool true) (fun (n6 : Nat) => And.intro (And.intro (And.intro trivial (srun_ent (P := Try.prog) (kv := rowV) (ev := u64) n4 n2 false false (rowM s F (ordD F.length n3)) x1 (pk x1 (rowM s F (ordD F.length n3)).length n5) dR (show pk x1 (rowM s F (ordD F.length n3)).length n5 < (rowM s F (ordD F.length n3)).length from by have f3 : (pk x1 (rowM s F (ordD F.length n3)).length n5) < (rowM s F (ordD F.length n3)).length := ((pk_ok h1 n5)).1; omega))) (sk (sk (sk (And.intro (And.intro trivial (ad n6 0)) (sk trivial)))))) (And.intro (sk (sk (sk (sk (And.intro (And.intro trivial (ad t 1)) (And.intro (And.intro trivial (great_pure ((kvAt dR (rowM s F (ordD F.length n3)) (pk x1 (rowM s F (ordD F.length n3)).length n5)).2) ((totN s n).a))) trivial)))))) (And.intro trivial (And.intro (fun (h2 : (greatU ((kvAt dR (rowM s F (ordD F.length n3)) (pk x1 (rowM s F (ordD F.length n3)).length n5)).2) ((totN s n).a)) = true) => have f4 : (greatU ((kvAt dR (rowM s F (ordD F.length n3)) (pk x1 (rowM s F (ordD F.length n3)).length n5)).2) ((totN s n).a)) = true := h2; And.intro (And.intro (And.intro trivial (ad n6 0)) (And.intro (And.intro trivial (ad n1 0)) (sk trivial))) (And.intro (And.intro (@rfl Value (ptr n1 0)) trivial) (@Exists.intro (List Nat) (fun (ns : List Nat) => ns.length = 0 ∧ ((Value.tuple #[(vecV 32 (fun k => u8 ((kvAt dR (rowM s F (ordD F.length n3)) (pk x1 (rowM s F (ordD F.length n3)).length n5)).1 k))), (Value.bool true)]) : Value) = (fun (_ : List Nat) => Value.tuple #[rowV (qV s F (totN s n).a), .bool (qB s F (totN s n).a)]) ns ∧ ([some ⟨t, false, 0, (.lit [(Value.slice (some ⟨sp, 0, none⟩) n sc), (u64 ((totN s n).a)), (Value.map (some fm)), (Value.map (some am))])⟩, some ⟨sp, false, 0, (tabF n (fun k => u64 (s k)))⟩, some ⟨fm, false, 0, (firC F)⟩] : List (Option Blk)) = (fun (_ : List Nat) => [some ⟨t, false, 0, (.lit [(Value.slice (some ⟨sp, 0, none⟩) n sc), (u64 ((totN s n).a)), (Value.map (some fm)), (Value.map (some am))])⟩, some ⟨sp, false, 0, (tabF n (fun k => u64 (s k)))⟩, some ⟨fm, false, 0, (firC F)⟩]) ns) [] (And.intro (@rfl Nat 0) (And.intro ((show (Value.tuple #[(vecV 32 (fun k => u8 ((kvAt dR (rowM s F (ordD F.length n3)) (pk x1 (rowM s F (ordD F.length n3)).length n5)).1 k))), (Value.bool true)]) = Value.tuple #[rowV (qV s F (totN s n).a), .bool (qB s F (totN s n).a)] from q_end_yes hV (ordD_ok _ _) (pk_ok h1 _).1 h2)) (@rfl (List (Option Blk)) [some ⟨t, false, 0, (.lit [(Value.slice (some ⟨sp, 0, none⟩) n sc), (u64 ((totN s n).a)), (Value.map (some fm)), (Value.map (some am))])⟩, some ⟨sp, false, 0, (tabF n (fun k => u64 (s k)))⟩, some ⟨fm, false, 0, (firC F)⟩])))))) (fun (h2 : (greatU ((kvAt dR (rowM s F (ordD F.length n3)) (pk x1 (rowM s F (ordD F.length n3)).length n5)).2) ((totN s n).a)) = false) => have f4 : (greatU ((kvAt dR (rowM s F (ordD F.length n3)) (pk x1 (rowM s F (ordD F.length n3)).length n5)).2) ((totN s n).a)) = false := h2; (rnd (quorum_runs_R1 t sp sc fm am n s F n1 n2 n3 n4) (quorum_runs_S1 t sp sc fm am n s F n1 n2 n3 n4) (quorum_runs_mu1 t sp sc fm am n s F n1 n2 n3 n4) x1 ((x1 ++ [pk x1 (rowM s F (ordD F.length n3)).length n5]) : (List Nat)) (show (quorum_runs_R1 t sp sc fm am n s F n1 n2 n3 n4) ((x1 ++ [pk x1 (rowM s F (ordD F.length n3)).length n5]) : (List Nat)) ∧ (quorum_runs_mu1 t sp sc fm am n s F n1 n2 n3 n4) ((x1 ++ [pk x1 (rowM s F (ordD F.length n3)).length n5]) : (List Nat)) < (quorum_runs_mu1 t sp sc fm am n s F n1 n2 n3 n4) x1 from (show ((OrdN (rowM s F (ordD F.length n3)).length (x1 ++ [pk x1 (rowM s F (ordD F.length n3)).length n5])) ∧ (∀ j, j ∈ (x1 ++ [pk x1 (rowM s F (ordD F.length n3)).length n5]) → greatU (kvAt dR (rowM s F (ordD F.length n3)) j).2 (totN s n).a = false)) ∧ (leftN (x1 ++ [pk x1 (rowM s F (ordD F.length n3)).length n5]) (rowM s F (ordD F.length n3)).length) < (leftN x1 (rowM s F (ordD F.length n3)).length) from by have f3 : (pk x1 (rowM s F (ordD F.length n3)).length n5) < (rowM s F (ordD F.length n3)).length := ((pk_ok h1 n5)).1; exact ⟨⟨B0.snoc h1 _, fun j hj => by rcases List.mem_append.1 hj with hj | hj; exact B1 j hj; simp at hj; subst hj; exact h2⟩, leftN_lt (pk_ok h1 _).1 (pk_ok h1 _).2⟩))))))))))) (fun (h1 : (unseen x1 (rowM s F (ordD F.length n3)).length) = false) => have f2 : (unseen x1 (rowM s F (ordD F.length n3)).length) = false := h1; And.intro (And.intro (And.intro trivial (srun_nxt0 (P := Try.prog) (kv := rowV) (ev := u64) 0 n4 n2 false false (rowM s F (ordD F.length n3)) x1 h1)) (sk trivial)) (And.intro trivial (And.intro (@rfl Bool false) (And.intro (sk (And.intro (And.intro trivial (ad n1 0)) (sk trivial))) (And.intro (And.intro (@rfl Value (ptr n1 0)) trivial) (@Exists.intro (List Nat) (fun (ns : List Nat) => ns.length = 0 ∧ ((Value.tuple #[(Value.agg #[(u8 0), (u8 0), (u8 0), (u8 0), (u8 0), (u8 0), (u8 0), (u8 0), (u8 0), (u8 0), (u8 0), (u8 0), (u8 0), (u8 0), (u8 0), (u8 0), (u8 0), (u8 0), (u8 0), (u8 0), (u8 0), (u8 0), (u8 0), (u8 0), (u8 0), (u8 0), (u8 0), (u8 0), (u8 0), (u8 0), (u8 0), (u8 0)]), (Value.bool false)]) : Value) = (fun (_ : List Nat) => Value.tuple #[rowV (qV s F (totN s n).a), .bool (qB s F (totN s n).a)]) ns ∧ ([some ⟨t, false, 0, (.lit [(Value.slice (some ⟨sp, 0, none⟩) n sc), (u64 ((totN s n).a)), (Value.map (some fm)), (Value.map (some am))])⟩, some ⟨sp, false, 0, (tabF n (fun k => u64 (s k)))⟩, some ⟨fm, false, 0, (firC F)⟩] : List (Option Blk)) = (fun (_ : List Nat) => [some ⟨t, false, 0, (.lit [(Value.slice (some ⟨sp, 0, none⟩) n sc), (u64 ((totN s n).a)), (Value.map (some fm)), (Value.map (some am))])⟩, some ⟨sp, false, 0, (tabF n (fun k => u64 (s k)))⟩, some ⟨fm, false, 0, (firC F)⟩]) ns) [] (And.intro (@rfl Nat 0) (And.intro ((show (Value.tuple #[(Value.agg #[(u8 0), (u8 0), (u8 0), (u8 0), (u8 0), (u8 0), (u8 0), (u8 0), (u8 0), (u8 0), (u8 0), (u8 0), (u8 0), (u8 0), (u8 0), (u8 0), (u8 0), (u8 0), (u8 0), (u8 0), (u8 0), (u8 0), (u8 0), (u8 0), (u8 0), (u8 0), (u8 0), (u8 0), (u8 0), (u8 0), (u8 0), (u8 0)]), (Value.bool false)]) = Value.tuple #[rowV (qV s F (totN s n).a), .bool (qB s F (totN s n).a)] from q_end_no hV (ordD_ok _ _) h1 B1)) (@rfl (List (Option Blk)) [some ⟨t, false, 0, (.lit [(Value.slice (some ⟨sp, 0, none⟩) n sc), (u64 ((totN s n).a)), (Value.map (some fm)), (Value.map (some am))])⟩, some ⟨sp, false, 0, (tabF n (fun k => u64 (s k)))⟩, some ⟨fm, false, 0, (firC F)⟩])))))))))))))))
theorem voted_runs (t sp sc fm am n : Nat) (s : Nat → UInt64) (F : Fst) (who : Int) : Runs Try.prog 26 [(ptr t 0), (int who)] [⟨t, false, 0, (.lit [(Value.slice (some ⟨sp, 0, none⟩) n sc), (u64 ((totN s n).a)), (Value.map (some fm)), (Value.map (some am))])⟩, ⟨fm, false, 0, (firC F)⟩] 0 (fun (_ : List Nat) => Value.tuple #[rowV ((findE eqI who F).getD (fun _ => 0)), .bool (findE eqI who F).isSome]) (fun (_ : List Nat) => [some ⟨t, false, 0, (.lit [(Value.slice (some ⟨sp, 0, none⟩) n sc), (u64 ((totN s n).a)), (Value.map (some fm)), (Value.map (some am))])⟩, some ⟨fm, false, 0, (firC F)⟩]) :=
  runs_of_ev mix Try.func26 rfl rfl 400 (.regn [(0, .new), (1, .g)] (more (fun n1 => fun _ => (.regn [(0, .g), (1, .g), (2, .g), (3, (.ld 0 (.lit 2))), (4, .g), (5, (.oth [(1, true)] 0 0 (fun _ => (Value.tuple #[(vecV 32 (fun k => u8 ((findE eqI who F).getD (fun _ => 0) k))), (Value.bool ((findE eqI who F).isSome))])) (fun _ => [none]))), (6, .g), (7, .g), (8, .g), (9, .new), (10, (.st 3 (.lit 0))), (11, .g)] (more (fun n2 => fun _ => (.reg [(0, (.ld 3 (.lit 0))), (1, .g), (2, (.st 2 (.lit 0))), (3, .g)] .done))))))) [(2, 0)] [] rfl
    (Eq.mp (by kernel_rfl) (fun (n1 : Nat) => And.intro (sk (sk trivial)) (fun (n2 : Nat) => And.intro (sk (sk (sk (And.intro (And.intro trivial (ad t 2)) (sk (And.intro (And.intro trivial (srun_look (P := Try.prog) mT72 fm false F who)) (sk (sk (sk (sk (And.intro (And.intro trivial (ad n2 0)) (sk trivial)))))))))))) (And.intro (And.intro (And.intro trivial (ad n2 0)) (sk (And.intro (And.intro trivial (ad n1 0)) (sk trivial)))) (And.intro (And.intro (@rfl Value (ptr n1 0)) trivial) (@Exists.intro (List Nat) (fun (ns : List Nat) => ns.length = 0 ∧ ((Value.tuple #[(vecV 32 (fun k => u8 ((findE eqI who F).getD (fun _ => 0) k))), (Value.bool ((findE eqI who F).isSome))]) : Value) = (fun (_ : List Nat) => Value.tuple #[rowV ((findE eqI who F).getD (fun _ => 0)), .bool (findE eqI who F).isSome]) ns ∧ ([some ⟨t, false, 0, (.lit [(Value.slice (some ⟨sp, 0, none⟩) n sc), (u64 ((totN s n).a)), (Value.map (some fm)), (Value.map (some am))])⟩, some ⟨fm, false, 0, (firC F)⟩] : List (Option Blk)) = (fun (_ : List Nat) => [some ⟨t, false, 0, (.lit [(Value.slice (some ⟨sp, 0, none⟩) n sc), (u64 ((totN s n).a)), (Value.map (some fm)), (Value.map (some am))])⟩, some ⟨fm, false, 0, (firC F)⟩]) ns) [] (And.intro (@rfl Nat 0) (And.intro (@rfl Value (Value.tuple #[rowV ((findE eqI who F).getD (fun _ => 0)), .bool (findE eqI who F).isSome])) (@rfl (List (Option Blk)) [some ⟨t, false, 0, (.lit [(Value.slice (some ⟨sp, 0, none⟩) n sc), (u64 ((totN s n).a)), (Value.map (some fm)), (Value.map (some am))])⟩, some ⟨fm, false, 0, (firC F)⟩])))))))))
end Go.Proofs.Ytpjllbgipcfedaa
end
section
namespace Go.Proofs.Ytpjllbgipcfedaa
open Go Go.Eng
set_option linter.unusedVariables false
set_option linter.unusedSimpArgs false
set_option maxRecDepth 100000
theorem vote_runs (t sp sc fm am n : Nat) (s : Nat → UInt64) (F : Fst) (A : List (Int × Unit)) (who : Int) (v : Nat → UInt8) (hn : n ≤ 40) : Runs Try.prog 16 [(ptr t 0), (int who), (vecV 32 (fun k => u8 (v k)))] [⟨t, false, 0, (.lit [(Value.slice (some ⟨sp, 0, none⟩) n sc), (u64 ((totN s n).a)), (Value.map (some fm)), (Value.map (some am))])⟩, ⟨sp, false, 0, (tabF n (fun k => u64 (s k)))⟩, ⟨fm, true, 0, (firC F)⟩, ⟨am, true, 0, (agaC A)⟩] 0 (fun (_ : List Nat) => int (voteE n s F who v)) (fun (_ : List Nat) => [some ⟨t, false, 0, (.lit [(Value.slice (some ⟨sp, 0, none⟩) n sc), (u64 ((totN s n).a)), (Value.map (some fm)), (Value.map (some am))])⟩, some ⟨sp, false, 0, (tabF n (fun k => u64 (s k)))⟩, some ⟨fm, true, 0, (firC (voteF n s F who v))⟩, some ⟨am, true, 0, (agaC (voteA n s F A who v))⟩]) :=
  runs_of_ev mix Try.func16 rfl rfl 400 (.regn [(0, .new), (1, .g)] (more (fun n1 => fun _ => (.reg [(0, .g), (1, .g), (2, .g), (3, .opt .g), (4, .opt .g), (5, .opt .g), (6, .opt .g), (7, .opt (.ld 0 (.lit 0))), (8, .opt (.as (nat n))), (9, .opt .g), (10, .pk)] (.br (.reg [(0, .g)] .done) (.reg [(0, .g), (1, .g), (2, .g), (3, (.ld 0 (.lit 0))), (4, (.as (nat who.toNat))), (5, (.as (ptr sp (0 + who.toNat * 1)))), (6, (.ld 1 (.tab who.toNat 0))), (7, (.as (Value.bool ((s who.toNat) == 0))))] (.br (.reg [(0, .g)] .done) (.regn [(0, .g), (1, .g), (2, (.call [(0, true), (2, true)] 0 0 (fun _ => (Value.tuple #[(vecV 32 (fun k => u8 ((findE eqI who F).getD (fun _ => 0) k))), (Value.bool ((findE eqI who F).isSome))])) (fun _ => [none, none]))), (3, .g), (4, .g), (5, .g), (6, .new), (7, (.st 5 (.lit 0))), (8, .g)] (more (fun n2 => fun _ => (.reg [(0, .g), (1, .g), (2, .g)] (.br (.reg [(0, .g), (1, .g), (2, .g), (3, (.ld 0 (.lit 2))), (4, .g), (5, (.ld 4 (.lit 0))), (6, (.upd 2 (firC (putE eqI who v F))))] (.reg [(0, .g)] .done)) (.reg [(0, (.ld 5 (.lit 0))), (1, (.ld 4 (.lit 0))), (2, (.as (Value.bool (sR ((findE eqI who F).getD (fun _ => 0)) v)))), (3, .g)] (.br (.reg [(0, .g)] .done) (.reg [(0, .g), (1, .g), (2, .g), (3, (.ld 0 (.lit 3))), (4, .g), (5, .g), (6, (.upd 3 (agaC (putE eqI who () A))))] (.reg [(0, .g)] .done)))))))))))))))) [] [] rfl
    (have f0 : n ≤ 40 := hn; Eq.mp (by kernel_rfl) (fun (n1 : Nat) => And.intro (sk (sk trivial)) (And.intro (sk (sk (sk (And.intro (fun (hg : (sameB (decide ((who : Int) < 0)) false) = true) => t2) (And.intro (fun (hg : (sameB (decide ((who : Int) < 0)) false) = true) => t2) (And.intro (fun (hg : (sameB (decide ((who : Int) < 0)) false) = true) => (And.intro (And.intro hg trivial) trivial)) (And.intro (fun (hg : (sameB (decide ((who : Int) < 0)) false) = true) => (And.intro (And.intro hg trivial) trivial)) (And.intro (fun (hg : (sameB (decide ((who : Int) < 0)) false) = true) => (And.intro (And.intro hg trivial) (ad t 0))) (And.intro (fun (hg : (sameB (decide ((who : Int) < 0)) false) = true) => have f1 : ¬ ((who : Int) < 0) := (of_decide_eq_false (sameB_f hg)); (And.intro (And.intro hg trivial) (@is_len Try.prog 22 26 (.tmp 16) (by kernel_rfl) (some ⟨sp, 0, none⟩) n sc))) (And.intro (fun (hg : (sameB (decide ((who : Int) < 0)) false) = true) => (And.intro (And.intro hg (And.intro hg trivial)) trivial)) (And.intro (And.intro trivial (And.intro (fun (_ : (decide ((who : Int) < 0)) = true) => trivial) (fun (hp : (decide ((who : Int) < 0)) = false) => (sameB_mkf hp)))) trivial))))))))))) (And.intro trivial (And.intro (fun (h1 : (selB (decide ((who : Int) < 0)) true (decide ((who : Int) ≥ ((n : Nat) : Int)))) = true) => have f1 : (((who : Int) < 0)) ∨ (((who : Int) ≥ ((n : Nat) : Int))) := (Or.imp (fun h => (of_decide_eq_true h)) (fun h => (of_decide_eq_true h)) (sbor_t h1)); And.intro (sk trivial) (And.intro trivial (@Exists.intro (List Nat) (fun (ns : List Nat) => ns.length = 0 ∧ ((int 1) : Value) = (fun (_ : List Nat) => int (voteE n s F who v)) ns ∧ ([some ⟨t, false, 0, (.lit [(Value.slice (some ⟨sp, 0, none⟩) n sc), (u64 ((totN s n).a)), (Value.map (some fm)), (Value.map (some am))])⟩, some ⟨sp, false, 0, (tabF n (fun k => u64 (s k)))⟩, some ⟨fm, true, 0, (firC F)⟩, some ⟨am, true, 0, (agaC A)⟩] : List (Option Blk)) = (fun (_ : List Nat) => [some ⟨t, false, 0, (.lit [(Value.slice (some ⟨sp, 0, none⟩) n sc), (u64 ((totN s n).a)), (Value.map (some fm)), (Value.map (some am))])⟩, some ⟨sp, false, 0, (tabF n (fun k => u64 (s k)))⟩, some ⟨fm, true, 0, (firC (voteF n s F who v))⟩, some ⟨am, true, 0, (agaC (voteA n s F A who v))⟩]) ns) [] (And.intro (@rfl Nat 0) (And.intro ((show (int 1) = int (voteE n s F who v) from by rw [vote_1 (by omega)])) ((show ([some ⟨t, false, 0, (.lit [(Value.slice (some ⟨sp, 0, none⟩) n sc), (u64 ((totN s n).a)), (Value.map (some fm)), (Value.map (some am))])⟩, some ⟨sp, false, 0, (tabF n (fun k => u64 (s k)))⟩, some ⟨fm, true, 0, (firC F)⟩, some ⟨am, true, 0, (agaC A)⟩] : List (Option Blk)) = [some ⟨t, false, 0, (.lit [(Value.slice (some ⟨sp, 0, none⟩) n sc), (u64 ((totN s n).a)), (Value.map (some fm)), (Value.map (some am))])⟩, some ⟨sp, false, 0, (tabF n (fun k => u64 (s k)))⟩, some ⟨fm, true, 0, (firC (voteF n s F who v))⟩, some ⟨am, true, 0, (agaC (voteA n s F A who v))⟩] from by rw [(vote_res (A := A) (vote_1 (by omega)) (by decide) (by decide)).1, (vote_res (A := A) (vote_1 (by omega)) (by decide) (by decide)).2]))))))) (fun (h1 : (selB (decide ((who : Int) < 0)) true (decide ((who : Int) ≥ ((n : Nat) : Int)))) = false) => have f1 : ¬ ((who : Int) < 0) := (of_decide_eq_false (sbor_l h1)); have f2 : ¬ ((who : Int) ≥ ((n : Nat) : Int)) := (of_decide_eq_false (sbor_r h1)); And.intro (sk (sk (sk (And.intro (And.intro trivial (ad t 0)) (And.intro (And.intro trivial (@is_move_nat Try.prog (.tmp 1) who who.toNat (show (who : Int) = ((who.toNat : Nat) : Int) from by omega))) (And.intro (And.intro trivial (@is_ixSl Try.prog 22 26 (.tmp 23) (.tmp 24) 1 (by kernel_rfl) (by kernel_rfl) sp 0 n sc who.toNat (show who.toNat < n from by omega))) (And.intro (And.intro trivial (And.intro (show who.toNat < n from by omega) (@rfl Value (ptr sp (0 + who.toNat * 1))))) (And.intro (And.intro trivial (@is_eql64 Try.prog 26 26 (.tmp 26) (.const (.int .u64 0)) (s who.toNat) 0)) trivial)))))))) (And.intro trivial (And.intro (fun (h2 : ((s who.toNat) == 0) = true) => have f3 : ((s who.toNat) == 0) = true := h2; And.intro (sk trivial) (And.intro trivial (@Exists.intro (List Nat) (fun (ns : List Nat) => ns.length = 0 ∧ ((int 51) : Value) = (fun (_ : List Nat) => int (voteE n s F who v)) ns ∧ ([some ⟨t, false, 0, (.lit [(Value.slice (some ⟨sp, 0, none⟩) n sc), (u64 ((totN s n).a)), (Value.map (some fm)), (Value.map (some am))])⟩, some ⟨sp, false, 0, (tabF n (fun k => u64 (s k)))⟩, some ⟨fm, true, 0, (firC F)⟩, some ⟨am, true, 0, (agaC A)⟩] : List (Option Blk)) = (fun (_ : List Nat) => [some ⟨t, false, 0, (.lit [(Value.slice (some ⟨sp, 0, none⟩) n sc), (u64 ((totN s n).a)), (Value.map (some fm)), (Value.map (some am))])⟩, some ⟨sp, false, 0, (tabF n (fun k => u64 (s k)))⟩, some ⟨fm, true, 0, (firC (voteF n s F who v))⟩, some ⟨am, true, 0, (agaC (voteA n s F A who v))⟩]) ns) [] (And.intro (@rfl Nat 0) (And.intro ((show (int 51) = int (voteE n s F who v) from by rw [vote_51 (by omega) h2])) ((show ([some ⟨t, false, 0, (.lit [(Value.slice (some ⟨sp, 0, none⟩) n sc), (u64 ((totN s n).a)), (Value.map (some fm)), (Value.map (some am))])⟩, some ⟨sp, false, 0, (tabF n (fun k => u64 (s k)))⟩, some ⟨fm, true, 0, (firC F)⟩, some ⟨am, true, 0, (agaC A)⟩] : List (Option Blk)) = [some ⟨t, false, 0, (.lit [(Value.slice (some ⟨sp, 0, none⟩) n sc), (u64 ((totN s n).a)), (Value.map (some fm)), (Value.map (some am))])⟩, some ⟨sp, false, 0, (tabF n (fun k => u64 (s k)))⟩, some ⟨fm, true, 0, (firC (voteF n s F who v))⟩, some ⟨am, true, 0, (agaC (voteA n s F A who v))⟩] from by rw [(vote_res (A := A) (vote_51 (by omega) h2) (by decide) (by decide)).1, (vote_res (A := A) (vote_51 (by omega) h2) (by decide) (by decide)).2]))))))) (fun (h2 : ((s who.toNat) == 0) = false) => have f3 : ((s who.toNat) == 0) = false := h2; fun (n2 : Nat) => And.intro (sk (sk (And.intro (And.intro trivial (Runs.dark [true, true] (voted_runs t sp sc fm am n s F who))) (sk (sk (sk (sk (And.intro (And.intro trivial (ad n2 0)) (sk trivial))))))))) (And.intro (sk (sk (sk trivial))) (And.intro trivial (And.intro (fun (h3 : (!((findE eqI who F).isSome)) = true) => have f4 : ((findE eqI who F).isSome) = false := (bnot_t h3); And.intro (sk (sk (sk (And.intro (And.intro trivial (ad t 2)) (sk (And.intro (And.intro trivial (ad n1 0)) (And.intro (And.intro trivial (srun_upd (P := Try.prog) mT72 fm F who v)) trivial))))))) (And.intro (sk trivial) (And.intro trivial (@Exists.intro (List Nat) (fun (ns : List Nat) => ns.length = 0 ∧ ((int 0) : Value) = (fun (_ : List Nat) => int (voteE n s F who v)) ns ∧ ([some ⟨t, false, 0, (.lit [(Value.slice (some ⟨sp, 0, none⟩) n sc), (u64 ((totN s n).a)), (Value.map (some fm)), (Value.map (some am))])⟩, some ⟨sp, false, 0, (tabF n (fun k => u64 (s k)))⟩, some ⟨fm, true, 0, (firC (putE eqI who v F))⟩, some ⟨am, true, 0, (agaC A)⟩] : List (Option Blk)) = (fun (_ : List Nat) => [some ⟨t, false, 0, (.lit [(Value.slice (some ⟨sp, 0, none⟩) n sc), (u64 ((totN s n).a)), (Value.map (some fm)), (Value.map (some am))])⟩, some ⟨sp, false, 0, (tabF n (fun k => u64 (s k)))⟩, some ⟨fm, true, 0, (firC (voteF n s F who v))⟩, some ⟨am, true, 0, (agaC (voteA n s F A who v))⟩]) ns) [] (And.intro (@rfl Nat 0) (And.intro ((show (int 0) = int (voteE n s F who v) from by rw [vote_0 (by omega) h2 (bnot_t h3)])) ((show ([some ⟨t, false, 0, (.lit [(Value.slice (some ⟨sp, 0, none⟩) n sc), (u64 ((totN s n).a)), (Value.map (some fm)), (Value.map (some am))])⟩, some ⟨sp, false, 0, (tabF n (fun k => u64 (s k)))⟩, some ⟨fm, true, 0, (firC (putE eqI who v F))⟩, some ⟨am, true, 0, (agaC A)⟩] : List (Option Blk)) = [some ⟨t, false, 0, (.lit [(Value.slice (some ⟨sp, 0, none⟩) n sc), (u64 ((totN s n).a)), (Value.map (some fm)), (Value.map (some am))])⟩, some ⟨sp, false, 0, (tabF n (fun k => u64 (s k)))⟩, some ⟨fm, true, 0, (firC (voteF n s F who v))⟩, some ⟨am, true, 0, (agaC (voteA n s F A who v))⟩] from by rw [(voteF_0 (A := A) (vote_0 (by omega) h2 (bnot_t h3))).1, (voteF_0 (A := A) (vote_0 (by omega) h2 (bnot_t h3))).2])))))))) (fun (h3 : (!((findE eqI who F).isSome)) = false) => have f4 : ((findE eqI who F).isSome) = true := (bnot_f h3); And.intro (And.intro (And.intro trivial (ad n2 0)) (And.intro (And.intro trivial (ad n1 0)) (And.intro (And.intro trivial (is_eqlR (P := Try.prog) (t := 25) (t' := 25) (x := (.tmp 44)) (y := (.tmp 45)) digT digE digS digG ((findE eqI who F).getD (fun _ => 0)) v)) (sk trivial)))) (And.intro trivial (And.intro (fun (h4 : (sR ((findE eqI who F).getD (fun _ => 0)) v) = true) => have f5 : (sR ((findE eqI who F).getD (fun _ => 0)) v) = true := h4; And.intro (sk trivial) (And.intro trivial (@Exists.intro (List Nat) (fun (ns : List Nat) => ns.length = 0 ∧ ((int 13) : Value) = (fun (_ : List Nat) => int (voteE n s F who v)) ns ∧ ([some ⟨t, false, 0, (.lit [(Value.slice (some ⟨sp, 0, none⟩) n sc), (u64 ((totN s n).a)), (Value.map (some fm)), (Value.map (some am))])⟩, some ⟨sp, false, 0, (tabF n (fun k => u64 (s k)))⟩, some ⟨fm, true, 0, (firC F)⟩, some ⟨am, true, 0, (agaC A)⟩] : List (Option Blk)) = (fun (_ : List Nat) => [some ⟨t, false, 0, (.lit [(Value.slice (some ⟨sp, 0, none⟩) n sc), (u64 ((totN s n).a)), (Value.map (some fm)), (Value.map (some am))])⟩, some ⟨sp, false, 0, (tabF n (fun k => u64 (s k)))⟩, some ⟨fm, true, 0, (firC (voteF n s F who v))⟩, some ⟨am, true, 0, (agaC (voteA n s F A who v))⟩]) ns) [] (And.intro (@rfl Nat 0) (And.intro ((show (int 13) = int (voteE n s F who v) from by rw [vote_13 (by omega) h2 (bnot_f h3) h4])) ((show ([some ⟨t, false, 0, (.lit [(Value.slice (some ⟨sp, 0, none⟩) n sc), (u64 ((totN s n).a)), (Value.map (some fm)), (Value.map (some am))])⟩, some ⟨sp, false, 0, (tabF n (fun k => u64 (s k)))⟩, some ⟨fm, true, 0, (firC F)⟩, some ⟨am, true, 0, (agaC A)⟩] : List (Option Blk)) = [some ⟨t, false, 0, (.lit [(Value.slice (some ⟨sp, 0, none⟩) n sc), (u64 ((totN s n).a)), (Value.map (some fm)), (Value.map (some am))])⟩, some ⟨sp, false, 0, (tabF n (fun k => u64 (s k)))⟩, some ⟨fm, true, 0, (firC (voteF n s F who v))⟩, some ⟨am, true, 0, (agaC (voteA n s F A who v))⟩] from by rw [(vote_res (A := A) (vote_13 (by omega) h2 (bnot_f h3) h4) (by decide) (by decide)).1, (vote_res (A := A) (vote_13 (by omega) h2 (bnot_f h3) h4) (by decide) (by decide)).2]))))))) (fun (h4 : (sR ((findE eqI who F).getD (fun _ => 0)) v) = false) => have f5 : (sR ((findE eqI who F).getD (fun _ => 0)) v) = false := h4; And.intro (sk (sk (sk (And.intro (And.intro trivial (ad t 3)) (sk (sk (And.intro (And.intro trivial (srun_upd (P := Try.prog) mT73 am A who ())) trivial))))))) (And.intro (sk trivial) (And.intro trivial (@Exists.intro (List Nat) (fun (ns : List Nat) => ns.length = 0 ∧ ((int 52) : Value) = (fun (_ : List Nat) => int (voteE n s F who v)) ns ∧ ([some ⟨t, false, 0, (.lit [(Value.slice (some ⟨sp, 0, none⟩) n sc), (u64 ((totN s n).a)), (Value.map (some fm)), (Value.map (some am))])⟩, some ⟨sp, false, 0, (tabF n (fun k => u64 (s k)))⟩, some ⟨fm, true, 0, (firC F)⟩, some ⟨am, true, 0, (agaC (putE eqI who () A))⟩] : List (Option Blk)) = (fun (_ : List Nat) => [some ⟨t, false, 0, (.lit [(Value.slice (some ⟨sp, 0, none⟩) n sc), (u64 ((totN s n).a)), (Value.map (some fm)), (Value.map (some am))])⟩, some ⟨sp, false, 0, (tabF n (fun k => u64 (s k)))⟩, some ⟨fm, true, 0, (firC (voteF n s F who v))⟩, some ⟨am, true, 0, (agaC (voteA n s F A who v))⟩]) ns) [] (And.intro (@rfl Nat 0) (And.intro ((show (int 52) = int (voteE n s F who v) from by rw [vote_52 (by omega) h2 (bnot_f h3) h4])) ((show ([some ⟨t, false, 0, (.lit [(Value.slice (some ⟨sp, 0, none⟩) n sc), (u64 ((totN s n).a)), (Value.map (some fm)), (Value.map (some am))])⟩, some ⟨sp, false, 0, (tabF n (fun k => u64 (s k)))⟩, some ⟨fm, true, 0, (firC F)⟩, some ⟨am, true, 0, (agaC (putE eqI who () A))⟩] : List (Option Blk)) = [some ⟨t, false, 0, (.lit [(Value.slice (some ⟨sp, 0, none⟩) n sc), (u64 ((totN s n).a)), (Value.map (some fm)), (Value.map (some am))])⟩, some ⟨sp, false, 0, (tabF n (fun k => u64 (s k)))⟩, some ⟨fm, true, 0, (firC (voteF n s F who v))⟩, some ⟨am, true, 0, (agaC (voteA n s F A who v))⟩] from by rw [(voteA_52 (A := A) (vote_52 (by omega) h2 (bnot_f h3) h4)).1, (voteA_52 (A := A) (vote_52 (by omega) h2 (bnot_f h3) h4)).2])))))))))))))))))))))))
theorem vnew_z (ao : Option Addr) (c : Nat) : Runs Try.prog 13 [(Value.slice ao 0 c)] [] 0 (fun (_ : List Nat) => Value.tuple #[.pointer none, int 2]) (fun (_ : List Nat) => []) :=
  runs_of_ev mix Try.func13 rfl rfl 400 (.reg [(0, .g), (1, .g)] (.reg [(0, .g), (1, (.as (int 0))), (2, .g), (3, .g), (4, .skip), (5, .skip), (6, .skip), (7, .pk)] (.yes (.reg [(0, .g), (1, .g)] .done)))) [] [] rfl
    (Eq.mp (by kernel_rfl) (And.intro (sk (sk trivial)) (And.intro (sk (And.intro (And.intro trivial (@is_len Try.prog 22 26 (.tmp 5) (by kernel_rfl) ao 0 c)) (sk (sk (And.intro (@rfl Bool false) (And.intro (@rfl Bool false) (And.intro (@rfl Bool false) (And.intro (And.intro trivial (And.intro (fun (_ : true = true) => trivial) (fun (_ : true = false) => trivial))) trivial)))))))) (And.intro trivial (And.intro (@rfl Bool true) (And.intro (sk (sk trivial)) (And.intro trivial (@Exists.intro (List Nat) (fun (ns : List Nat) => ns.length = 0 ∧ ((Value.tuple #[(Value.pointer none), (int 2)]) : Value) = (fun (_ : List Nat) => Value.tuple #[.pointer none, int 2]) ns ∧ ([] : List (Option Blk)) = (fun (_ : List Nat) => []) ns) [] (And.intro (@rfl Nat 0) (And.intro (@rfl Value (Value.tuple #[.pointer none, int 2])) (@rfl (List (Option Blk)) [])))))))))))
theorem vnew_bad (p o n c : Nat) (f : Nat → UInt64) (hp : 0 < n) (hn : n ≤ 9223372036854775807) (hg : ¬ goodN n f) : Runs Try.prog 13 [(Value.slice (some ⟨p, o, none⟩) n c)] [⟨p, false, o, (tabF n (fun k => u64 (f k)))⟩] 0 (fun (_ : List Nat) => Value.tuple #[.pointer none, int (newE n f)]) (fun (_ : List Nat) => [some ⟨p, false, o, (tabF n (fun k => u64 (f k)))⟩]) :=
  runs_of_ev mix Try.func13 rfl rfl 400 (.reg [(0, .g), (1, .g)] (.reg [(0, .g), (1, (.as (nat n))), (2, (.as (Value.bool (decide (n < 1))))), (3, .g), (4, .opt .g), (5, .opt (.as (nat n))), (6, .opt (.as (Value.bool (decide (40 < n))))), (7, .pk)] (.br (.reg [(0, .g), (1, .g)] .done) (.regn [(0, .g), (1, (.call [(0, true)] 0 0 (fun _ => (nat4 (totN f n))) (fun _ => [none]))), (2, .new), (3, (.st 1 (.lit 0)))] (more (fun n1 => fun _ => (.reg [(0, (.ld 1 (.lit 0))), (1, (.call [] 0 0 (fun _ => (nat (len4 (totN f n)))) (fun _ => []))), (2, (.as (Value.bool (decide (63 < (len4 (totN f n)))))))] (.yes (.reg [(0, .g), (1, .g)] .done))))))))) [] [] rfl
    (have f0 : 0 < n := hp; have f1 : n ≤ 9223372036854775807 := hn; Eq.mp (by kernel_rfl) (And.intro (sk (sk trivial)) (And.intro (sk (And.intro (And.intro trivial (@is_len Try.prog 22 26 (.tmp 5) (by kernel_rfl) (some ⟨p, o, none⟩) n c)) (And.intro (And.intro trivial (@is_lssn Try.prog 3 3 (.tmp 6) (.const (.int .i64 1))  n 1)) (sk (And.intro (fun (hg : (sameB (decide (n < 1)) false) = true) => t2) (And.intro (fun (hg : (sameB (decide (n < 1)) false) = true) => have f2 : ¬ (n < 1) := (of_decide_eq_false (sameB_f hg)); (And.intro (And.intro hg trivial) (@is_len Try.prog 22 26 (.tmp 9) (by kernel_rfl) (some ⟨p, o, none⟩) n c))) (And.intro (fun (hg : (sameB (decide (n < 1)) false) = true) => (And.intro (And.intro hg trivial) (@is_gtrn Try.prog 3 3 (.tmp 10) (.const (.int .i64 40))  n 40))) (And.intro (And.intro trivial (And.intro (fun (_ : (decide (n < 1)) = true) => trivial) (fun (hp : (decide (n < 1)) = false) => (sameB_mkf hp)))) trivial)))))))) (And.intro trivial (And.intro (fun (h1 : (selB (decide (n < 1)) true (decide (40 < n))) = true) => have f2 : ((n < 1)) ∨ ((40 < n)) := (Or.imp (fun h => (of_decide_eq_true h)) (fun h => (of_decide_eq_true h)) (sbor_t h1)); And.intro (sk (sk trivial)) (And.intro trivial (@Exists.intro (List Nat) (fun (ns : List Nat) => ns.length = 0 ∧ ((Value.tuple #[(Value.pointer none), (int 2)]) : Value) = (fun (_ : List Nat) => Value.tuple #[.pointer none, int (newE n f)]) ns ∧ ([some ⟨p, false, o, (tabF n (fun k => u64 (f k)))⟩] : List (Option Blk)) = (fun (_ : List Nat) => [some ⟨p, false, o, (tabF n (fun k => u64 (f k)))⟩]) ns) [] (And.intro (@rfl Nat 0) (And.intro ((show (Value.tuple #[(Value.pointer none), (int 2)]) = Value.tuple #[.pointer none, int (newE n f)] from by unfold newE; rw [if_pos (by omega)] <;> rfl)) (@rfl (List (Option Blk)) [some ⟨p, false, o, (tabF n (fun k => u64 (f k)))⟩])))))) (fun (h1 : (selB (decide (n < 1)) true (decide (40 < n))) = false) => have f2 : ¬ (n < 1) := (of_decide_eq_false (sbor_l h1)); have f3 : ¬ (40 < n) := (of_decide_eq_false (sbor_r h1)); fun (n1 : Nat) => And.intro (sk (And.intro (And.intro trivial (Runs.dark [true] (total_runs p o n c f (show n ≤ 9223372036854775807 from by omega)))) (sk (And.intro (And.intro trivial (ad n1 0)) trivial)))) (And.intro (And.intro (And.intro trivial (ad n1 0)) (And.intro (And.intro trivial (len_pure (totN f n))) (And.intro (And.intro trivial (@is_gtrn Try.prog 3 3 (.tmp 16) (.const (.int .i64 63))  (len4 (totN f n)) 63)) trivial))) ((fun (hp2 : (decide (63 < (len4 (totN f n)))) = true) => have f4 : (63 < (len4 (totN f n))) := (of_decide_eq_true hp2); And.intro trivial (And.intro hp2 (And.intro (sk (sk trivial)) (And.intro trivial (@Exists.intro (List Nat) (fun (ns : List Nat) => ns.length = 0 ∧ ((Value.tuple #[(Value.pointer none), (int 10)]) : Value) = (fun (_ : List Nat) => Value.tuple #[.pointer none, int (newE n f)]) ns ∧ ([some ⟨p, false, o, (tabF n (fun k => u64 (f k)))⟩] : List (Option Blk)) = (fun (_ : List Nat) => [some ⟨p, false, o, (tabF n (fun k => u64 (f k)))⟩]) ns) [] (And.intro (@rfl Nat 0) (And.intro ((show (Value.tuple #[(Value.pointer none), (int 10)]) = Value.tuple #[.pointer none, int (newE n f)] from by unfold newE; rw [if_neg (by omega)] <;> rfl)) (@rfl (List (Option Blk)) [some ⟨p, false, o, (tabF n (fun k => u64 (f k)))⟩])))))))) (show (decide (63 < (len4 (totN f n)))) = true from by exact decide_eq_true (Decidable.byContradiction fun h => hg ⟨by omega, by omega⟩))))))))))
theorem vnew_good (p o n c : Nat) (f : Nat → UInt64) (hp : 0 < n) (hg : goodN n f) : Runs Try.prog 13 [(Value.slice (some ⟨p, o, none⟩) n c)] [⟨p, false, o, (tabF n (fun k => u64 (f k)))⟩] 5 (fun (ns : List Nat) => (Value.tuple #[(ptr (ns.getD 0 0) 0), (int 0)])) (fun (ns : List Nat) => [some ⟨p, false, o, (tabF n (fun k => u64 (f k)))⟩, some ⟨(ns.getD 0 0), true, 0, (.lit [(Value.slice (some ⟨(ns.getD 1 0), 0, none⟩) n (n + (ns.getD 2 0))), (u64 ((totN f n).a)), (Value.map (some (ns.getD 3 0))), (Value.map (some (ns.getD 4 0)))])⟩, some ⟨(ns.getD 1 0), true, 0, (tabF n (fun k => u64 (f k)))⟩, some ⟨(ns.getD 3 0), true, 0, (firC ([]))⟩, some ⟨(ns.getD 4 0), true, 0, (agaC ([]))⟩]) :=
  runs_of_ev mix Try.func13 rfl rfl 400 (.reg [(0, .g), (1, .g)] (.reg [(0, .g), (1, (.as (nat n))), (2, (.as (Value.bool (decide (n < 1))))), (3, .g), (4, .opt .g), (5, .opt (.as (nat n))), (6, .opt (.as (Value.bool (decide (40 < n))))), (7, .pk)] (.no (.regn [(0, .g), (1, (.call [(0, true)] 0 0 (fun _ => (nat4 (totN f n))) (fun _ => [none]))), (2, .new), (3, (.st 1 (.lit 0)))] (more (fun n1 => fun _ => (.reg [(0, (.ld 1 (.lit 0))), (1, (.call [] 0 0 (fun _ => (nat (len4 (totN f n)))) (fun _ => []))), (2, (.as (Value.bool (decide (63 < (len4 (totN f n)))))))] (.no (.regn [(0, .g), (1, (.call [(0, true)] 2 1 (fun ns => Value.slice (some ⟨(ns.getD 0 0), 0, none⟩) n (n + (ns.getD 1 0))) (fun ns => [none, some ⟨(ns.getD 0 0), true, 0, (tabF n (fun k => u64 (f k)))⟩]))), (2, .g), (3, (.ld 1 (.lit 0))), (4, (.oth [] 1 1 (fun ns => Value.map (some (ns.getD 0 0))) (fun ns => [some ⟨ns.getD 0 0, true, 0, firC []⟩]))), (5, (.oth [] 1 1 (fun ns => Value.map (some (ns.getD 0 0))) (fun ns => [some ⟨ns.getD 0 0, true, 0, agaC []⟩]))), (6, .g), (7, .new), (8, .g), (9, .g)] (more (fun n2 => more (fun n3 => more (fun n4 => more (fun n5 => more (fun n6 => fun _ => .done))))))))))))))) [] [5, 2, 3, 4] rfl
    (have f0 : 0 < n := hp; have f1 : n ≤ 40 := hg.1; Eq.mp (by kernel_rfl) (And.intro (sk (sk trivial)) (And.intro (sk (And.intro (And.intro trivial (@is_len Try.prog 22 26 (.tmp 5) (by kernel_rfl) (some ⟨p, o, none⟩) n c)) (And.intro (And.intro trivial (@is_lssn Try.prog 3 3 (.tmp 6) (.const (.int .i64 1))  n 1)) (sk (And.intro (fun (hg : (sameB (decide (n < 1)) false) = true) => t2) (And.intro (fun (hg : (sameB (decide (n < 1)) false) = true) => have f2 : ¬ (n < 1) := (of_decide_eq_false (sameB_f hg)); (And.intro (And.intro hg trivial) (@is_len Try.prog 22 26 (.tmp 9) (by kernel_rfl) (some ⟨p, o, none⟩) n c))) (And.intro (fun (hg : (sameB (decide (n < 1)) false) = true) => (And.intro (And.intro hg trivial) (@is_gtrn Try.prog 3 3 (.tmp 10) (.const (.int .i64 40))  n 40))) (And.intro (And.intro trivial (And.intro (fun (_ : (decide (n < 1)) = true) => trivial) (fun (hp : (decide (n < 1)) = false) => (sameB_mkf hp)))) trivial)))))))) ((fun (hp1 : (selB (decide (n < 1)) true (decide (40 < n))) = false) => have f2 : ¬ (n < 1) := (of_decide_eq_false (sbor_l hp1)); have f3 : ¬ (40 < n) := (of_decide_eq_false (sbor_r hp1)); And.intro trivial (And.intro hp1 (fun (n1 : Nat) => And.intro (sk (And.intro (And.intro trivial (Runs.dark [true] (total_runs p o n c f (show n ≤ 9223372036854775807 from by omega)))) (sk (And.intro (And.intro trivial (ad n1 0)) trivial)))) (And.intro (And.intro (And.intro trivial (ad n1 0)) (And.intro (And.intro trivial (len_pure (totN f n))) (And.intro (And.intro trivial (@is_gtrn Try.prog 3 3 (.tmp 16) (.const (.int .i64 63))  (len4 (totN f n)) 63)) trivial))) ((fun (hp2 : (decide (63 < (len4 (totN f n)))) = false) => have f4 : ¬ (63 < (len4 (totN f n))) := (of_decide_eq_false hp2); And.intro trivial (And.intro hp2 (fun (n2 n3 n4 n5 n6 : Nat) => And.intro (sk (And.intro (And.intro trivial (Runs.dark [true] (clone_runs p o n c f (show 0 < n ∧ n ≤ 40 from by omega)))) (sk (And.intro (And.intro trivial (ad n1 0)) (And.intro (And.intro trivial (srun_mkm (P := Try.prog) (kv := int) (ev := rowV) 72)) (And.intro (And.intro trivial (srun_mkm (P := Try.prog) (kv := int) (ev := ev0) 73)) (sk (sk (sk (sk trivial)))))))))) (And.intro trivial (@Exists.intro (List Nat) (fun (ns : List Nat) => ns.length = 5 ∧ ((Value.tuple #[(ptr n6 0), (int 0)]) : Value) = (fun (ns : List Nat) => (Value.tuple #[(ptr (ns.getD 0 0) 0), (int 0)])) ns ∧ ([some ⟨p, false, o, (tabF n (fun k => u64 (f k)))⟩, some ⟨n6, true, 0, (.lit [(Value.slice (some ⟨n2, 0, none⟩) n (n + n3)), (u64 ((totN f n).a)), (Value.map (some n4)), (Value.map (some n5))])⟩, some ⟨n2, true, 0, (tabF n (fun k => u64 (f k)))⟩, some ⟨n4, true, 0, (firC ([]))⟩, some ⟨n5, true, 0, (agaC ([]))⟩] : List (Option Blk)) = (fun (ns : List Nat) => [some ⟨p, false, o, (tabF n (fun k => u64 (f k)))⟩, some ⟨(ns.getD 0 0), true, 0, (.lit [(Value.slice (some ⟨(ns.getD 1 0), 0, none⟩) n (n + (ns.getD 2 0))), (u64 ((totN f n).a)), (Value.map (some (ns.getD 3 0))), (Value.map (some (ns.getD 4 0)))])⟩, some ⟨(ns.getD 1 0), true, 0, (tabF n (fun k => u64 (f k)))⟩, some ⟨(ns.getD 3 0), true, 0, (firC ([]))⟩, some ⟨(ns.getD 4 0), true, 0, (agaC ([]))⟩]) ns) [n6, n2, n3, n4, n5] (And.intro (@rfl Nat 5) (And.intro (@rfl Value (Value.tuple #[(ptr n6 0), (int 0)])) (@rfl (List (Option Blk)) [some ⟨p, false, o, (tabF n (fun k => u64 (f k)))⟩, some ⟨n6, true, 0, (.lit [(Value.slice (some ⟨n2, 0, none⟩) n (n + n3)), (u64 ((totN f n).a)), (Value.map (some n4)), (Value.map (some n5))])⟩, some ⟨n2, true, 0, (tabF n (fun k => u64 (f k)))⟩, some ⟨n4, true, 0, (firC ([]))⟩, some ⟨n5, true, 0, (agaC ([]))⟩])))))))) (show (decide (63 < (len4 (totN f n)))) = false from by exact decide_eq_false (by have := hg.2; omega))))))) (show (selB (decide (n < 1)) true (decide (40 < n))) = false from by simp only [selB_and, selB_or, Bool.or_eq_true, Bool.or_eq_false_iff, Bool.and_eq_true, Bool.and_eq_false_iff, decide_eq_true_eq, decide_eq_false_iff_not]; omega)))))
end Go.Proofs.Ytpjllbgipcfedaa
end
section
namespace Go.Proofs.Ytpjllbgipcfedaa
open Go Go.Eng
set_option linter.unusedVariables false
set_option linter.unusedSimpArgs false
set_option maxRecDepth 100000
theorem one3 : OneC Try.prog 3 (int 0) 8 := oneC_of (by kernel_rfl) rfl
theorem ins_pure (xa : Option Addr) (xn xc : Nat) (hn : xn ≤ 1) : Pure Try.prog 67 [(Value.slice xa xn xc), (int 0), (nat xn)] (Value.tuple #[]) :=
  pure_of_ev mix Try.func67 rfl rfl 400 (.reg [(0, .g), (1, .g), (2, .g)] (.unroll (.reg [(0, .g), (1, .g), (2, (.as (Value.bool (decide (1 < xn)))))] (.no .done)))) []
    (have f0 : xn ≤ 1 := hn; Eq.mp (by kernel_rfl) (And.intro (sk (sk (sk trivial))) (And.intro (sk (sk (And.intro (And.intro trivial (@is_lssn Try.prog 3 3 (.tmp 10) (.tmp 11)  1 xn)) trivial))) ((fun (hp1 : (decide (1 < xn)) = false) => have f1 : ¬ (1 < xn) := (of_decide_eq_false hp1); And.intro trivial (And.intro hp1 (And.intro trivial (@rfl Value (Value.tuple #[]))))) (show (decide (1 < xn)) = false from by exact decide_eq_false (by omega))))))
theorem pdq_pure (xa : Option Addr) (xn xc : Nat) (lim : Value) (hn : xn ≤ 1) : Pure Try.prog 62 [(Value.slice xa xn xc), (int 0), (nat xn), lim] (Value.tuple #[]) :=
  pure_of_ev mix Try.func62 rfl rfl 400 (.reg [(0, .g)] (.reg [(0, .g)] (.unroll (.reg [(0, .g), (1, .g), (2, (.as (nat (xn - 0)))), (3, .g)] (.reg [(0, .g), (1, (.as (Value.bool (decide ((xn - 0) ≤ 12)))))] (.yes (.reg [(0, .g), (1, .g), (2, .g), (3, (.call [] 0 0 (fun _ => (Value.tuple #[])) (fun _ => [])))] .done))))))) []
    (have f0 : xn ≤ 1 := hn; Eq.mp (by kernel_rfl) (And.intro (sk trivial) (And.intro (sk trivial) (And.intro (sk (sk (And.intro (And.intro trivial (@is_subn Try.prog 3 3 (.tmp 19) (.tmp 20)  xn 0 (show 0 ≤ xn ∧ xn - 0 ≤ 9223372036854775807 from by omega))) (sk trivial)))) (And.intro (sk (And.intro (And.intro trivial (@is_leqn Try.prog 3 3 (.tmp 22) (.const (.int .i64 12))  (xn - 0) 12)) trivial)) ((fun (hp1 : (decide ((xn - 0) ≤ 12)) = true) => have f1 : ((xn - 0) ≤ 12) := (of_decide_eq_true hp1); And.intro trivial (And.intro hp1 (And.intro (sk (sk (sk (And.intro (And.intro trivial (ins_pure xa xn xc (show xn ≤ 1 from by omega))) trivial)))) (And.intro trivial (@rfl Value (Value.tuple #[])))))) (show (decide ((xn - 0) ≤ 12)) = true from by exact decide_eq_true (by omega))))))))
theorem blen_pure (x : UInt64) : Pure Try.prog 63 [(u64 x)] (nat (len1 x)) :=
  pure_of_ev mix Try.func63 rfl rfl 400 (.reg [(0, .g)] (.no (.reg [(0, .g), (1, (.call [] 0 0 (fun _ => (nat (len1 x))) (fun _ => []))), (2, .g)] .done))) []
    (Eq.mp (by kernel_rfl) (And.intro (sk trivial) (And.intro trivial (And.intro (@rfl Bool false) (And.intro (sk (And.intro (And.intro trivial (len64_pure x)) (sk trivial))) (And.intro trivial (@rfl Value (nat (len1 x)))))))))
theorem sort_pure (xa : Option Addr) (xn xc : Nat) (hn : xn ≤ 1) : Pure Try.prog 55 [(Value.slice xa xn xc)] (Value.tuple #[]) :=
  pure_of_ev mix Try.func55 rfl rfl 400 (.reg [(0, .g), (1, (.as (nat xn))), (2, .g)] (.reg [(0, .g), (1, .g), (2, .g), (3, (.as (u64 (UInt64.ofNat xn)))), (4, (.call [] 0 0 (fun _ => (nat (len1 (UInt64.ofNat xn)))) (fun _ => []))), (5, (.call [] 0 0 (fun _ => (Value.tuple #[])) (fun _ => [])))] .done)) []
    (have f0 : xn ≤ 1 := hn; Eq.mp (by kernel_rfl) (And.intro (sk (And.intro (And.intro trivial (@is_len Try.prog 50 3 (.tmp 3) (by kernel_rfl) xa xn xc)) (sk trivial))) (And.intro (sk (sk (sk (And.intro (And.intro trivial (@conv_int_u64 Try.prog 3 105 (.tmp 7) (by kernel_rfl) (by kernel_rfl) xn)) (And.intro (And.intro trivial (blen_pure (UInt64.ofNat xn))) (And.intro (And.intro trivial (pdq_pure xa xn xc (nat (len1 (UInt64.ofNat xn))) (show xn ≤ 1 from by omega))) trivial)))))) (And.intro trivial (@rfl Value (Value.tuple #[]))))))
theorem keys_runs (m : Nat) : Runs Try.prog 46 [(Value.map (some m))] [] 1 (fun (ns : List Nat) => (Value.func (.func 56) #[] #[(ptr (ns.getD 0 0) 0)])) (fun (ns : List Nat) => [some ⟨(ns.getD 0 0), true, 0, (.lit [(Value.map (some m))])⟩]) :=
  runs_of_ev mix Try.func46 rfl rfl 400 (.regn [(0, .new), (1, .g)] (more (fun n1 => fun _ => (.reg [(0, .g), (1, .g)] .done)))) [] [0] rfl
    (Eq.mp (by kernel_rfl) (fun (n1 : Nat) => And.intro (sk (sk trivial)) (And.intro (sk (sk trivial)) (And.intro trivial (@Exists.intro (List Nat) (fun (ns : List Nat) => ns.length = 1 ∧ ((Value.func (.func 56) #[] #[(ptr n1 0)]) : Value) = (fun (ns : List Nat) => (Value.func (.func 56) #[] #[(ptr (ns.getD 0 0) 0)])) ns ∧ ([some ⟨n1, true, 0, (.lit [(Value.map (some m))])⟩] : List (Option Blk)) = (fun (ns : List Nat) => [some ⟨(ns.getD 0 0), true, 0, (.lit [(Value.map (some m))])⟩]) ns) [n1] (And.intro (@rfl Nat 1) (And.intro (@rfl Value (Value.func (.func 56) #[] #[(ptr n1 0)])) (@rfl (List (Option Blk)) [some ⟨n1, true, 0, (.lit [(Value.map (some m))])⟩]))))))))
noncomputable def apsC : Code := rfC 0 Try.f61.body
noncomputable def apsL (l D : Nat) (fn : FuncId) (tm : Array Value) : Blk := loopB l (recL .ready none fn tm (rfP apsC) (rfA apsC) (rfB apsC) D)
theorem aps_y {F : Blk → Prop} {l D : Nat} {fn : FuncId} {tm : Array Value} (bx bc : Nat) (x : Int) (htm : TmOk 13 (fun t => Go.Eng.look [(2, .v (ptr bc 0)), (6, .v (Value.func (.func 56) #[] #[(ptr bx 0)]))] t) tm)  : YRuns F Try.prog l [(int x)] (some (loopB l (recL .ready none fn tm (rfP apsC) (rfA apsC) (rfB apsC) D)) :: [some ⟨bc, true, 0, (.lit [(Value.slice none 0 0)])⟩]) 2 (fun (ns : List Nat) => Value.bool true) (fun (ns : List Nat) => [some (loopB l (recL .ready none fn tm (rfP apsC) (rfA apsC) (rfB apsC) D)), some ⟨bc, true, 0, (.lit [(Value.slice (some ⟨(ns.getD 0 0), 0, none⟩) 1 (1 + (ns.getD 1 0)))])⟩, some ⟨(ns.getD 0 0), true, 0, (spr (1 + (ns.getD 1 0)) 1 (fun k => int ((fun _ => x) k)) (int 0))⟩]) :=
  yruns_of_ev mix htm (of_decide_eq_true (by kernel_rfl)) (by kernel_rfl) (of_decide_eq_true (by kernel_rfl)) (by kernel_rfl) (by kernel_rfl) 400 (.reg [(0, .g)] (.regn [(0, (.ld 0 (.lit 0))), (1, .g), (2, (.oth [] 1 1 (fun ns => Value.slice (some ⟨ns.getD 0 0, 0, none⟩) 1 1) (fun ns => [some ⟨ns.getD 0 0, true, 0, .lit [(int x)]⟩]))), (3, (.oth [(1, true)] 2 1 (fun ns => Value.slice (some ⟨(ns.getD 0 0), 0, none⟩) 1 (1 + (ns.getD 1 0))) (fun ns => [none, some ⟨(ns.getD 0 0), true, 0, (spr (1 + (ns.getD 1 0)) 1 (fun k => int ((fun _ => x) k)) (int 0))⟩]))), (4, (.st 0 (.lit 0)))] (more (fun n1 => more (fun n2 => more (fun n3 => fun _ => .done)))))) [2] rfl
    (Eq.mp (by kernel_rfl) (And.intro (sk trivial) (fun (n1 n2 n3 : Nat) => And.intro (And.intro (And.intro trivial (ad bc 0)) (sk (And.intro (And.intro trivial (mk_build (P := Try.prog) (t := 50) (e := 3) one3 1 #[(0, (int x))] #[(int x)] (by kernel_rfl) (by decide) (by kernel_rfl))) (And.intro (And.intro trivial (SRuns.dark [true] (mk_append_nil (P := Try.prog) (t := 50) (ty := 50) (e := 3) (by kernel_rfl) one3 n1 0 0 1 1 int (fun _ => x) (.lit [(int x)]) (lit1_get (int x)) (show 0 < 1 ∧ 1 * 8 ≤ 140737488355328 ∧ 1 ≤ 9223372036854775807 from by omega)))) (And.intro (And.intro trivial (ad bc 0)) trivial))))) (@Exists.intro (List Nat) (fun (ns : List Nat) => ns.length = 2 ∧ Value.bool true = (fun (ns : List Nat) => Value.bool true) ns ∧ ([some (loopB l (recL .ready none fn tm (rfP apsC) (rfA apsC) (rfB apsC) D)), some ⟨bc, true, 0, (.lit [(Value.slice (some ⟨n2, 0, none⟩) 1 (1 + n3))])⟩, some ⟨n2, true, 0, (spr (1 + n3) 1 (fun k => int ((fun _ => x) k)) (int 0))⟩] : List (Option Blk)) = (fun (ns : List Nat) => [some (loopB l (recL .ready none fn tm (rfP apsC) (rfA apsC) (rfB apsC) D)), some ⟨bc, true, 0, (.lit [(Value.slice (some ⟨(ns.getD 0 0), 0, none⟩) 1 (1 + (ns.getD 1 0)))])⟩, some ⟨(ns.getD 0 0), true, 0, (spr (1 + (ns.getD 1 0)) 1 (fun k => int ((fun _ => x) k)) (int 0))⟩]) ns) [n2, n3] (And.intro (@rfl Nat 2) (And.intro (@rfl Value (Value.bool true)) (@rfl (List (Option Blk)) [some (loopB l (recL .ready none fn tm (rfP apsC) (rfA apsC) (rfB apsC) D)), some ⟨bc, true, 0, (.lit [(Value.slice (some ⟨n2, 0, none⟩) 1 (1 + n3))])⟩, some ⟨n2, true, 0, (spr (1 + n3) 1 (fun k => int ((fun _ => x) k)) (int 0))⟩])))))))
theorem it_one {F : Blk → Prop} (l D : Nat) (fn : FuncId) (tm : Array Value) (bx am bc : Nat) (a : Int) (htm : TmOk 13 (fun t => Go.Eng.look [(2, .v (ptr bc 0)), (6, .v (Value.func (.func 56) #[] #[(ptr bx 0)]))] t) tm) : RunsO F Try.prog 56 [(yv l), (ptr bx 0)] [some (apsL l D fn tm), some ⟨bx, false, 0, (.lit [(Value.map (some am))])⟩, some ⟨am, false, 0, (agaC ([(a, ())]))⟩, some ⟨bc, true, 0, (.lit [(Value.slice none 0 0)])⟩] 2 (fun (ns : List Nat) => (Value.tuple #[])) (fun (ns : List Nat) => [some (apsL l D fn tm), some ⟨bx, false, 0, (.lit [(Value.map (some am))])⟩, some ⟨am, false, 0, (agaC ([(a, ())]))⟩, some ⟨bc, true, 0, (.lit [(Value.slice (some ⟨(ns.getD 0 0), 0, none⟩) 1 (1 + (ns.getD 1 0)))])⟩, some ⟨(ns.getD 0 0), true, 0, (spr (1 + (ns.getD 1 0)) 1 (fun k => int ((fun _ => a) k)) (int 0))⟩]) :=
  runsO_of_ev mix Try.func56 rfl rfl 400 (.regn [(0, (.ld 1 (.lit 0))), (1, (.othB [(2, true)] 1 1 (fun ns => ptr (ns.getD 0 0) 0) (fun bs ns => [none, some ⟨(ns.getD 0 0), true, 0, itB bs⟩])))] (more (fun n1 => fun _ => (.unroll (.reg [(0, (.oth [(4, false), (2, true)] 0 0 (fun _ => (Value.tuple #[(Value.bool true), (int a), (Value.agg #[])])) (fun _ => [some ⟨n1, true, 0, (itC am ([(a, ())]).length ([0]))⟩, none]))), (1, .g)] (.yes (.reg [(0, (.oth [(4, true), (2, true)] 0 0 (fun _ => (Value.tuple #[(int a), (Value.agg #[])])) (fun _ => [none, none]))), (1, .g), (2, .g)] (.keep [0, 1, 4, 5, 6, 7, 8, 9, 3] [0, 1, 2, 3, 4] 5 (.byF (fun (ns : List Nat) => ns.length = 2) (fun _ => Exit.normal) (fun (ns : List Nat) => (⟨[(0, .v (yv l)), (1, .v (ptr bx 0)), (4, .v (Value.map (some am))), (5, .v (ptr n1 0)), (6, .v (Value.tuple #[(Value.bool true), (int a), (Value.agg #[])])), (7, .v (Value.bool true)), (8, .v (Value.tuple #[(int a), (Value.agg #[])])), (9, .v (int a)), (3, .v (int a)), (10, .v (yv l)), (11, .v (int a)), (12, .v (Value.bool true)), (13, .v (Value.bool false))], [(0, some (apsL l D fn tm)), (1, some ⟨bx, false, 0, (.lit [(Value.map (some am))])⟩), (2, some ⟨am, false, 0, (agaC ([(a, ())]))⟩), (3, some ⟨bc, true, 0, (.lit [(Value.slice (some ⟨(ns.getD 0 0), 0, none⟩) 1 (1 + (ns.getD 1 0)))])⟩), (4, some ⟨n1, true, 0, (itC am ([(a, ())]).length ([0]))⟩), (5, some ⟨(ns.getD 0 0), true, 0, (spr (1 + (ns.getD 1 0)) 1 (fun k => int ((fun _ => a) k)) (int 0))⟩)], 6⟩ : St)) (fun (ns : List Nat) => (fun (n2 n3 : Nat) => (.no (.unroll (.reg [(0, (.oth [(4, true), (2, true)] 0 0 (fun _ => Value.tuple #[.bool false]) (fun _ => [none, none]))), (1, .g)] (.no .done))))) (ns.getD 0 0) (ns.getD 1 0))))))))))) [] [5] rfl
    (Eq.mp (by kernel_rfl) (fun (n1 : Nat) => And.intro (And.intro (And.intro trivial (ad bx 0)) (And.intro (And.intro trivial (SRuns.dark [true] (srun_rng (P := Try.prog) (mt := 73) (kv := int) (ev := ev0) mT73.hm am false ([(a, ())])))) trivial)) (And.intro (And.intro (And.intro trivial (SRuns.dark [false, true] (srun_nxt1 (P := Try.prog) (kv := int) (ev := ev0) 0 n1 am false a ()))) (sk trivial)) (And.intro trivial (And.intro (@rfl Bool true) (And.intro (And.intro (And.intro trivial (srun_ent (P := Try.prog) (kv := int) (ev := ev0) n1 am false false ([(a, ())]) [] 0 (a, ()) (Nat.lt_succ_self 0))) (sk (sk trivial))) (And.intro (awp_yld (F := F) (P := Try.prog) (nt := 14) (c := regC 3 Try.f56.body) (s := ⟨[(0, .v (yv l)), (1, .v (ptr bx 0)), (4, .v (Value.map (some am))), (5, .v (ptr n1 0)), (6, .v (Value.tuple #[(Value.bool true), (int a), (Value.agg #[])])), (7, .v (Value.bool true)), (8, .v (Value.tuple #[(int a), (Value.agg #[])])), (9, .v (int a)), (3, .v (int a))], [(0, some (apsL l D fn tm)), (1, some ⟨bx, false, 0, (.lit [(Value.map (some am))])⟩), (2, some ⟨am, false, 0, (agaC ([(a, ())]))⟩), (3, some ⟨bc, true, 0, (.lit [(Value.slice none 0 0)])⟩), (4, some ⟨n1, true, 0, (itC am ([(a, ())]).length ([0]))⟩)], 5⟩) [(0, .g), (1, .g)] 2 [(3, .g)] [(0, false), (3, false)] 2 1 l [(int a)] (fun (ns : List Nat) => (Value.bool true)) (fun (ns : List Nat) => [some (apsL l D fn tm), some ⟨bc, true, 0, (.lit [(Value.slice (some ⟨(ns.getD 0 0), 0, none⟩) 1 (1 + (ns.getD 1 0)))])⟩, some ⟨(ns.getD 0 0), true, 0, (spr (1 + (ns.getD 1 0)) 1 (fun k => int ((fun _ => a) k)) (int 0))⟩]) [0, 1, 4, 5, 6, 7, 8, 9, 3, 10, 11, 12, 13] [0, 1, 2, 3, 4, 5] 6 (fun (ns : List Nat) => (⟨[(0, .v (yv l)), (1, .v (ptr bx 0)), (4, .v (Value.map (some am))), (5, .v (ptr n1 0)), (6, .v (Value.tuple #[(Value.bool true), (int a), (Value.agg #[])])), (7, .v (Value.bool true)), (8, .v (Value.tuple #[(int a), (Value.agg #[])])), (9, .v (int a)), (3, .v (int a)), (10, .v (yv l)), (11, .v (int a)), (12, .v (Value.bool true)), (13, .v (Value.bool false))], [(0, some (apsL l D fn tm)), (1, some ⟨bx, false, 0, (.lit [(Value.map (some am))])⟩), (2, some ⟨am, false, 0, (agaC ([(a, ())]))⟩), (3, some ⟨bc, true, 0, (.lit [(Value.slice (some ⟨(ns.getD 0 0), 0, none⟩) 1 (1 + (ns.getD 1 0)))])⟩), (4, some ⟨n1, true, 0, (itC am ([(a, ())]).length ([0]))⟩), (5, some ⟨(ns.getD 0 0), true, 0, (spr (1 + (ns.getD 1 0)) 1 (fun k => int ((fun _ => a) k)) (int 0))⟩)], 6⟩ : St)) (by kernel_rfl) (Eq.mp (by kernel_rfl) (And.intro (sk (sk (trivial))) (And.intro (@rfl Bool true) (And.intro trivial (And.intro (@rfl _ (Instr.yield l (List.toArray [(int a)]))) (And.intro (fun (ns : List Nat) (hns : ns.length = 2) => (@rfl Bool true)) (And.intro (aps_y (F := F) (l := l) (D := D) (fn := fn) bx bc a htm) (fun (ns : List Nat) (hns : ns.length = 2) => And.intro ((fun (n2 n3 : Nat) => sk (trivial)) (ns.getD 0 0) (ns.getD 1 0)) (@rfl St ((fun (ns : List Nat) => (⟨[(0, .v (yv l)), (1, .v (ptr bx 0)), (4, .v (Value.map (some am))), (5, .v (ptr n1 0)), (6, .v (Value.tuple #[(Value.bool true), (int a), (Value.agg #[])])), (7, .v (Value.bool true)), (8, .v (Value.tuple #[(int a), (Value.agg #[])])), (9, .v (int a)), (3, .v (int a)), (10, .v (yv l)), (11, .v (int a)), (12, .v (Value.bool true)), (13, .v (Value.bool false))], [(0, some (apsL l D fn tm)), (1, some ⟨bx, false, 0, (.lit [(Value.map (some am))])⟩), (2, some ⟨am, false, 0, (agaC ([(a, ())]))⟩), (3, some ⟨bc, true, 0, (.lit [(Value.slice (some ⟨(ns.getD 0 0), 0, none⟩) 1 (1 + (ns.getD 1 0)))])⟩), (4, some ⟨n1, true, 0, (itC am ([(a, ())]).length ([0]))⟩), (5, some ⟨(ns.getD 0 0), true, 0, (spr (1 + (ns.getD 1 0)) 1 (fun k => int ((fun _ => a) k)) (int 0))⟩)], 6⟩ : St)) ns))))))))))) (fun (ns : List Nat) (hns : ns.length = 2) => (fun (n2 n3 : Nat) => And.intro trivial (And.intro (@rfl Bool false) (And.intro (And.intro (And.intro trivial (srun_nxt0 (P := Try.prog) (kv := int) (ev := ev0) 0 n1 am false false ([(a, ())]) ([0]) (@rfl Bool false))) (sk trivial)) (And.intro trivial (And.intro (@rfl Bool false) (And.intro trivial (@Exists.intro (List Nat) (fun (ns : List Nat) => ns.length = 2 ∧ ((Value.tuple #[]) : Value) = (fun (ns : List Nat) => (Value.tuple #[])) ns ∧ ([some (apsL l D fn tm), some ⟨bx, false, 0, (.lit [(Value.map (some am))])⟩, some ⟨am, false, 0, (agaC ([(a, ())]))⟩, some ⟨bc, true, 0, (.lit [(Value.slice (some ⟨n2, 0, none⟩) 1 (1 + n3))])⟩, some ⟨n2, true, 0, (spr (1 + n3) 1 (fun k => int ((fun _ => a) k)) (int 0))⟩] : List (Option Blk)) = (fun (ns : List Nat) => [some (apsL l D fn tm), some ⟨bx, false, 0, (.lit [(Value.map (some am))])⟩, some ⟨am, false, 0, (agaC ([(a, ())]))⟩, some ⟨bc, true, 0, (.lit [(Value.slice (some ⟨(ns.getD 0 0), 0, none⟩) 1 (1 + (ns.getD 1 0)))])⟩, some ⟨(ns.getD 0 0), true, 0, (spr (1 + (ns.getD 1 0)) 1 (fun k => int ((fun _ => a) k)) (int 0))⟩]) ns) [n2, n3] (And.intro (@rfl Nat 2) (And.intro (@rfl Value (Value.tuple #[])) (@rfl (List (Option Blk)) [some (apsL l D fn tm), some ⟨bx, false, 0, (.lit [(Value.map (some am))])⟩, some ⟨am, false, 0, (agaC ([(a, ())]))⟩, some ⟨bc, true, 0, (.lit [(Value.slice (some ⟨n2, 0, none⟩) 1 (1 + n3))])⟩, some ⟨n2, true, 0, (spr (1 + n3) 1 (fun k => int ((fun _ => a) k)) (int 0))⟩])))))))))) (ns.getD 0 0) (ns.getD 1 0)))))))))
theorem aps_one {F : Blk → Prop} (bx am : Nat) (a : Int) : RunsO F Try.prog 61 [(Value.slice none 0 0), (Value.func (.func 56) #[] #[(ptr bx 0)])] [some ⟨bx, false, 0, (.lit [(Value.map (some am))])⟩, some ⟨am, false, 0, (agaC ([(a, ())]))⟩] 2 (fun (ns : List Nat) => (Value.slice (some ⟨(ns.getD 0 0), 0, none⟩) 1 (1 + (ns.getD 1 0)))) (fun (ns : List Nat) => [some ⟨bx, false, 0, (.lit [(Value.map (some am))])⟩, some ⟨am, false, 0, (agaC ([(a, ())]))⟩, some ⟨(ns.getD 0 0), true, 0, (spr (1 + (ns.getD 1 0)) 1 (fun k => int ((fun _ => a) k)) (int 0))⟩]) :=
  runsO_of_ev mix Try.func61 rfl rfl 400 (.regn [(0, .new), (1, .g)] (more (fun n1 => fun _ => (.reg [(0, .g)] (.keep [2, 6] [0, 1, 2] 3 (.byF (fun (ns : List Nat) => ns.length = 2) (fun _ => Exit.normal) (fun (ns : List Nat) => (⟨[(2, .v (ptr n1 0)), (6, .v (Value.func (.func 56) #[] #[(ptr bx 0)]))], [(0, some ⟨bx, false, 0, (.lit [(Value.map (some am))])⟩), (1, some ⟨am, false, 0, (agaC ([(a, ())]))⟩), (2, some ⟨n1, true, 0, (.lit [(Value.slice (some ⟨(ns.getD 0 0), 0, none⟩) 1 (1 + (ns.getD 1 0)))])⟩), (3, some ⟨(ns.getD 0 0), true, 0, (spr (1 + (ns.getD 1 0)) 1 (fun k => int ((fun _ => a) k)) (int 0))⟩)], 4⟩ : St)) (fun (ns : List Nat) => (fun (n2 n3 : Nat) => (.reg [(0, (.ld 2 (.lit 0))), (1, .g)] .done)) (ns.getD 0 0) (ns.getD 1 0)))))))) [] [3] rfl
    (Eq.mp (by kernel_rfl) (fun (n1 : Nat) => And.intro (sk (sk trivial)) (And.intro (sk trivial) (And.intro (awp_rf (F := F) (P := Try.prog) (nt := 13) (c := rfC 0 Try.f61.body) (s := ⟨[(2, .v (ptr n1 0)), (6, .v (Value.func (.func 56) #[] #[(ptr bx 0)]))], [(0, some ⟨bx, false, 0, (.lit [(Value.map (some am))])⟩), (1, some ⟨am, false, 0, (agaC ([(a, ())]))⟩), (2, some ⟨n1, true, 0, (.lit [(Value.slice none 0 0)])⟩)], 3⟩) 56 [(ptr bx 0)] [(0, true), (1, true), (2, false)] 2 1 (fun (ns : List Nat) => (Value.tuple #[])) (fun (ns : List Nat) => [none, none, some ⟨n1, true, 0, (.lit [(Value.slice (some ⟨(ns.getD 0 0), 0, none⟩) 1 (1 + (ns.getD 1 0)))])⟩, some ⟨(ns.getD 0 0), true, 0, (spr (1 + (ns.getD 1 0)) 1 (fun k => int ((fun _ => a) k)) (int 0))⟩]) none (Exit.normal) [2, 6] [0, 1, 2, 3] 4 (fun (ns : List Nat) => (⟨[(2, .v (ptr n1 0)), (6, .v (Value.func (.func 56) #[] #[(ptr bx 0)]))], [(0, some ⟨bx, false, 0, (.lit [(Value.map (some am))])⟩), (1, some ⟨am, false, 0, (agaC ([(a, ())]))⟩), (2, some ⟨n1, true, 0, (.lit [(Value.slice (some ⟨(ns.getD 0 0), 0, none⟩) 1 (1 + (ns.getD 1 0)))])⟩), (3, some ⟨(ns.getD 0 0), true, 0, (spr (1 + (ns.getD 1 0)) 1 (fun k => int ((fun _ => a) k)) (int 0))⟩)], 4⟩ : St)) (by kernel_rfl) (by kernel_rfl) (fun args w => by kernel_rfl) (by kernel_rfl) (fun ns hns => @rfl Bool true) (.inl ⟨rfl, rfl⟩) (fun l D fn tm htm => Eq.mp (by kernel_rfl) (RunsO.darkV [false, true, true, false] (it_one (F := F) l D fn tm bx am n1 a htm))) (fun ns hns => @rfl St ((fun (ns : List Nat) => (⟨[(2, .v (ptr n1 0)), (6, .v (Value.func (.func 56) #[] #[(ptr bx 0)]))], [(0, some ⟨bx, false, 0, (.lit [(Value.map (some am))])⟩), (1, some ⟨am, false, 0, (agaC ([(a, ())]))⟩), (2, some ⟨n1, true, 0, (.lit [(Value.slice (some ⟨(ns.getD 0 0), 0, none⟩) 1 (1 + (ns.getD 1 0)))])⟩), (3, some ⟨(ns.getD 0 0), true, 0, (spr (1 + (ns.getD 1 0)) 1 (fun k => int ((fun _ => a) k)) (int 0))⟩)], 4⟩ : St)) ns))) (fun (ns : List Nat) (hns : ns.length = 2) => (fun (n2 n3 : Nat) => And.intro (And.intro (And.intro trivial (ad n1 0)) (sk trivial)) (And.intro trivial (@Exists.intro (List Nat) (fun (ns : List Nat) => ns.length = 2 ∧ ((Value.slice (some ⟨n2, 0, none⟩) 1 (1 + n3)) : Value) = (fun (ns : List Nat) => (Value.slice (some ⟨(ns.getD 0 0), 0, none⟩) 1 (1 + (ns.getD 1 0)))) ns ∧ ([some ⟨bx, false, 0, (.lit [(Value.map (some am))])⟩, some ⟨am, false, 0, (agaC ([(a, ())]))⟩, some ⟨n2, true, 0, (spr (1 + n3) 1 (fun k => int ((fun _ => a) k)) (int 0))⟩] : List (Option Blk)) = (fun (ns : List Nat) => [some ⟨bx, false, 0, (.lit [(Value.map (some am))])⟩, some ⟨am, false, 0, (agaC ([(a, ())]))⟩, some ⟨(ns.getD 0 0), true, 0, (spr (1 + (ns.getD 1 0)) 1 (fun k => int ((fun _ => a) k)) (int 0))⟩]) ns) [n2, n3] (And.intro (@rfl Nat 2) (And.intro (@rfl Value (Value.slice (some ⟨n2, 0, none⟩) 1 (1 + n3))) (@rfl (List (Option Blk)) [some ⟨bx, false, 0, (.lit [(Value.map (some am))])⟩, some ⟨am, false, 0, (agaC ([(a, ())]))⟩, some ⟨n2, true, 0, (spr (1 + n3) 1 (fun k => int ((fun _ => a) k)) (int 0))⟩])))))) (ns.getD 0 0) (ns.getD 1 0))))))
theorem col_one {F : Blk → Prop} (bx am : Nat) (a : Int) : RunsO F Try.prog 54 [(Value.func (.func 56) #[] #[(ptr bx 0)])] [some ⟨bx, false, 0, (.lit [(Value.map (some am))])⟩, some ⟨am, false, 0, (agaC ([(a, ())]))⟩] 2 (fun (ns : List Nat) => (Value.slice (some ⟨(ns.getD 0 0), 0, none⟩) 1 (1 + (ns.getD 1 0)))) (fun (ns : List Nat) => [some ⟨bx, false, 0, (.lit [(Value.map (some am))])⟩, some ⟨am, false, 0, (agaC ([(a, ())]))⟩, some ⟨(ns.getD 0 0), true, 0, (spr (1 + (ns.getD 1 0)) 1 (fun k => int ((fun _ => a) k)) (int 0))⟩]) :=
  runsO_of_ev mix Try.func54 rfl rfl 400 (.reg [(0, .g)] (.regn [(0, .g), (1, (.callO [(0, true), (1, true)] 2 1 (fun ns => Value.slice (some ⟨ns.getD 0 0, 0, none⟩) 1 (1 + ns.getD 1 0)) (fun ns => [none, none, some ⟨(ns.getD 0 0), true, 0, (spr (1 + (ns.getD 1 0)) 1 (fun k => int ((fun _ => a) k)) (int 0))⟩]))), (2, .g)] (more (fun n1 => more (fun n2 => fun _ => .done))))) [] [2] rfl
    (Eq.mp (by kernel_rfl) (And.intro (sk trivial) (fun (n1 n2 : Nat) => And.intro (sk (And.intro (And.intro trivial (RunsO.darkV [true, true] (aps_one (F := F) bx am a))) (sk trivial))) (And.intro trivial (@Exists.intro (List Nat) (fun (ns : List Nat) => ns.length = 2 ∧ ((Value.slice (some ⟨n1, 0, none⟩) 1 (1 + n2)) : Value) = (fun (ns : List Nat) => (Value.slice (some ⟨(ns.getD 0 0), 0, none⟩) 1 (1 + (ns.getD 1 0)))) ns ∧ ([some ⟨bx, false, 0, (.lit [(Value.map (some am))])⟩, some ⟨am, false, 0, (agaC ([(a, ())]))⟩, some ⟨n1, true, 0, (spr (1 + n2) 1 (fun k => int ((fun _ => a) k)) (int 0))⟩] : List (Option Blk)) = (fun (ns : List Nat) => [some ⟨bx, false, 0, (.lit [(Value.map (some am))])⟩, some ⟨am, false, 0, (agaC ([(a, ())]))⟩, some ⟨(ns.getD 0 0), true, 0, (spr (1 + (ns.getD 1 0)) 1 (fun k => int ((fun _ => a) k)) (int 0))⟩]) ns) [n1, n2] (And.intro (@rfl Nat 2) (And.intro (@rfl Value (Value.slice (some ⟨n1, 0, none⟩) 1 (1 + n2))) (@rfl (List (Option Blk)) [some ⟨bx, false, 0, (.lit [(Value.map (some am))])⟩, some ⟨am, false, 0, (agaC ([(a, ())]))⟩, some ⟨n1, true, 0, (spr (1 + n2) 1 (fun k => int ((fun _ => a) k)) (int 0))⟩]))))))))
theorem srt_one {F : Blk → Prop} (bx am : Nat) (a : Int) : RunsO F Try.prog 45 [(Value.func (.func 56) #[] #[(ptr bx 0)])] [some ⟨bx, false, 0, (.lit [(Value.map (some am))])⟩, some ⟨am, false, 0, (agaC ([(a, ())]))⟩] 2 (fun (ns : List Nat) => (Value.slice (some ⟨(ns.getD 0 0), 0, none⟩) 1 (1 + (ns.getD 1 0)))) (fun (ns : List Nat) => [some ⟨bx, false, 0, (.lit [(Value.map (some am))])⟩, some ⟨am, false, 0, (agaC ([(a, ())]))⟩, some ⟨(ns.getD 0 0), true, 0, (spr (1 + (ns.getD 1 0)) 1 (fun k => int ((fun _ => a) k)) (int 0))⟩]) :=
  runsO_of_ev mix Try.func45 rfl rfl 400 (.reg [(0, .g)] (.regn [(0, .g), (1, (.callO [(0, true), (1, true)] 2 1 (fun ns => Value.slice (some ⟨ns.getD 0 0, 0, none⟩) 1 (1 + ns.getD 1 0)) (fun ns => [none, none, some ⟨(ns.getD 0 0), true, 0, (spr (1 + (ns.getD 1 0)) 1 (fun k => int ((fun _ => a) k)) (int 0))⟩]))), (2, .g)] (more (fun n1 => more (fun n2 => fun _ => (.reg [(0, .g), (1, (.call [] 0 0 (fun _ => (Value.tuple #[])) (fun _ => [])))] (.reg [(0, .g), (1, .g)] .done))))))) [] [2] rfl
    (Eq.mp (by kernel_rfl) (And.intro (sk trivial) (fun (n1 n2 : Nat) => And.intro (sk (And.intro (And.intro trivial (RunsO.darkV [true, true] (col_one (F := F) bx am a))) (sk trivial))) (And.intro (sk (And.intro (And.intro trivial (sort_pure (some ⟨n1, 0, none⟩) 1 (1 + n2) (show 1 ≤ 1 from by omega))) trivial)) (And.intro (sk (sk trivial)) (And.intro trivial (@Exists.intro (List Nat) (fun (ns : List Nat) => ns.length = 2 ∧ ((Value.slice (some ⟨n1, 0, none⟩) 1 (1 + n2)) : Value) = (fun (ns : List Nat) => (Value.slice (some ⟨(ns.getD 0 0), 0, none⟩) 1 (1 + (ns.getD 1 0)))) ns ∧ ([some ⟨bx, false, 0, (.lit [(Value.map (some am))])⟩, some ⟨am, false, 0, (agaC ([(a, ())]))⟩, some ⟨n1, true, 0, (spr (1 + n2) 1 (fun k => int ((fun _ => a) k)) (int 0))⟩] : List (Option Blk)) = (fun (ns : List Nat) => [some ⟨bx, false, 0, (.lit [(Value.map (some am))])⟩, some ⟨am, false, 0, (agaC ([(a, ())]))⟩, some ⟨(ns.getD 0 0), true, 0, (spr (1 + (ns.getD 1 0)) 1 (fun k => int ((fun _ => a) k)) (int 0))⟩]) ns) [n1, n2] (And.intro (@rfl Nat 2) (And.intro (@rfl Value (Value.slice (some ⟨n1, 0, none⟩) 1 (1 + n2))) (@rfl (List (Option Blk)) [some ⟨bx, false, 0, (.lit [(Value.map (some am))])⟩, some ⟨am, false, 0, (agaC ([(a, ())]))⟩, some ⟨n1, true, 0, (spr (1 + n2) 1 (fun k => int ((fun _ => a) k)) (int 0))⟩]))))))))))
theorem twice_one {F : Blk → Prop} (t am : Nat) (v0 v1 v2 : Value) (a : Int) : RunsO F Try.prog 27 [(ptr t 0)] [some ⟨t, false, 0, (.lit [v0, v1, v2, (Value.map (some am))])⟩, some ⟨am, false, 0, (agaC ([(a, ())]))⟩] 2 (fun (ns : List Nat) => (Value.slice (some ⟨(ns.getD 0 0), 0, none⟩) 1 (1 + (ns.getD 1 0)))) (fun (ns : List Nat) => [some ⟨t, false, 0, (.lit [v0, v1, v2, (Value.map (some am))])⟩, some ⟨am, false, 0, (agaC ([(a, ())]))⟩, some ⟨(ns.getD 0 0), true, 0, (spr (1 + (ns.getD 1 0)) 1 (fun k => int ((fun _ => a) k)) (int 0))⟩]) :=
  runsO_of_ev mix Try.func27 rfl rfl 400 (.reg [(0, .g)] (.regn [(0, .g), (1, .g), (2, .g), (3, (.ld 0 (.lit 3))), (4, (.call [] 1 1 (fun ns => Value.func (.func 56) #[] #[ptr (ns.getD 0 0) 0]) (fun ns => [some ⟨ns.getD 0 0, true, 0, .lit [(Value.map (some am))]⟩]))), (5, (.callO [(2, true), (1, true)] 2 1 (fun ns => Value.slice (some ⟨ns.getD 0 0, 0, none⟩) 1 (1 + ns.getD 1 0)) (fun ns => [none, none, some ⟨(ns.getD 0 0), true, 0, (spr (1 + (ns.getD 1 0)) 1 (fun k => int ((fun _ => a) k)) (int 0))⟩]))), (6, .g)] (more (fun n1 => more (fun n2 => more (fun n3 => fun _ => .done)))))) [] [3] rfl
    (Eq.mp (by kernel_rfl) (And.intro (sk trivial) (fun (n1 n2 n3 : Nat) => And.intro (sk (sk (sk (And.intro (And.intro trivial (ad t 3)) (And.intro (And.intro trivial (keys_runs am)) (And.intro (And.intro trivial (RunsO.darkV [true, true] (srt_one (F := F) n1 am a))) (sk trivial))))))) (And.intro trivial (@Exists.intro (List Nat) (fun (ns : List Nat) => ns.length = 2 ∧ ((Value.slice (some ⟨n2, 0, none⟩) 1 (1 + n3)) : Value) = (fun (ns : List Nat) => (Value.slice (some ⟨(ns.getD 0 0), 0, none⟩) 1 (1 + (ns.getD 1 0)))) ns ∧ ([some ⟨t, false, 0, (.lit [v0, v1, v2, (Value.map (some am))])⟩, some ⟨am, false, 0, (agaC ([(a, ())]))⟩, some ⟨n2, true, 0, (spr (1 + n3) 1 (fun k => int ((fun _ => a) k)) (int 0))⟩] : List (Option Blk)) = (fun (ns : List Nat) => [some ⟨t, false, 0, (.lit [v0, v1, v2, (Value.map (some am))])⟩, some ⟨am, false, 0, (agaC ([(a, ())]))⟩, some ⟨(ns.getD 0 0), true, 0, (spr (1 + (ns.getD 1 0)) 1 (fun k => int ((fun _ => a) k)) (int 0))⟩]) ns) [n2, n3] (And.intro (@rfl Nat 2) (And.intro (@rfl Value (Value.slice (some ⟨n2, 0, none⟩) 1 (1 + n3))) (@rfl (List (Option Blk)) [some ⟨t, false, 0, (.lit [v0, v1, v2, (Value.map (some am))])⟩, some ⟨am, false, 0, (agaC ([(a, ())]))⟩, some ⟨n2, true, 0, (spr (1 + n3) 1 (fun k => int ((fun _ => a) k)) (int 0))⟩]))))))))
end Go.Proofs.Ytpjllbgipcfedaa
end
section
namespace Go.Proofs.Ytpjllbgipcfedaa
open Go Go.Eng
set_option linter.unusedVariables false
set_option linter.unusedSimpArgs false
set_option maxRecDepth 100000
theorem ints_1 (x c : Nat) (f : Nat → Int) (y : Nat) (a : Int) (h : f 0 = a) : Runs Try.prog 28 [(Value.slice (some ⟨x, 0, none⟩) 1 c), (Value.slice (some ⟨y, 0, none⟩) 1 1)] [⟨x, false, 0, (tabF 1 (fun k => int (f k)))⟩, ⟨y, false, 0, (.lit [(int a)])⟩] 0 (fun (_ : List Nat) => Value.bool true) (fun (_ : List Nat) => [some ⟨x, false, 0, (tabF 1 (fun k => int (f k)))⟩, some ⟨y, false, 0, (.lit [(int a)])⟩]) :=
  runs_of_ev mix Try.func28 rfl rfl 400 (.reg [(0, .g)] (.reg [(0, .g), (1, (.as (int 1))), (2, .g), (3, (.as (int 1))), (4, .g)] (.no (.reg [(0, .g)] (.unroll (.reg [(0, .g), (1, .g), (2, (.as (int 1))), (3, .g)] (.yes (.reg [(0, .g), (1, .g), (2, (.as (ptr x (0 + 0 * 1)))), (3, (.ld 0 (.tab 0 0))), (4, .g), (5, .g), (6, (.as (ptr y 0))), (7, (.ld 1 (.lit 0))), (8, .g)] (.no (.reg [(0, .g), (1, .g), (2, .g)] (.unroll (.reg [(0, .g), (1, .g), (2, (.as (int 1))), (3, .g)] (.no (.reg [(0, .g)] .done)))))))))))))) [] [] rfl
    (Eq.mp (by kernel_rfl) (And.intro (sk trivial) (And.intro (sk (And.intro (And.intro trivial (@is_len Try.prog 50 3 (.tmp 6) (by kernel_rfl) (some ⟨x, 0, none⟩) 1 c)) (sk (And.intro (And.intro trivial (@is_len Try.prog 50 3 (.tmp 8) (by kernel_rfl) (some ⟨y, 0, none⟩) 1 1)) (sk trivial))))) (And.intro trivial (And.intro (@rfl Bool false) (And.intro (sk trivial) (And.intro (sk (sk (And.intro (And.intro trivial (@is_len Try.prog 50 3 (.tmp 12) (by kernel_rfl) (some ⟨x, 0, none⟩) 1 c)) (sk trivial)))) (And.intro trivial (And.intro (@rfl Bool true) (And.intro (sk (sk (And.intro (And.intro trivial (@is_ixSl Try.prog 50 3 (.tmp 17) (.tmp 18) 1 (by kernel_rfl) (by kernel_rfl) x 0 1 c 0 (show 0 < 1 from by omega))) (And.intro (And.intro trivial (And.intro (show 0 < 1 from by omega) (@rfl Value (ptr x (0 + 0 * 1))))) (sk (sk (And.intro (And.intro trivial (@is_ixSl Try.prog 50 3 (.tmp 21) (.tmp 22) 1 (by kernel_rfl) (by kernel_rfl) y 0 1 1 0 (show 0 < 1 from by omega))) (And.intro (And.intro trivial (ad y 0)) (sk trivial))))))))) ((fun (hp1 : (((f 0) : Int) != a) = false) => have f0 : (((f 0) : Int) != a) = false := hp1; And.intro trivial (And.intro hp1 (And.intro (sk (sk (sk trivial))) (And.intro (sk (sk (And.intro (And.intro trivial (@is_len Try.prog 50 3 (.tmp 12) (by kernel_rfl) (some ⟨x, 0, none⟩) 1 c)) (sk trivial)))) (And.intro trivial (And.intro (@rfl Bool false) (And.intro (sk trivial) (And.intro trivial (@Exists.intro (List Nat) (fun (ns : List Nat) => ns.length = 0 ∧ ((Value.bool true) : Value) = (fun (_ : List Nat) => Value.bool true) ns ∧ ([some ⟨x, false, 0, (tabF 1 (fun k => int (f k)))⟩, some ⟨y, false, 0, (.lit [(int a)])⟩] : List (Option Blk)) = (fun (_ : List Nat) => [some ⟨x, false, 0, (tabF 1 (fun k => int (f k)))⟩, some ⟨y, false, 0, (.lit [(int a)])⟩]) ns) [] (And.intro (@rfl Nat 0) (And.intro (@rfl Value (Value.bool true)) (@rfl (List (Option Blk)) [some ⟨x, false, 0, (tabF 1 (fun k => int (f k)))⟩, some ⟨y, false, 0, (.lit [(int a)])⟩])))))))))))) (show (((f 0) : Int) != a) = false from by simp [h]))))))))))))
theorem vnew_lit {F : Blk → Prop} (p : Nat) (l : List UInt64) (hp : 0 < l.length) (hg : goodN l.length (urowL l)) : RunsO F Try.prog 13 [.slice (some ⟨p, 0, none⟩) l.length l.length] [some ⟨p, false, 0, .lit (l.map u64)⟩] 5
    (fun ns => .tuple #[ptr (ns.getD 0 0) 0, int 0]) (fun ns => [none, some ⟨ns.getD 0 0, true, 0, .lit [.slice (some ⟨ns.getD 1 0, 0, none⟩) l.length (l.length + ns.getD 2 0), u64 (totN (urowL l) l.length).a, .map (some (ns.getD 3 0)), .map (some (ns.getD 4 0))]⟩,
      some ⟨ns.getD 1 0, true, 0, tabF l.length fun k => u64 (urowL l k)⟩, some ⟨ns.getD 3 0, true, 0, firC []⟩, some ⟨ns.getD 4 0, true, 0, agaC []⟩]) :=
  (Runs.dark [true] (vnew_good p 0 l.length l.length (urowL l) hp hg)).toO.as (.kp _ _ ⟨rfl, rfl, fun w hw => hw.recont (b := ⟨p, false, 0, .lit (l.map u64)⟩) rfl (urowL_get l)⟩ (.zz _)) id fun ns h => ⟨h, rfl, .refl _, rfl, rfl, rfl, rfl, trivial⟩
theorem awake_runs : Runs Try.prog 8 [] [] 0 (fun (_ : List Nat) => Value.bool true) (fun (_ : List Nat) => []) :=
  runs_of_ev mix Try.func8 rfl rfl 400 (.reg [(0, .g)] (.regn [(0, (.oth [] 1 1 (fun ns => Value.slice (some ⟨ns.getD 0 0, 0, none⟩) 4 4) (fun ns => [some ⟨ns.getD 0 0, true, 0, .lit [(u64 1), (u64 1), (u64 1), (u64 1)]⟩]))), (1, (.callO [(0, true)] 5 4 (fun ns => Value.tuple #[ptr (ns.getD 0 0) 0, int 0]) (fun ns => [none, some ⟨(ns.getD 0 0), true, 0, (.lit [(Value.slice (some ⟨(ns.getD 1 0), 0, none⟩) 4 (4 + (ns.getD 2 0))), (u64 ((totN (urowL [1, 1, 1, 1]) 4).a)), (Value.map (some (ns.getD 3 0))), (Value.map (some (ns.getD 4 0)))])⟩, some ⟨(ns.getD 1 0), true, 0, (tabF 4 (fun k => u64 (urowL [1, 1, 1, 1] k)))⟩, some ⟨(ns.getD 3 0), true, 0, (firC ([]))⟩, some ⟨(ns.getD 4 0), true, 0, (agaC ([]))⟩]))), (2, .g), (3, .g), (4, .g), (5, .g), (6, .g)] (more (fun n1 => more (fun n2 => more (fun n3 => more (fun n4 => more (fun n5 => more (fun n6 => fun _ => (.reg [(0, .g), (1, .g), (2, .g), (3, .run .g), (4, .run .g), (5, .pk)] (.no (.regn [(0, .g), (1, .new), (2, (.st 5 (.lit 0)))] (more (fun n7 => fun _ => (.reg [(0, .g), (1, (.ld 5 (.lit 0))), (2, (.call [(1, true), (2, true), (3, false), (4, false)] 0 0 (fun _ => (int 0)) (fun _ => [none, none, some ⟨n5, true, 0, (firC ([((0 : Int), (oneR 1))]))⟩, some ⟨n6, true, 0, (agaC ([]))⟩])))] (.reg [(0, .g), (1, (.ld 5 (.lit 0))), (2, (.call [(1, true), (2, true), (3, false), (4, false)] 0 0 (fun _ => (int 0)) (fun _ => [none, none, some ⟨n5, true, 0, (firC ([((0 : Int), (oneR 1)), ((1 : Int), (oneR 1))]))⟩, some ⟨n6, true, 0, (agaC ([]))⟩])))] (.regn [(0, .g), (1, (.call [(1, true), (2, true), (3, true)] 0 0 (fun _ => (Value.tuple #[(vecV 32 (fun k => u8 ((fun _ => 0) k))), (Value.bool false)])) (fun _ => [none, none, none]))), (2, .g), (3, .g), (4, .g), (5, .new), (6, (.st 6 (.lit 0))), (7, .g)] (more (fun n8 => fun _ => (.reg [(0, .g), (1, (.ld 5 (.lit 0))), (2, (.call [(1, true), (2, true), (3, false), (4, false)] 0 0 (fun _ => (int 0)) (fun _ => [none, none, some ⟨n5, true, 0, (firC ([((0 : Int), (oneR 1)), ((1 : Int), (oneR 1)), ((2 : Int), (oneR 1))]))⟩, some ⟨n6, true, 0, (agaC ([]))⟩])))] (.regn [(0, .g), (1, (.call [(1, true), (2, true), (3, true)] 0 0 (fun _ => (Value.tuple #[(vecV 32 (fun k => u8 (oneR 1 k))), (Value.bool true)])) (fun _ => [none, none, none]))), (2, .g), (3, .g), (4, .g), (5, .new), (6, (.st 7 (.lit 0))), (7, .g)] (more (fun n9 => fun _ => (.reg [(0, .g), (1, .g), (2, (.call [(1, true), (2, true), (3, false), (4, false)] 0 0 (fun _ => (int 52)) (fun _ => [none, none, some ⟨n5, true, 0, (firC ([((0 : Int), (oneR 1)), ((1 : Int), (oneR 1)), ((2 : Int), (oneR 1))]))⟩, some ⟨n6, true, 0, (agaC ([((0 : Int), ())]))⟩]))), (3, .g)] (.regn [(0, .g), (1, (.callO [(1, true), (4, true)] 2 1 (fun ns => Value.slice (some ⟨ns.getD 0 0, 0, none⟩) 1 (1 + ns.getD 1 0)) (fun ns => [none, none, some ⟨(ns.getD 0 0), true, 0, (spr (1 + (ns.getD 1 0)) 1 (fun k => int ((fun _ => (0 : Int)) k)) (int 0))⟩]))), (2, .g)] (more (fun n10 => more (fun n11 => fun _ => (.reg [(0, (.call [] 0 0 (fun _ => (Value.bool false)) (fun _ => []))), (1, .g)] (.reg [(0, (.call [] 0 0 (fun _ => (Value.bool true)) (fun _ => []))), (1, .g)] (.reg [(0, (.call [] 0 0 (fun _ => (Value.bool false)) (fun _ => []))), (1, .g)] (.cast 8 (tabF 1 (fun k => int ((fun _ => (0 : Int)) k))) (.regn [(0, .g), (1, .g), (2, .g), (3, .run .g), (4, .pk), (5, .g), (6, .run (.ld 7 (.lit 0))), (7, .run (.ld 5 (.lit 0))), (8, .run (.as (Value.bool true))), (9, .pk), (10, .g), (11, .run .g), (12, .run .g), (13, .pk), (14, .g), (15, .run .g), (16, .run (.oth [] 1 1 (fun ns => Value.slice (some ⟨ns.getD 0 0, 0, none⟩) 1 1) (fun ns => [some ⟨ns.getD 0 0, true, 0, .lit [(int 0)]⟩]))), (17, .run (.call [(8, true), (9, true)] 0 0 (fun _ => (Value.bool true)) (fun _ => [none, none]))), (18, .pk), (19, .g), (20, .run .g), (21, .run .g), (22, .pk), (23, .g), (24, .run .g), (25, .pk), (26, .g), (27, .run .g), (28, .run .g), (29, .pk), (30, .g)] (more (fun n12 => fun _ => .done))))))))))))))))))))))))))))))))))) [] [] rfl
    (Eq.mp (by kernel_rfl) (And.intro (sk trivial) (fun (n1 n2 n3 n4 n5 n6 : Nat) => And.intro (And.intro (And.intro trivial (mk_build (P := Try.prog) (t := 22) (e := 26) one26 4 #[(0, (u64 1)), (1, (u64 1)), (2, (u64 1)), (3, (u64 1))] #[(u64 1), (u64 1), (u64 1), (u64 1)] (by kernel_rfl) (by decide) (by kernel_rfl))) (And.intro (And.intro trivial (vnew_lit (F := (fun _ => False)) n1 [1, 1, 1, 1] (by decide) (goodN_sum.2 (by decide)))) (sk (sk (sk (sk (sk trivial))))))) (And.intro (sk (sk (sk (And.intro (And.intro (@rfl Bool true) t2) (And.intro (And.intro (@rfl Bool true) t2) (And.intro (And.intro trivial (And.intro (fun (_ : false = true) => trivial) (fun (_ : false = false) => trivial))) trivial)))))) (And.intro trivial (And.intro (@rfl Bool false) (fun (n7 : Nat) => And.intro (sk (sk (And.intro (And.intro trivial (ad n7 0)) trivial))) (And.intro (sk (And.intro (And.intro trivial (ad n7 0)) (And.intro (And.intro trivial (Runs.dark [true, true, false, false] (vote_runs n2 n3 (4 + n4) n5 n6 4 (urowL [1, 1, 1, 1]) ([]) ([]) (0 : Int) (oneR 1) ((VOk.of (n := 4) (s := urowL [1, 1, 1, 1]) (F := ([])) (by kernel_rfl))).good.1))) trivial))) (And.intro (sk (And.intro (And.intro trivial (ad n7 0)) (And.intro (And.intro trivial (Runs.dark [true, true, false, false] (vote_runs n2 n3 (4 + n4) n5 n6 4 (urowL [1, 1, 1, 1]) ([((0 : Int), (oneR 1))]) ([]) (1 : Int) (oneR 1) ((VOk.of (n := 4) (s := urowL [1, 1, 1, 1]) (F := ([((0 : Int), (oneR 1))])) (by kernel_rfl))).good.1))) trivial))) (fun (n8 : Nat) => And.intro (sk (And.intro (And.intro trivial (Runs.dark [true, true, true] (quorum_runs n2 n3 (4 + n4) n5 n6 4 (urowL [1, 1, 1, 1]) ([((0 : Int), (oneR 1)), ((1 : Int), (oneR 1))]) (VOk.of (n := 4) (s := urowL [1, 1, 1, 1]) (F := ([((0 : Int), (oneR 1)), ((1 : Int), (oneR 1))])) (by kernel_rfl))))) (sk (sk (sk (sk (And.intro (And.intro trivial (ad n8 0)) (sk trivial)))))))) (And.intro (sk (And.intro (And.intro trivial (ad n7 0)) (And.intro (And.intro trivial (Runs.dark [true, true, false, false] (vote_runs n2 n3 (4 + n4) n5 n6 4 (urowL [1, 1, 1, 1]) ([((0 : Int), (oneR 1)), ((1 : Int), (oneR 1))]) ([]) (2 : Int) (oneR 1) ((VOk.of (n := 4) (s := urowL [1, 1, 1, 1]) (F := ([((0 : Int), (oneR 1)), ((1 : Int), (oneR 1))])) (by kernel_rfl))).good.1))) trivial))) (fun (n9 : Nat) => And.intro (sk (And.intro (And.intro trivial (Runs.dark [true, true, true] (quorum_runs n2 n3 (4 + n4) n5 n6 4 (urowL [1, 1, 1, 1]) ([((0 : Int), (oneR 1)), ((1 : Int), (oneR 1)), ((2 : Int), (oneR 1))]) (VOk.of (n := 4) (s := urowL [1, 1, 1, 1]) (F := ([((0 : Int), (oneR 1)), ((1 : Int), (oneR 1)), ((2 : Int), (oneR 1))])) (by kernel_rfl))))) (sk (sk (sk (sk (And.intro (And.intro trivial (ad n9 0)) (sk trivial)))))))) (And.intro (sk (sk (And.intro (And.intro trivial (Runs.dark [true, true, false, false] (vote_runs n2 n3 (4 + n4) n5 n6 4 (urowL [1, 1, 1, 1]) ([((0 : Int), (oneR 1)), ((1 : Int), (oneR 1)), ((2 : Int), (oneR 1))]) ([]) (0 : Int) (oneR 2) ((VOk.of (n := 4) (s := urowL [1, 1, 1, 1]) (F := ([((0 : Int), (oneR 1)), ((1 : Int), (oneR 1)), ((2 : Int), (oneR 1))])) (by kernel_rfl))).good.1))) (sk trivial)))) (fun (n10 n11 : Nat) => And.intro (sk (And.intro (And.intro trivial (RunsO.darkV [true, true] (twice_one (F := (fun _ => False)) n2 n6 (Value.slice (some ⟨n3, 0, none⟩) 4 (4 + n4)) (u64 ((totN (urowL [1, 1, 1, 1]) 4).a)) (Value.map (some n5)) (0 : Int)))) (sk trivial))) (And.intro (And.intro (And.intro trivial (great_pure 2 3)) (sk trivial)) (And.intro (And.intro (And.intro trivial (great_pure 3 4)) (sk trivial)) (And.intro (And.intro (And.intro trivial (more_pure 1 3)) (sk trivial)) (And.intro (@to_noroomK (1 + n11) 1 _ int (fun _ => (0 : Int)) (fun _ => (0 : Int)) (int 0) (by omega) (fun _ _ => rfl)) (fun (n12 : Nat) => And.intro (sk (sk (sk (And.intro (And.intro (@rfl Bool true) t2) (And.intro (And.intro trivial (And.intro (fun (_ : true = true) => trivial) (fun (_ : true = false) => trivial))) (sk (And.intro (And.intro (@rfl Bool true) (And.intro trivial (ad n9 0))) (And.intro (And.intro (@rfl Bool true) (And.intro trivial (ad n7 0))) (And.intro (And.intro (@rfl Bool true) (And.intro trivial (is_eqlR (P := Try.prog) (t := 25) (t' := 25) (x := (.tmp 58)) (y := (.tmp 59)) digT digE digS digG (oneR 1) (oneR 1)))) (And.intro (And.intro trivial (And.intro (fun (_ : true = true) => trivial) (fun (_ : true = false) => trivial))) (sk (And.intro (And.intro (@rfl Bool true) t2) (And.intro (And.intro (@rfl Bool true) t2) (And.intro (And.intro trivial (And.intro (fun (_ : true = true) => trivial) (fun (_ : true = false) => trivial))) (sk (And.intro (And.intro (@rfl Bool true) t2) (And.intro (And.intro (@rfl Bool true) (And.intro trivial (mk_build (P := Try.prog) (t := 50) (e := 3) one3 1 #[(0, (int 0))] #[(int 0)] (by kernel_rfl) (by decide) (by kernel_rfl)))) (And.intro (And.intro (@rfl Bool true) (And.intro trivial (Runs.dark [true, true] (ints_1 n10 (1 + n11) (fun _ => (0 : Int)) n12 (0 : Int) (@rfl Int (0 : Int)))))) (And.intro (And.intro trivial (And.intro (fun (_ : true = true) => trivial) (fun (_ : true = false) => trivial))) (sk (And.intro (And.intro (@rfl Bool true) t2) (And.intro (And.intro (@rfl Bool true) t2) (And.intro (And.intro trivial (And.intro (fun (_ : true = true) => trivial) (fun (_ : true = false) => trivial))) (sk (And.intro (And.intro (@rfl Bool true) t2) (And.intro (And.intro trivial (And.intro (fun (_ : true = true) => trivial) (fun (_ : true = false) => trivial))) (sk (And.intro (And.intro (@rfl Bool true) t2) (And.intro (And.intro (@rfl Bool true) t2) (And.intro (And.intro trivial (And.intro (fun (_ : true = true) => trivial) (fun (_ : true = false) => trivial))) (sk trivial))))))))))))))))))))))))))))))) (And.intro trivial (@Exists.intro (List Nat) (fun (ns : List Nat) => ns.length = 0 ∧ ((Value.bool true) : Value) = (fun (_ : List Nat) => Value.bool true) ns ∧ ([] : List (Option Blk)) = (fun (_ : List Nat) => []) ns) [] (And.intro (@rfl Nat 0) (And.intro (@rfl Value (Value.bool true)) (@rfl (List (Option Blk)) []))))))))))))))))))))))))
end Go.Proofs.Ytpjllbgipcfedaa
end
