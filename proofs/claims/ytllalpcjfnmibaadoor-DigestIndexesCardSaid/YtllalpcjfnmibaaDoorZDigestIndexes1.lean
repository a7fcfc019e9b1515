/-
  Many in one: EngI.
-/
import Derived.Test.YtllalpcjfnmibaaDoorZDigestIndexes0
import Derived.Deep.LoopGhost
import Derived.LoopN
import Derived.Scope
section
namespace Go.Eng
variable {ds : Nat}
def keepEnv (l : List (Nat × EV)) : List Nat → List (Nat × EV)
  | [] => []
  | t :: r => match look l t with
    | some e => (t, e) :: keepEnv l r
    | none => keepEnv l r
def keepMem (l : List (Nat × Option Blk)) : List Nat → List (Nat × Option Blk)
  | [] => []
  | p :: r => match look l p with
    | some ob => (p, ob) :: keepMem l r
    | none => (p, none) :: keepMem l r
def St.keep (s : St) (ts ps : List Nat) (nx : Nat) : St := ⟨keepEnv s.env ts, keepMem s.mem ps, nx⟩
structure Le (s' s : FSt) : Prop where
  env : ∀ t e, s'.env t = some e → s.env t = some e
  mem : ∀ p b, s'.mem p = some b → s.mem p = some b
theorem Le.refl (s : FSt) : Le s s := ⟨fun _ _ h => h, fun _ _ h => h⟩
theorem keepEnv_look (l : List (Nat × EV)) : ∀ (ts : List Nat) (t : Nat) (e : EV), look (keepEnv l ts) t = some e → look l t = some e
  | [], t, e, h => by cases h
  | u :: r, t, e, h => by
    simp only [keepEnv] at h
    split at h
    · rename_i e' he
      rw [look_cons] at h
      split at h
      · rename_i hu; subst hu; rw [he]; exact h
      · exact keepEnv_look l r t e h
    · exact keepEnv_look l r t e h
theorem keepMem_look (l : List (Nat × Option Blk)) : ∀ (ps : List Nat) (p : Nat) (b : Blk), look (keepMem l ps) p = some (some b) → look l p = some (some b)
  | [], p, b, h => by cases h
  | q :: r, p, b, h => by
    simp only [keepMem] at h
    split at h
    · rename_i ob' hl
      rw [look_cons] at h
      split at h
      · rename_i e; subst e; rw [hl]; exact h
      · exact keepMem_look l r p b h
    · rw [look_cons] at h
      split at h
      · cases h
      · exact keepMem_look l r p b h
theorem keep_le (s : St) (ts ps : List Nat) (nx : Nat) : Le (s.keep ts ps nx).fs s.fs where
  env t e h := keepEnv_look s.env ts t e h
  mem p b h := by
    simp only [St.fs, St.keep, memOf] at h ⊢
    cases hl : look (keepMem s.mem ps) p with
    | none => rw [hl] at h; cases h
    | some ob =>
      rw [hl] at h
      simp only at h
      subst h
      rw [keepMem_look s.mem ps p b hl]
theorem Sat.le {nt : Nat} {s s' : FSt} {a : Act} {w : World} (h : Sat ds nt s a w) (hl : Le s' s) : Sat ds nt s' a w :=
  ⟨h.defers.sub fun _ ⟨p, b, h1, h2, h3⟩ => ⟨p, b, hl.mem p b h1, h2, h3⟩, h.size, fun t e ht => h.env t e (hl.env t e ht), fun p b hp => h.mem p b (hl.mem p b hp),
    fun p q b c hpq hb hc ho => h.apart p q b c hpq (hl.mem p b hb) (hl.mem q c hc) ho⟩
theorem Le.owns {s s' : FSt} (hl : Le s' s) {k : Nat} (h : Owns s'.mem k) : Owns s.mem k := by
  obtain ⟨p, b, h1, h2, h3⟩ := h
  exact ⟨p, b, hl.mem p b h1, h2, h3⟩
theorem adv_le {s s' : FSt} {w : World} (hl : Le s' s) : Adv s.mem w s'.mem w :=
  (Adv.refl s.mem w).weak hl.mem
def St.recast (s : St) (p : Nat) (b : Blk) (c : Cont) : St := ⟨s.env, (p, some { b with cont := c }) :: s.mem, s.nx⟩
theorem recast_mem {s : St} {p : Nat} {b : Blk} {c : Cont} (q : Nat) : (s.recast p b c).fs.mem q = if p = q then some { b with cont := c } else s.fs.mem q := by
  simp only [St.fs, St.recast, memOf, look_cons]
  by_cases h : p = q
  · simp [h]
  · simp [h]
theorem Sat.recast {nt : Nat} {s : St} {a : Act} {w : World} (h : Sat ds nt s.fs a w) {p : Nat} {b : Blk} {c : Cont} (hb : s.fs.mem p = some b) (ho : b.own = true) (hnm : c.isMap = false)
    (hc : ∀ o v, c.get o = some v → b.cont.get o = some v) : Sat ds nt (s.recast p b c).fs a w ∧ Adv s.fs.mem w (s.recast p b c).fs.mem w := by
  have hH := h.mem p b hb
  have hnew : Holds { b with cont := c } w := ⟨hH.lt, fun o v hv => hH.cell o v (hc o v hv), fun _ o v hv => hH.free ho o v (hc o v hv), obj_not hnm⟩
  have hold : ∀ q d, (s.recast p b c).fs.mem q = some d → ∃ e, s.fs.mem q = some e ∧ e.name = d.name ∧ e.own = d.own := fun q d hq => by
    rw [recast_mem] at hq
    split at hq
    · rename_i hpq
      injection hq with hq; subst hq; subst hpq
      exact ⟨b, hb, rfl, rfl⟩
    · exact ⟨d, hq, rfl, rfl⟩
  refine ⟨⟨h.defers.sub fun k ⟨q, d, h1, h2, h3⟩ => (by obtain ⟨e, k1, k2, k3⟩ := hold q d h1; exact ⟨q, e, k1, by rw [k3, h2], by rw [k2, h3]⟩), h.size, h.env, fun q d hq => ?_, fun q r d e hqr hd he hown => ?_⟩, ⟨rfl, rfl, rfl, Nat.le_refl _, fun _ _ _ => rfl, fun k hk => ?_, fun q d hq hown => ?_⟩⟩
  · rw [recast_mem] at hq
    split at hq
    · injection hq with hq; subst hq; exact hnew
    · exact h.mem q d hq
  · obtain ⟨d', h1, h2, h3⟩ := hold q d hd
    obtain ⟨e', h4, h5, _⟩ := hold r e he
    rw [← h2, ← h5]
    exact h.apart q r d' e' hqr h1 h4 (by rw [h3]; exact hown)
  · obtain ⟨q, d, hq, hown, rfl⟩ := hk
    obtain ⟨d', h1, h2, h3⟩ := hold q d hq
    exact .inl ⟨q, d', h1, by rw [h3]; exact hown, h2⟩
  · rw [recast_mem] at hq
    split at hq
    · injection hq with hq; subst hq; rw [ho] at hown; cases hown
    · exact hq
def AWP (ds : Nat) (P : Program) (nt : Nat) (c : Code) (s : St) (Φ : Exit → St → Prop) : Prop :=
  ∀ a w, Sat ds nt s.fs a w → c.wp P (fun e a' w' => ∃ s', Φ e s' ∧ Sat ds nt s'.fs a' w' ∧ Adv s.fs.mem w s'.fs.mem w') a w
def AWPF (F : Blk → Prop) (ds : Nat) (P : Program) (nt : Nat) (c : Code) (s : St) (Φ : Exit → St → Prop) : Prop :=
  ∀ a w, Sat ds nt s.fs a w → Fam F s.fs.mem w → c.wp P (fun e a' w' => ∃ s', Φ e s' ∧ Sat ds nt s'.fs a' w' ∧ Adv s.fs.mem w s'.fs.mem w') a w
inductive H : Type 1 where
  | byF {α : Type} (R : α → Prop) (E : α → Exit) (S : α → St) (rest : α → H)
  | reg (ks : (List (Nat × OpH))) (rest : H)
  | regn (ks : (List (Nat × OpH))) (rest : List Nat → H)
  | br (yes no : H)
  | yes (rest : H)
  | no (rest : H)
  | keep (ts ps : List Nat) (nx : Nat) (rest : H)
  | cast (p : Nat) (c : Cont) (rest : H)
  | sum {α : Type} (R : α → Prop) (E : α → Exit) (S : α → St) (rest : α → H)
  | inv {α : Type} (ts ps : List Nat) (nx : Nat) (R : α → Prop) (S : α → St) (μ : α → Nat) (x0 : α) (round : α → H)
  | peel {α : Type} (ts ps : List Nat) (nx : Nat) (R : α → Prop) (S : α → St) (μ : α → Nat) (B : Nat) (first : H) (round : α → H)
  | cut {α : Type} (ts ps : List Nat) (nx : Nat) (R : α → Prop) (S : α → St) (here : H) (rest : α → H)
  | unroll (rest : H)
  | told (s' : St) (rest : H)
  | both (b : Bool) (yes no : H)
  | openb (b : Blk) (rest : H)
  | openr (b : Blk) (rest : H)
  | ren (p q : Nat) (rest : H)
  | done
def Round {α : Type} (R : α → Prop) (S : α → St) (μ : α → Nat) (x : α) (s : St) : Prop :=
  ∃ y, R y ∧ μ y < μ x ∧ s = S y
theorem rnd {α : Type} (R : α → Prop) (S : α → St) (μ : α → Nat) (x y : α) (h : R y ∧ μ y < μ x) : Round R S μ x (S y) := ⟨y, h.1, h.2, rfl⟩
def PeelTo {α : Type} (R : α → Prop) (S : α → St) (μ : α → Nat) (B : Nat) (s : St) : Prop :=
  ∃ y, R y ∧ μ y < B ∧ s = S y
def Meet {α : Type} (R : α → Prop) (S : α → St) (s : St) : Prop :=
  ∃ y, R y ∧ s = S y
def allNs : Nat → (List Nat → Prop) → Prop
  | 0, F => F []
  | n + 1, F => ∀ x, allNs n fun l => F (x :: l)
theorem allNs_get : ∀ {n : Nat} {F : List Nat → Prop}, allNs n F → ∀ l, l.length = n → F l
  | 0, F, h, l, hl => by
    have : l = [] := by simpa using hl
    subst this; exact h
  | n + 1, F, h, l, hl => by
    cases l with
    | nil => simp at hl
    | cons x r => exact allNs_get (h x) r (by simpa using hl)
def idxIs : (List (Nat × OpH)) → Nat → Nat → Bool
  | [], i, n => Nat.beq i n
  | (j, _) :: r, i, n => Nat.beq j i && idxIs r (i + 1) n
theorem idxIs_range : ∀ (ks : (List (Nat × OpH))) (i n : Nat), idxIs ks i n = true → ks.map (·.1) = List.range' i (n - i) ∧ i ≤ n
  | [], i, n, h => by
    have := Nat.eq_of_beq_eq_true h
    subst this; simp
  | (j, _) :: r, i, n, h => by
    simp only [idxIs, Bool.and_eq_true] at h
    have hj := Nat.eq_of_beq_eq_true h.1
    subst hj
    obtain ⟨h1, h2⟩ := idxIs_range r (j + 1) n h.2
    refine ⟨?_, by omega⟩
    have hn : n - j = (n - (j + 1)) + 1 := by omega
    rw [List.map_cons, h1, hn, List.range'_succ]
def regOk (ops : Array Oper) (draw : Bool) (ks : (List (Nat × OpH))) (nx : Nat) : Bool := match draw with
  | true => drawOk ops ks nx
  | false => idxIs ks 0 ops.size
def peelK (rec : Bool → Code → St → H → (Exit → St → H → Prop) → Prop) (b : Code) (K : Exit → St → H → Prop) (s : St) (h : H) : Prop := match h with
  | .peel ts ps nx R S μ B f r => (rec false b s f fun e s' h' => match e with
      | .normal => PeelTo R S μ B (s'.keep ts ps nx)
      | e => K e s' h') ∧ ∀ x, R x → rec false b (S x) (r x) fun e s' h' => match e with
      | .normal => Round R S μ x (s'.keep ts ps nx)
      | e => K e s' h'
  | _ => False
def tmpCall (o : Oper) : Bool := match o.op with
  | .call c => match c.callee with
    | .value (.tmp _) => true
    | _ => false
  | _ => false
def evStep (F : Blk → Prop) (P : Program) (nt : Nat) (rec : Bool → Code → St → H → (Exit → St → H → Prop) → Prop) (c : Code) (s : St) (h : H) (K : Exit → St → H → Prop) : Prop := match c with
  | .skip => K .normal s h
  | .label _ => K .normal s h
  | .ret => K .ret s h
  | .exit id => K (.exit id) s h
  | .seq a b => rec false a s h fun e s h => match e with
    | .normal => rec false b s h K
    | e => K e s h
  | .block id b => rec false b s h fun e s h => match e with
    | .exit id' => match Nat.beq id' id with
      | true => K .normal s h
      | false => K (.exit id') s h
    | e => K e s h
  | .scope b => rec false b s h fun e s h => match e with
    | .goto _ => False
    | e => K e s h
  | .cond o x y => match opdEV s.fs.env o with
    | some e => match e.val with
      | .bool b => match h with
        | .br h1 h2 => condOf (some e) ∧ (b = true → rec false x s h1 K) ∧ (b = false → rec false y s h2 K)
        | .yes r => condOf (some e) ∧ b = true ∧ rec false x s r K
        | .no r => condOf (some e) ∧ b = false ∧ rec false y s r K
        | _ => False
      | _ => False
    | none => False
  | .loop b => match h with
    | .inv ts ps nx R S μ x0 r => R x0 ∧ s.keep ts ps nx = S x0 ∧ ∀ x, R x → rec false b (S x) (r x) fun e s' h' => match e with
      | .normal => Round R S μ x (s'.keep ts ps nx)
      | e => K e s' h'
    | .peel ts ps nx R S μ B f r => (rec false b s f fun e s' h' => match e with
      | .normal => PeelTo R S μ B (s'.keep ts ps nx)
      | e => K e s' h') ∧ ∀ x, R x → rec false b (S x) (r x) fun e s' h' => match e with
      | .normal => Round R S μ x (s'.keep ts ps nx)
      | e => K e s' h'
    | .yes f => rec false b s f fun e s' h' => match e with
      | .normal => peelK rec b K s' h'
      | e => K e s' h'
    | .sum R E S r => (∀ ds, AWP ds P nt (.loop b) s (fun e s' => ∃ x, R x ∧ e = E x ∧ Le (S x).fs s'.fs)) ∧ ∀ x, R x → K (E x) (S x) (r x)
    | h => rec true b s h K
  | .region _ ops draw => match h with
    | .reg ks r => match regOk ops draw ks s.nx with
      | true => allNs (nnL ks) fun ns => match evSeq F P ops nt ks ns s with
        | some (vc, s') => vc ∧ K .normal s' r
        | none => False
      | false => False
    | .regn ks r => match regOk ops draw ks s.nx with
      | true => allNs (nnL ks) fun ns => match evSeq F P ops nt ks ns s with
        | some (vc, s') => vc ∧ K .normal s' (r ns)
        | none => False
      | false => False
    | .byF R E S r => match ops.any tmpCall with
      | true => (∀ ds, AWPF F ds P nt c s (fun e s' => ∃ x, R x ∧ e = E x ∧ Le (S x).fs s'.fs)) ∧ ∀ x, R x → K (E x) (S x) (r x)
      | false => False
    | _ => False
  | .rangeFunc _ _ _ _ => match h with
    | .byF R E S r => (∀ ds, AWPF F ds P nt c s (fun e s' => ∃ x, R x ∧ e = E x ∧ Le (S x).fs s'.fs)) ∧ ∀ x, R x → K (E x) (S x) (r x)
    | _ => False
  | _ => False
def St.addb (s : St) (b : Blk) : St := ⟨s.env, (s.nx, some b) :: s.mem, s.nx + 1⟩
def St.dropb (s : St) (p : Nat) : St := ⟨s.env, (p, none) :: s.mem, s.nx⟩
theorem addb_mem {s : St} {b : Blk} (q : Nat) : (s.addb b).fs.mem q = if s.nx = q then some b else s.fs.mem q := by
  simp only [St.fs, St.addb, memOf, look_cons]
  by_cases h : s.nx = q
  · simp [h]
  · simp [h]
theorem dropb_mem {s : St} {p : Nat} (q : Nat) : (s.dropb p).fs.mem q = if p = q then none else s.fs.mem q := by
  simp only [St.fs, St.dropb, memOf, look_cons]
  by_cases h : p = q
  · simp [h]
  · simp [h]
theorem addb_owns {s : St} {b : Blk} (hb : b.own = false) {k : Nat} (h : Owns (s.addb b).fs.mem k) : Owns s.fs.mem k := by
  obtain ⟨p, c, h1, h2, h3⟩ := h
  rw [addb_mem] at h1
  split at h1
  · injection h1 with h1; subst h1; rw [hb] at h2; cases h2
  · exact ⟨p, c, h1, h2, h3⟩
theorem Sat.addb {nt : Nat} {s : St} {a : Act} {w : World} (h : Sat ds nt s.fs a w) {F : Blk → Prop} (hF : Fam F s.fs.mem w) {b : Blk} (hb : F b) : Sat ds nt (s.addb b).fs a w ∧ Fam F (s.addb b).fs.mem w := by
  obtain ⟨h1, h2, h3⟩ := hF b hb
  refine ⟨{ h with defers := h.defers.sub fun _ ho => addb_owns h2 ho, mem := fun p c hp => ?_, apart := fun p q c d hpq hc hd ho => ?_ }, fun c hc => ?_⟩
  · rw [addb_mem] at hp
    split at hp
    · injection hp with hp; subst hp; exact h1
    · exact h.mem p c hp
  · rw [addb_mem] at hc hd
    split at hc
    · injection hc with hc; subst hc; rw [h2] at ho; cases ho
    · split at hd
      · injection hd with hd; subst hd
        intro e
        exact h3 ⟨p, c, hc, ho, e⟩
      · exact h.apart p q c d hpq hc hd ho
  · obtain ⟨k1, k2, k3⟩ := hF c hc
    exact ⟨k1, k2, fun ho => k3 (addb_owns h2 ho)⟩
theorem Sat.dropb {nt : Nat} {s : St} {a : Act} {w : World} (h : Sat ds nt s.fs a w) (p : Nat) : Sat ds nt (s.dropb p).fs a w :=
  { h with
    defers := h.defers.sub fun k ⟨q, c, h1, h2, h3⟩ => (by
      rw [dropb_mem] at h1
      split at h1
      · cases h1
      · exact ⟨q, c, h1, h2, h3⟩)
    mem := fun q c hq => by
      rw [dropb_mem] at hq
      split at hq
      · cases hq
      · exact h.mem q c hq
    apart := fun q r c d hqr hc hd ho => by
      rw [dropb_mem] at hc hd
      split at hc
      · cases hc
      · split at hd
        · cases hd
        · exact h.apart q r c d hqr hc hd ho }
theorem adv_drop {s s' : St} {b : Blk} {w w' : World} (hb : b.own = false) (h : Adv (s.addb b).fs.mem w s'.fs.mem w') : Adv s.fs.mem w (s'.dropb s.nx).fs.mem w' := by
  refine ⟨h.os, h.output, h.tape, h.size, fun k hk hno => h.heap k hk fun ho => hno (addb_owns hb ho), fun k hk => ?_, fun p c hp ho => ?_⟩
  · have : Owns s'.fs.mem k := by
      obtain ⟨p, c, h1, h2, h3⟩ := hk
      rw [dropb_mem] at h1
      split at h1
      · cases h1
      · exact ⟨p, c, h1, h2, h3⟩
    rcases h.names k this with h2 | h2
    · exact .inl (addb_owns hb h2)
    · exact .inr h2
  · rw [dropb_mem] at hp
    split at hp
    · cases hp
    · rename_i hne
      have := h.ro p c hp ho
      rw [addb_mem, if_neg hne] at this
      exact this
def St.ren (s : St) (p q : Nat) (b : Blk) : St := ⟨s.env, (q, some b) :: (p, none) :: s.mem, s.nx⟩
theorem ren_mem {s : St} {p q : Nat} {b : Blk} (x : Nat) : (s.ren p q b).fs.mem x = if q = x then some b else if p = x then none else s.fs.mem x := by
  simp only [St.fs, St.ren, memOf, look_cons]
  by_cases h : q = x
  · simp [h]
  · by_cases h2 : p = x
    · simp [h, h2]
    · simp [h, h2]
theorem Sat.ren {nt : Nat} {s : St} {a : Act} {w : World} (h : Sat ds nt s.fs a w) {p q : Nat} {b : Blk} (hb : s.fs.mem p = some b) (ho : b.own = true) (_hq : s.fs.mem q = none) :
    Sat ds nt (s.ren p q b).fs a w ∧ Adv s.fs.mem w (s.ren p q b).fs.mem w := by
  have hold : ∀ x d, (s.ren p q b).fs.mem x = some d → (x = q ∧ d = b) ∨ (x ≠ q ∧ x ≠ p ∧ s.fs.mem x = some d) := fun x d hx => by
    rw [ren_mem] at hx
    split at hx
    · rename_i h1; injection hx with hx; exact .inl ⟨h1.symm, hx.symm⟩
    · rename_i h1
      split at hx
      · cases hx
      · rename_i h2; exact .inr ⟨fun e => h1 e.symm, fun e => h2 e.symm, hx⟩
  refine ⟨⟨h.defers.sub fun k ⟨x, d, h1, h2, h3⟩ => (by
    rcases hold x d h1 with ⟨_, e⟩ | ⟨_, _, e⟩
    · exact ⟨p, b, hb, by rw [← e, h2], by rw [← e, h3]⟩
    · exact ⟨x, d, e, h2, h3⟩), h.size, h.env, fun x d hx => ?_, fun x y d e hxy hd he hown => ?_⟩, ⟨rfl, rfl, rfl, Nat.le_refl _, fun _ _ _ => rfl, fun k hk => ?_, fun x d hx hown => ?_⟩⟩
  · rcases hold x d hx with ⟨_, rfl⟩ | ⟨_, _, h3⟩
    · exact h.mem p d hb
    · exact h.mem x d h3
  · rcases hold x d hd with ⟨h1, rfl⟩ | ⟨h1, h2, h3⟩
    · rcases hold y e he with ⟨k1, rfl⟩ | ⟨k1, k2, k3⟩
      · exact absurd (h1.trans k1.symm) hxy
      · exact h.apart p y d e (fun e => k2 e.symm) hb k3 hown
    · rcases hold y e he with ⟨k1, rfl⟩ | ⟨k1, k2, k3⟩
      · exact h.apart x p d e h2 h3 hb hown
      · exact h.apart x y d e hxy h3 k3 hown
  · obtain ⟨x, d, hx, hown, rfl⟩ := hk
    rcases hold x d hx with ⟨_, rfl⟩ | ⟨_, _, h3⟩
    · exact .inl ⟨p, d, hb, hown, rfl⟩
    · exact .inl ⟨x, d, h3, hown, rfl⟩
  · rcases hold x d hx with ⟨_, rfl⟩ | ⟨_, _, h3⟩
    · rw [ho] at hown; cases hown
    · exact h3
def more (f : Nat → List Nat → H) : List Nat → H
  | n :: r => f n r
  | [] => .done
def isReg : Code → Bool
  | .region _ _ _ => true
  | _ => false
def evF (F : Blk → Prop) (P : Program) (nt : Nat) : Nat → Bool → Code → St → H → (Exit → St → H → Prop) → Prop
  | 0, _, _, _, _, _ => False
  | n + 1, lp, c, s, h, K => match h with
    | .keep ts ps nx r => evF F P nt n lp c (s.keep ts ps nx) r K
    | .openb b r => F b ∧ evF F P nt n lp c (s.addb b) r fun e s' h' => K e (s'.dropb s.nx) h'
    | .openr b r => match isReg c with
      | true => F b ∧ evF F P nt n lp c (s.addb b) r fun e s' h' => K e (s'.dropb s.nx) h'
      | false => match lp with
        | true => False
        | false => evStep F P nt (fun lp c s h K => evF F P nt n lp c s h K) c s (.openr b r) K
    | .told s' r => s = s' ∧ evF F P nt n lp c s' r K
    | .ren p q r => match memOf s.mem p with
      | some b => match b.own with
        | true => match memOf s.mem q with
          | none => evF F P nt n lp c (s.ren p q b) r K
          | some _ => False
        | false => False
      | none => False
    | .both b h1 h2 => (b = true → evF F P nt n lp c s h1 K) ∧ (b = false → evF F P nt n lp c s h2 K)
    | .cast p c' r => match memOf s.mem p with
      | some b => match b.own with
        | true => match c'.isMap with
          | true => False
          | false => (∀ o v, c'.get o = some v → b.cont.get o = some v) ∧ evF F P nt n lp c (s.recast p b c') r K
        | false => False
      | none => False
    | .cut ts ps nx R S h1 r => match lp with
      | true => False
      | false => (evF F P nt n false c s h1 fun e s' h' => match e with
        | .normal => Meet R S (s'.keep ts ps nx)
        | e => K e s' h') ∧ ∀ x, R x → K .normal (S x) (r x)
    | h => match lp with
      | true => match h with
        | .unroll r => evF F P nt n false c s r fun e s h => match e with
          | .normal => evF F P nt n true c s h K
          | e => K e s h
        | _ => False
      | false => evStep F P nt (fun lp c s h K => evF F P nt n lp c s h K) c s h K
abbrev ev (P : Program) (nt : Nat) (n : Nat) (lp : Bool) (c : Code) (s : St) (h : H) (K : Exit → St → H → Prop) : Prop := evF (fun _ => False) P nt n lp c s h K
def post (ds : Nat) (nt : Nat) (s : St) (w : World) (K : Exit → St → H → Prop) : Exit → Act → World → Prop :=
  fun e a' w' => ∃ s' h', K e s' h' ∧ Sat ds nt s'.fs a' w' ∧ Adv s.fs.mem w s'.fs.mem w'
def LoopArr (P : Program) (c : Code) (Q : Exit → Act → World → Prop) (a : Act) (w : World) : Prop :=
  ∀ (b : Frame) (k : List Item) (cs : List Frame), ∃ e a' w', Q e a' w' ∧ Arrives P (lone (b.at a (.code c :: .inLoop c :: k)) cs w) b k cs e a' w'
theorem LoopArr.wp {P : Program} {c : Code} {Q : Exit → Act → World → Prop} {a : Act} {w : World} (h : LoopArr P c Q a w) : (Code.loop c).wp P Q a w := fun b k cs =>
  let ⟨e, a', w', q, r⟩ := h b k cs; ⟨e, a', w', q, .of_steps (.one step_loop) r⟩
theorem LoopArr.first {P : Program} {c : Code} {Q : Exit → Act → World → Prop} {a : Act} {w : World} (h : c.wp P (Exit.then (LoopArr P c Q) Q) a w) : LoopArr P c Q a w := by
  intro b k cs
  obtain ⟨e, a₁, w₁, hq, harr⟩ := h b (.inLoop c :: k) cs
  cases e with
  | normal =>
    obtain ⟨e₂, a₂, w₂, hq₂, harr₂⟩ := hq b k cs
    exact ⟨e₂, a₂, w₂, hq₂, .of_steps (Steps.trans harr (.one step_inLoop)) harr₂⟩
  | exit id => exact ⟨_, a₁, w₁, hq, .pass (x := .inLoop c) rfl (fun _ _ => .inl (by simp)) harr⟩
  | goto l => exact ⟨_, a₁, w₁, hq, .pass (x := .inLoop c) rfl (fun _ _ => .inl (by simp)) harr⟩
  | ret => exact ⟨_, a₁, w₁, hq, .pass (x := .inLoop c) rfl (fun _ _ => .inl (by simp)) harr⟩
  | panic ch => exact ⟨_, a₁, w₁, hq, .pass (x := .inLoop c) rfl (fun _ _ => .inl (by simp)) harr⟩
  | outgrown => exact ⟨_, a₁, w₁, hq, .pass (x := .inLoop c) rfl (fun _ _ => .inl (by simp)) harr⟩
theorem LoopArr.ghost {P : Program} {c : Code} {Q : Exit → Act → World → Prop} (I : Nat → Act → World → Prop) (round : ∀ k a w, I k a w → c.wp P (Exit.then (fun a' w' => ∃ j, j < k ∧ I j a' w') Q) a w) : ∀ (k : Nat) (a : Act) (w : World), I k a w → LoopArr P c Q a w := by
  intro k
  induction k using Nat.strongRecOn with
  | _ k ih =>
    intro a w h0
    refine LoopArr.first (wp_mono (round k a w h0) fun e a' w' q => ?_)
    cases e with
    | normal => obtain ⟨j, hj, hI⟩ := q; exact ih j hj a' w' hI
    | _ => exact q
theorem rounds_up {P : Program} {c : Code} {Q : Exit → Act → World → Prop} : ∀ (n : Nat) (a : Act) (w : World), Code.rounds P c Q n a w → Code.rounds P c Q (n + 1) a w
  | 0, a, w, h => h.elim
  | n + 1, a, w, h => by
    rw [rounds_succ] at h ⊢
    refine wp_mono h fun e a w hq => ?_
    cases e with
    | normal => exact rounds_up n a w hq
    | _ => exact hq
theorem rounds_mono {P : Program} {c : Code} {Q Q' : Exit → Act → World → Prop} (hq : ∀ e a w, Q e a w → Q' e a w) : ∀ (n : Nat) (a : Act) (w : World), Code.rounds P c Q n a w → Code.rounds P c Q' n a w
  | 0, a, w, h => h.elim
  | n + 1, a, w, h => by
    rw [rounds_succ] at h ⊢
    refine wp_mono h fun e a w hh => ?_
    cases e with
    | normal => exact rounds_mono hq n a w hh
    | _ => exact hq _ _ _ hh
theorem post_trans {nt : Nat} {s s1 : St} {w w1 : World} {K : Exit → St → H → Prop} (ha : Adv s.fs.mem w s1.fs.mem w1) : ∀ e a w', post ds nt s1 w1 K e a w' → post ds nt s w K e a w' :=
  fun _ _ _ ⟨s', h', hK, hS, hA⟩ => ⟨s', h', hK, hS, ha.trans hA⟩
theorem evF_sound {F : Blk → Prop} {P : Program} {nt : Nat} (hmix : P.follows .mixedOrders = true) : ∀ (n : Nat) (lp : Bool) (c : Code) (s : St) (h : H) (K : Exit → St → H → Prop) (a : Act) (w : World),
    evF F P nt n lp c s h K → Sat ds nt s.fs a w → Fam F s.fs.mem w → match lp with
      | false => c.wp P (post ds nt s w K) a w
      | true => Code.rounds P c (post ds nt s w K) n a w
  | 0, lp, c, s, h, K, a, w, hev, hs, hF => by cases hev
  | n + 1, lp, c, s, h, K, a, w, hev, hs, hF => by
    by_cases hkeep : ∃ ts ps nx r, h = .keep ts ps nx r
    · obtain ⟨ts, ps, nx, r, rfl⟩ := hkeep
      simp only [evF] at hev
      have hle := keep_le s ts ps nx
      have ih := evF_sound hmix n lp c (s.keep ts ps nx) r K a w hev (hs.le hle) (hF.adv (adv_le hle))
      cases lp with
      | false => exact wp_mono ih (post_trans (adv_le hle))
      | true => exact rounds_up n a w (rounds_mono (post_trans (adv_le hle)) n a w ih)
    · by_cases htold : ∃ s' r, h = .told s' r
      · obtain ⟨s', r, rfl⟩ := htold
        simp only [evF] at hev
        obtain ⟨rfl, hev⟩ := hev
        have ih := evF_sound hmix n lp c s r K a w hev hs hF
        cases lp with
        | false => exact ih
        | true => exact rounds_up n a w ih
      by_cases hopen : ∃ b r, h = .openb b r
      · obtain ⟨b, r, rfl⟩ := hopen
        simp only [evF] at hev
        obtain ⟨hb, hev⟩ := hev
        obtain ⟨hs2, hF2⟩ := hs.addb hF hb
        have ho := (hF b hb).2.1
        have ih := evF_sound hmix n lp c (s.addb b) r _ a w hev hs2 hF2
        have up : ∀ e a' w', post ds nt (s.addb b) w (fun e s' h' => K e (s'.dropb s.nx) h') e a' w' → post ds nt s w K e a' w' :=
          fun e a' w' ⟨s', h', hK, hS, hA⟩ => ⟨s'.dropb s.nx, h', hK, hS.dropb s.nx, adv_drop ho hA⟩
        cases lp with
        | false => exact wp_mono ih up
        | true => exact rounds_up n a w (rounds_mono up n a w ih)
      by_cases hopr : ∃ b r, h = .openr b r ∧ isReg c = true
      · obtain ⟨b, r, rfl, hreg⟩ := hopr
        simp only [evF, hreg] at hev
        obtain ⟨hb, hev⟩ := hev
        obtain ⟨hs2, hF2⟩ := hs.addb hF hb
        have ho := (hF b hb).2.1
        have ih := evF_sound hmix n lp c (s.addb b) r _ a w hev hs2 hF2
        have up : ∀ e a' w', post ds nt (s.addb b) w (fun e s' h' => K e (s'.dropb s.nx) h') e a' w' → post ds nt s w K e a' w' :=
          fun e a' w' ⟨s', h', hK, hS, hA⟩ => ⟨s'.dropb s.nx, h', hK, hS.dropb s.nx, adv_drop ho hA⟩
        cases lp with
        | false => exact wp_mono ih up
        | true => exact rounds_up n a w (rounds_mono up n a w ih)
      by_cases hboth : ∃ b h1 h2, h = .both b h1 h2
      · obtain ⟨b, h1, h2, rfl⟩ := hboth
        simp only [evF] at hev
        cases b with
        | true =>
          have ih := evF_sound hmix n lp c s h1 K a w (hev.1 rfl) hs hF
          cases lp with
          | false => exact ih
          | true => exact rounds_up n a w ih
        | false =>
          have ih := evF_sound hmix n lp c s h2 K a w (hev.2 rfl) hs hF
          cases lp with
          | false => exact ih
          | true => exact rounds_up n a w ih
      by_cases hren : ∃ p q r, h = .ren p q r
      · obtain ⟨p, q, r, rfl⟩ := hren
        simp only [evF] at hev
        split at hev
        · rename_i b hb
          split at hev
          · rename_i ho
            split at hev
            · rename_i hq
              obtain ⟨hs2, hadv⟩ := hs.ren hb ho hq
              have ih := evF_sound hmix n lp c (s.ren p q b) r K a w hev hs2 (hF.adv hadv)
              cases lp with
              | false => exact wp_mono ih (post_trans hadv)
              | true => exact rounds_up n a w (rounds_mono (post_trans hadv) n a w ih)
            · exact hev.elim
          · exact hev.elim
        · exact hev.elim
      by_cases hcast : ∃ p c' r, h = .cast p c' r
      · obtain ⟨p, c', r, rfl⟩ := hcast
        simp only [evF] at hev
        split at hev
        · rename_i b hb
          split at hev
          · rename_i ho
            split at hev
            · exact hev.elim
            rename_i hnm
            obtain ⟨hc, hev⟩ := hev
            obtain ⟨hs2, hadv⟩ := hs.recast hb ho hnm hc
            have ih := evF_sound hmix n lp c (s.recast p b c') r K a w hev hs2 (hF.adv hadv)
            cases lp with
            | false => exact wp_mono ih (post_trans hadv)
            | true => exact rounds_up n a w (rounds_mono (post_trans hadv) n a w ih)
          · exact hev.elim
        · exact hev.elim
      by_cases hcut : ∃ (α : Type) (ts ps : List Nat) (nx : Nat) (R : α → Prop) (S : α → St) (h1 : H) (r : α → H), h = .cut ts ps nx R S h1 r
      · obtain ⟨α, ts, ps, nx, R, S, h1, r, rfl⟩ := hcut
        simp only [evF] at hev
        cases lp with
        | true => exact hev.elim
        | false =>
          obtain ⟨hev, hrest⟩ := hev
          refine wp_mono (evF_sound hmix n false c s h1 _ a w hev hs hF) ?_
          rintro e a' w' ⟨s', h', hK, hS, hA⟩
          cases e with
          | normal =>
            obtain ⟨y, hR, hy⟩ := hK
            have hle := keep_le s' ts ps nx
            rw [hy] at hle
            exact ⟨S y, r y, hrest y hR, hS.le hle, hA.weak hle.mem⟩
          | _ => exact ⟨s', h', hK, hS, hA⟩
      cases lp with
      | true =>
        have hE : ∃ r, h = .unroll r := by
          cases h with
          | keep ts ps nx r => exact absurd ⟨ts, ps, nx, r, rfl⟩ hkeep
          | cast p c' r => exact absurd ⟨p, c', r, rfl⟩ hcast
          | told s' r => exact absurd ⟨s', r, rfl⟩ htold
          | both b h1 h2 => exact absurd ⟨b, h1, h2, rfl⟩ hboth
          | openb b r => exact absurd ⟨b, r, rfl⟩ hopen
          | ren p q r => exact absurd ⟨p, q, r, rfl⟩ hren
          | openr b r =>
            cases hreg : isReg c with
            | true => exact absurd ⟨b, r, rfl, hreg⟩ hopr
            | false => simp only [evF, hreg] at hev
          | unroll r => exact ⟨r, rfl⟩
          | reg ks r => exact hev.elim
          | regn ks r => exact hev.elim
          | br x y => exact hev.elim
          | yes r => exact hev.elim
          | no r => exact hev.elim
          | sum R E S r => exact hev.elim
          | byF R E S r => exact hev.elim
          | inv ts ps nx R S μ x0 r => exact hev.elim
          | peel ts ps nx R S μ B f r => exact hev.elim
          | cut ts ps nx R S h1 r => exact absurd ⟨_, ts, ps, nx, R, S, h1, r, rfl⟩ hcut
          | done => exact hev.elim
        obtain ⟨r, rfl⟩ := hE
        simp only [evF] at hev
        have ih := evF_sound hmix n false c s r _ a w hev hs hF
        show Code.rounds P c _ (n + 1) a w
        rw [rounds_succ]
        refine wp_mono ih ?_
        rintro e a' w' ⟨s', h', hK, hS, hA⟩
        cases e with
        | normal => exact rounds_mono (post_trans hA) n a' w' (evF_sound hmix n true c s' h' K a' w' hK hS (hF.adv hA))
        | _ => exact ⟨s', h', hK, hS, hA⟩
      | false =>
        show c.wp P (post ds nt s w K) a w
        have hnk : evF F P nt (n + 1) false c s h K = evStep F P nt (fun lp c s h K => evF F P nt n lp c s h K) c s h K := by
          cases h with
          | keep ts ps nx r => exact absurd ⟨ts, ps, nx, r, rfl⟩ hkeep
          | cast p c' r => exact absurd ⟨p, c', r, rfl⟩ hcast
          | told s' r => exact absurd ⟨s', r, rfl⟩ htold
          | both b h1 h2 => exact absurd ⟨b, h1, h2, rfl⟩ hboth
          | openb b r => exact absurd ⟨b, r, rfl⟩ hopen
          | ren p q r => exact absurd ⟨p, q, r, rfl⟩ hren
          | openr b r =>
            cases hreg : isReg c with
            | true => exact absurd ⟨b, r, rfl, hreg⟩ hopr
            | false => simp only [evF, hreg]
          | cut ts ps nx R S h1 r => exact absurd ⟨_, ts, ps, nx, R, S, h1, r, rfl⟩ hcut
          | _ => rfl
        rw [hnk] at hev
        clear hnk
        have here : ∀ e, K e s h → post ds nt s w K e a w := fun e hK => ⟨s, h, hK, hs, .refl _ _⟩
        cases c with
        | skip => exact wp_skip (here _ hev)
        | label l => exact wp_label (here _ hev)
        | ret => exact wp_ret (here _ hev)
        | exit id => exact wp_exit (here _ hev)
        | seq x y =>
          refine wp_seq (wp_mono (evF_sound hmix n false x s h _ a w hev hs hF) ?_)
          rintro e a' w' ⟨s', h', hK, hS, hA⟩
          cases e with
          | normal => exact wp_mono (evF_sound hmix n false y s' h' K a' w' hK hS (hF.adv hA)) (post_trans hA)
          | _ => exact ⟨s', h', hK, hS, hA⟩
        | block id b =>
          refine wp_block (wp_mono (evF_sound hmix n false b s h _ a w hev hs hF) ?_)
          rintro e a' w' ⟨s', h', hK, hS, hA⟩
          cases e with
          | exit id' =>
            simp only [Exit.inBlock]
            simp only at hK
            by_cases hid : id' = id
            · subst hid
              rw [if_pos rfl]
              simp only [Nat.beq_refl] at hK
              exact ⟨s', h', hK, hS, hA⟩
            · rw [if_neg hid]
              have : Nat.beq id' id = false := by
                cases hb : Nat.beq id' id with
                | false => rfl
                | true => exact absurd (Nat.eq_of_beq_eq_true hb) hid
              rw [this] at hK
              exact ⟨s', h', hK, hS, hA⟩
          | _ => exact ⟨s', h', hK, hS, hA⟩
        | scope b =>
          refine wp_scope_straight (wp_mono (evF_sound hmix n false b s h _ a w hev hs hF) ?_)
          rintro e a' w' ⟨s', h', hK, hS, hA⟩
          cases e with
          | goto l => exact hK.elim
          | _ => exact ⟨s', h', hK, hS, hA⟩
        | cond o x y =>
          simp only [evStep] at hev
          split at hev
          · rename_i ee hee
            split at hev
            · rename_i b hb
              have hval : condOf (some ee) → a.eval o = .bool b := fun hc => by
                rw [opd_eval hs hee, ← hb]
                cases ee with
                | v _ => rfl
                | c g _ => simp only [condOf] at hc; subst hc; rfl
              split at hev
              · obtain ⟨hc, h1, h2⟩ := hev
                exact wp_cond_split (hval hc) (fun ht => evF_sound hmix n false x s _ K a w (h1 ht) hs hF) (fun hf => evF_sound hmix n false y s _ K a w (h2 hf) hs hF)
              · obtain ⟨hc, hbt, h1⟩ := hev
                subst hbt
                exact wp_cond_true (hval hc) (evF_sound hmix n false x s _ K a w h1 hs hF)
              · obtain ⟨hc, hbt, h1⟩ := hev
                subst hbt
                exact wp_cond_false (hval hc) (evF_sound hmix n false y s _ K a w h1 hs hF)
              · exact hev.elim
            · exact hev.elim
          · exact hev.elim
        | loop b =>
          by_cases hsum : ∃ (α : Type) (R : α → Prop) (E : α → Exit) (S : α → St) (r : α → H), h = .sum R E S r
          · obtain ⟨α, R, E, S, r, rfl⟩ := hsum
            obtain ⟨hA, hK⟩ := hev
            refine wp_mono (hA ds a w hs) ?_
            rintro e a' w' ⟨s', ⟨x, hR, rfl, hle⟩, hS, hadv⟩
            exact ⟨S x, r x, hK x hR, hS.le hle, hadv.weak hle.mem⟩
          · by_cases hinv : ∃ (α : Type) (ts ps : List Nat) (nx : Nat) (R : α → Prop) (S : α → St) (μ : α → Nat) (x0 : α) (r : α → H), h = .inv ts ps nx R S μ x0 r
            · obtain ⟨α, ts, ps, nx, R, S, μ, x0, r, rfl⟩ := hinv
              obtain ⟨hR0, h0, hround⟩ := hev
              have hle0 := keep_le s ts ps nx
              rw [h0] at hle0
              refine wp_loop_ghost (fun k a' w' => ∃ y, R y ∧ μ y = k ∧ Sat ds nt (S y).fs a' w' ∧ Adv s.fs.mem w (S y).fs.mem w') (μ x0) ⟨x0, hR0, rfl, hs.le hle0, adv_le hle0⟩ ?_
              rintro k a' w' ⟨y, hy, rfl, hS, hA⟩
              refine wp_mono (evF_sound hmix n false b (S y) (r y) _ a' w' (hround y hy) hS (hF.adv hA)) ?_
              rintro e a2 w2 ⟨s2, h2, hphi, hS2, hA2⟩
              cases e with
              | normal =>
                obtain ⟨z, hz, hlt, hle⟩ := hphi
                have hle2 := keep_le s2 ts ps nx
                rw [hle] at hle2
                exact ⟨μ z, hlt, z, hz, rfl, hS2.le hle2, hA.trans (hA2.weak hle2.mem)⟩
              | _ => exact ⟨s2, h2, hphi, hS2, hA.trans hA2⟩
            by_cases hpeel : ∃ (α : Type) (ts ps : List Nat) (nx : Nat) (R : α → Prop) (S : α → St) (μ : α → Nat) (B : Nat) (f : H) (r : α → H), h = .peel ts ps nx R S μ B f r
            · obtain ⟨α, ts, ps, nx, R, S, μ, B, f, r, rfl⟩ := hpeel
              obtain ⟨hfirst, hround⟩ := hev
              refine wp_loop_ghost (fun k a' w' => (k = B ∧ a' = a ∧ w' = w) ∨ ∃ y, R y ∧ μ y = k ∧ μ y < B ∧ Sat ds nt (S y).fs a' w' ∧ Adv s.fs.mem w (S y).fs.mem w') B (.inl ⟨rfl, rfl, rfl⟩) ?_
              rintro k a' w' (⟨hk, rfl, rfl⟩ | ⟨y, hy, rfl, hyB, hS, hA⟩)
              · subst hk
                refine wp_mono (evF_sound hmix n false b s f _ a' w' hfirst hs hF) ?_
                rintro e a2 w2 ⟨s2, h2, hphi, hS2, hA2⟩
                cases e with
                | normal =>
                  obtain ⟨z, hz, hlt, hle⟩ := hphi
                  have hle2 := keep_le s2 ts ps nx
                  rw [hle] at hle2
                  exact ⟨μ z, hlt, .inr ⟨z, hz, rfl, hlt, hS2.le hle2, hA2.weak hle2.mem⟩⟩
                | _ => exact ⟨s2, h2, hphi, hS2, hA2⟩
              · refine wp_mono (evF_sound hmix n false b (S y) (r y) _ a' w' (hround y hy) hS (hF.adv hA)) ?_
                rintro e a2 w2 ⟨s2, h2, hphi, hS2, hA2⟩
                cases e with
                | normal =>
                  obtain ⟨z, hz, hlt, hle⟩ := hphi
                  have hle2 := keep_le s2 ts ps nx
                  rw [hle] at hle2
                  exact ⟨μ z, hlt, .inr ⟨z, hz, rfl, Nat.lt_trans hlt hyB, hS2.le hle2, hA.trans (hA2.weak hle2.mem)⟩⟩
                | _ => exact ⟨s2, h2, hphi, hS2, hA.trans hA2⟩
            by_cases hyes : ∃ f, h = .yes f
            · obtain ⟨f0, rfl⟩ := hyes
              refine LoopArr.wp (LoopArr.first (wp_mono (evF_sound hmix n false b s f0 _ a w hev hs hF) ?_))
              rintro e a1 w1 ⟨s1, h1, hphi, hS1, hA1⟩
              cases e with
              | normal =>
                have hp : ∃ (α : Type) (ts ps : List Nat) (nx : Nat) (R : α → Prop) (S : α → St) (μ : α → Nat) (B : Nat) (f : H) (r : α → H), h1 = .peel ts ps nx R S μ B f r := by
                  cases h1 with
                  | peel ts ps nx R S μ B f r => exact ⟨_, ts, ps, nx, R, S, μ, B, f, r, rfl⟩
                  | _ => exact hphi.elim
                obtain ⟨α, ts, ps, nx, R, S, μ, B, f, r, rfl⟩ := hp
                obtain ⟨hfirst, hround⟩ := hphi
                refine LoopArr.ghost (fun k a' w' => (k = B ∧ a' = a1 ∧ w' = w1) ∨ ∃ y, R y ∧ μ y = k ∧ μ y < B ∧ Sat ds nt (S y).fs a' w' ∧ Adv s1.fs.mem w1 (S y).fs.mem w') ?_ B a1 w1 (.inl ⟨rfl, rfl, rfl⟩)
                rintro k a' w' (⟨hk, rfl, rfl⟩ | ⟨y, hy, rfl, hyB, hS, hA⟩)
                · subst hk
                  refine wp_mono (evF_sound hmix n false b s1 f _ a' w' hfirst hS1 (hF.adv hA1)) ?_
                  rintro e a2 w2 ⟨s2, h2, hphi, hS2, hA2⟩
                  cases e with
                  | normal =>
                    obtain ⟨z, hz, hlt, hle⟩ := hphi
                    have hle2 := keep_le s2 ts ps nx
                    rw [hle] at hle2
                    exact ⟨μ z, hlt, .inr ⟨z, hz, rfl, hlt, hS2.le hle2, hA2.weak hle2.mem⟩⟩
                  | _ => exact ⟨s2, h2, hphi, hS2, hA1.trans hA2⟩
                · refine wp_mono (evF_sound hmix n false b (S y) (r y) _ a' w' (hround y hy) hS ((hF.adv hA1).adv hA)) ?_
                  rintro e a2 w2 ⟨s2, h2, hphi, hS2, hA2⟩
                  cases e with
                  | normal =>
                    obtain ⟨z, hz, hlt, hle⟩ := hphi
                    have hle2 := keep_le s2 ts ps nx
                    rw [hle] at hle2
                    exact ⟨μ z, hlt, .inr ⟨z, hz, rfl, Nat.lt_trans hlt hyB, hS2.le hle2, hA.trans (hA2.weak hle2.mem)⟩⟩
                  | _ => exact ⟨s2, h2, hphi, hS2, hA1.trans (hA.trans hA2)⟩
              | _ => exact ⟨s1, h1, hphi, hS1, hA1⟩
            have hev' : evF F P nt n true b s h K := by
              cases h with
              | yes f => exact absurd ⟨f, rfl⟩ hyes
              | peel ts ps nx R S μ B f r => exact absurd ⟨_, ts, ps, nx, R, S, μ, B, f, r, rfl⟩ hpeel
              | sum R E S r => exact absurd ⟨_, R, E, S, r, rfl⟩ hsum
              | inv ts ps nx R S μ x0 r => exact absurd ⟨_, ts, ps, nx, R, S, μ, x0, r, rfl⟩ hinv
              | _ => exact hev
            exact wp_loop_rounds n (evF_sound hmix n true b s h K a w hev' hs hF)
        | region id ops draw =>
          simp only [evStep] at hev
          split at hev
          · rename_i ks r
            split at hev
            · rename_i hok
              have hall : ∀ ns, ns.length = nnL ks → ∃ vc s', evSeq F P ops nt ks ns s = some (vc, s') ∧ vc := fun ns hns => by
                have := allNs_get hev ns hns
                split at this
                · rename_i vc s' he; exact ⟨vc, s', he, this.1⟩
                · exact this.elim
              have hfin : ∀ ns vc s' a' w', ns.length = nnL ks → evSeq F P ops nt ks ns s = some (vc, s') → vc → Sat ds nt s'.fs a' w' → Adv s.fs.mem w s'.fs.mem w' → post ds nt s w K .normal a' w' :=
                fun ns vc s' a' w' hns he hvc hS hA => by
                  have := allNs_get hev ns hns
                  rw [he] at this
                  exact ⟨s', r, this.2, hS, hA⟩
              cases draw with
              | true => exact draw_sound hmix hok hs hF hall hfin
              | false =>
                refine wp_region ?_
                have hidx := (idxIs_range ks 0 ops.size hok).1
                rw [Nat.sub_zero, ← List.range_eq_range'] at hidx
                rw [← hidx]
                exact seq_sound ks hs hF hall hfin
            · exact hev.elim
          · rename_i ks r
            split at hev
            · rename_i hok
              have hall : ∀ ns, ns.length = nnL ks → ∃ vc s', evSeq F P ops nt ks ns s = some (vc, s') ∧ vc := fun ns hns => by
                have := allNs_get hev ns hns
                split at this
                · rename_i vc s' he; exact ⟨vc, s', he, this.1⟩
                · exact this.elim
              have hfin : ∀ ns vc s' a' w', ns.length = nnL ks → evSeq F P ops nt ks ns s = some (vc, s') → vc → Sat ds nt s'.fs a' w' → Adv s.fs.mem w s'.fs.mem w' → post ds nt s w K .normal a' w' :=
                fun ns vc s' a' w' hns he hvc hS hA => by
                  have := allNs_get hev ns hns
                  rw [he] at this
                  exact ⟨s', r ns, this.2, hS, hA⟩
              cases draw with
              | true => exact draw_sound hmix hok hs hF hall hfin
              | false =>
                refine wp_region ?_
                have hidx := (idxIs_range ks 0 ops.size hok).1
                rw [Nat.sub_zero, ← List.range_eq_range'] at hidx
                rw [← hidx]
                exact seq_sound ks hs hF hall hfin
            · exact hev.elim
          · rename_i α R E S r
            split at hev
            · refine wp_mono (hev.1 ds a w hs hF) ?_
              rintro e a' w' ⟨s', ⟨x, hR, rfl, hle⟩, hS, hadv⟩
              exact ⟨S x, r x, hev.2 x hR, hS.le hle, hadv.weak hle.mem⟩
            · exact hev.elim
          · exact hev.elim
        | rangeFunc g ps asg bd =>
          simp only [evStep] at hev
          split at hev
          · rename_i α R E S r
            refine wp_mono (hev.1 ds a w hs hF) ?_
            rintro e a' w' ⟨s', ⟨x, hR, rfl, hle⟩, hS, hadv⟩
            exact ⟨S x, r x, hev.2 x hR, hS.le hle, hadv.weak hle.mem⟩
          · exact hev.elim
        | _ => exact hev.elim
theorem fam_none {m : Nat → Option Blk} {w : World} : Fam (fun _ => False) m w := fun _ h => h.elim
end Go.Eng
end
