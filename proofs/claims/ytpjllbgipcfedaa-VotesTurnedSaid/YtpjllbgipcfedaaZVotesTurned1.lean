/-
  Many in one: EngI, EngSp.
-/
import Derived.Test.YtpjllbgipcfedaaZVotesTurned0
import Derived.Deep.LoopGhost
import Derived.LoopN
import Derived.Scope
section
namespace Go.Eng
variable {ds : Nat}
def keepEnv (l : List (Nat × EV)) : List Nat → List (Nat × EV)
  | [] => []
  | t :: r => match look l t with
    | some e => (t, e) :: keepEnv l r
    | none => keepEnv l r
def keepMem (l : List (Nat × Option Blk)) : List Nat → List (Nat × Option Blk)
  | [] => []
  | p :: r => match look l p with
    | some ob => (p, ob) :: keepMem l r
    | none => (p, none) :: keepMem l r
def St.keep (s : St) (ts ps : List Nat) (nx : Nat) : St := ⟨keepEnv s.env ts, keepMem s.mem ps, nx⟩
structure Le (s' s : FSt) : Prop where
  env : ∀ t e, s'.env t = some e → s.env t = some e
  mem : ∀ p b, s'.mem p = some b → s.mem p = some b
theorem Le.refl (s : FSt) : Le s s := ⟨fun _ _ h => h, fun _ _ h => h⟩
theorem keepEnv_look (l : List (Nat × EV)) : ∀ (ts : List Nat) (t : Nat) (e : EV), look (keepEnv l ts) t = some e → look l t = some e
  | [], t, e, h => by cases h
  | u :: r, t, e, h => by
    simp only [keepEnv] at h
    split at h
    · rename_i e' he
      rw [look_cons] at h
      split at h
      · rename_i hu; subst hu; rw [he]; exact h
      · exact keepEnv_look l r t e h
    · exact keepEnv_look l r t e h
theorem keepMem_look (l : List (Nat × Option Blk)) : ∀ (ps : List Nat) (p : Nat) (b : Blk), look (keepMem l ps) p = some (some b) → look l p = some (some b)
  | [], p, b, h => by cases h
  | q :: r, p, b, h => by
    simp only [keepMem] at h
    split at h
    · rename_i ob' hl
      rw [look_cons] at h
      split at h
      · rename_i e; subst e; rw [hl]; exact h
      · exact keepMem_look l r p b h
    · rw [look_cons] at h
      split at h
      · cases h
      · exact keepMem_look l r p b h
theorem keep_le (s : St) (ts ps : List Nat) (nx : Nat) : Le (s.keep ts ps nx).fs s.fs where
  env t e h := keepEnv_look s.env ts t e h
  mem p b h := by
    simp only [St.fs, St.keep, memOf] at h ⊢
    cases hl : look (keepMem s.mem ps) p with
    | none => rw [hl] at h; cases h
    | some ob =>
      rw [hl] at h
      simp only at h
      subst h
      rw [keepMem_look s.mem ps p b hl]
theorem Sat.le {nt : Nat} {s s' : FSt} {a : Act} {w : World} (h : Sat ds nt s a w) (hl : Le s' s) : Sat ds nt s' a w :=
  ⟨h.defers.sub fun _ ⟨p, b, h1, h2, h3⟩ => ⟨p, b, hl.mem p b h1, h2, h3⟩, h.size, fun t e ht => h.env t e (hl.env t e ht), fun p b hp => h.mem p b (hl.mem p b hp),
    fun p q b c hpq hb hc ho => h.apart p q b c hpq (hl.mem p b hb) (hl.mem q c hc) ho⟩
theorem Le.owns {s s' : FSt} (hl : Le s' s) {k : Nat} (h : Owns s'.mem k) : Owns s.mem k := by
  obtain ⟨p, b, h1, h2, h3⟩ := h
  exact ⟨p, b, hl.mem p b h1, h2, h3⟩
theorem adv_le {s s' : FSt} {w : World} (hl : Le s' s) : Adv s.mem w s'.mem w :=
  (Adv.refl s.mem w).weak hl.mem
def St.recast (s : St) (p : Nat) (b : Blk) (c : Cont) : St := ⟨s.env, (p, some { b with cont := c }) :: s.mem, s.nx⟩
theorem recast_mem {s : St} {p : Nat} {b : Blk} {c : Cont} (q : Nat) : (s.recast p b c).fs.mem q = if p = q then some { b with cont := c } else s.fs.mem q := by
  simp only [St.fs, St.recast, memOf, look_cons]
  by_cases h : p = q
  · simp [h]
  · simp [h]
theorem Sat.recast {nt : Nat} {s : St} {a : Act} {w : World} (h : Sat ds nt s.fs a w) {p : Nat} {b : Blk} {c : Cont} (hb : s.fs.mem p = some b) (ho : b.own = true) (hnm : c.isMap = false)
    (hc : ∀ o v, c.get o = some v → b.cont.get o = some v) : Sat ds nt (s.recast p b c).fs a w ∧ Adv s.fs.mem w (s.recast p b c).fs.mem w := by
  have hH := h.mem p b hb
  have hnew : Holds { b with cont := c } w := ⟨hH.lt, fun o v hv => hH.cell o v (hc o v hv), fun _ o v hv => hH.free ho o v (hc o v hv), obj_not hnm⟩
  have hold : ∀ q d, (s.recast p b c).fs.mem q = some d → ∃ e, s.fs.mem q = some e ∧ e.name = d.name ∧ e.own = d.own := fun q d hq => by
    rw [recast_mem] at hq
    split at hq
    · rename_i hpq
      injection hq with hq; subst hq; subst hpq
      exact ⟨b, hb, rfl, rfl⟩
    · exact ⟨d, hq, rfl, rfl⟩
  refine ⟨⟨h.defers.sub fun k ⟨q, d, h1, h2, h3⟩ => (by obtain ⟨e, k1, k2, k3⟩ := hold q d h1; exact ⟨q, e, k1, by rw [k3, h2], by rw [k2, h3]⟩), h.size, h.env, fun q d hq => ?_, fun q r d e hqr hd he hown => ?_⟩, ⟨rfl, rfl, rfl, Nat.le_refl _, fun _ _ _ => rfl, fun k hk => ?_, fun q d hq hown => ?_⟩⟩
  · rw [recast_mem] at hq
    split at hq
    · injection hq with hq; subst hq; exact hnew
    · exact h.mem q d hq
  · obtain ⟨d', h1, h2, h3⟩ := hold q d hd
    obtain ⟨e', h4, h5, _⟩ := hold r e he
    rw [← h2, ← h5]
    exact h.apart q r d' e' hqr h1 h4 (by rw [h3]; exact hown)
  · obtain ⟨q, d, hq, hown, rfl⟩ := hk
    obtain ⟨d', h1, h2, h3⟩ := hold q d hq
    exact .inl ⟨q, d', h1, by rw [h3]; exact hown, h2⟩
  · rw [recast_mem] at hq
    split at hq
    · injection hq with hq; subst hq; rw [ho] at hown; cases hown
    · exact hq
def AWP (ds : Nat) (P : Program) (nt : Nat) (c : Code) (s : St) (Φ : Exit → St → Prop) : Prop :=
  ∀ a w, Sat ds nt s.fs a w → c.wp P (fun e a' w' => ∃ s', Φ e s' ∧ Sat ds nt s'.fs a' w' ∧ Adv s.fs.mem w s'.fs.mem w') a w
def AWPF (F : Blk → Prop) (ds : Nat) (P : Program) (nt : Nat) (c : Code) (s : St) (Φ : Exit → St → Prop) : Prop :=
  ∀ a w, Sat ds nt s.fs a w → Fam F s.fs.mem w → c.wp P (fun e a' w' => ∃ s', Φ e s' ∧ Sat ds nt s'.fs a' w' ∧ Adv s.fs.mem w s'.fs.mem w') a w
inductive H : Type 1 where
  | byF {α : Type} (R : α → Prop) (E : α → Exit) (S : α → St) (rest : α → H)
  | reg (ks : (List (Nat × OpH))) (rest : H)
  | regn (ks : (List (Nat × OpH))) (rest : List Nat → H)
  | br (yes no : H)
  | yes (rest : H)
  | no (rest : H)
  | keep (ts ps : List Nat) (nx : Nat) (rest : H)
  | cast (p : Nat) (c : Cont) (rest : H)
  | sum {α : Type} (R : α → Prop) (E : α → Exit) (S : α → St) (rest : α → H)
  | inv {α : Type} (ts ps : List Nat) (nx : Nat) (R : α → Prop) (S : α → St) (μ : α → Nat) (x0 : α) (round : α → H)
  | peel {α : Type} (ts ps : List Nat) (nx : Nat) (R : α → Prop) (S : α → St) (μ : α → Nat) (B : Nat) (first : H) (round : α → H)
  | cut {α : Type} (ts ps : List Nat) (nx : Nat) (R : α → Prop) (S : α → St) (here : H) (rest : α → H)
  | unroll (rest : H)
  | told (s' : St) (rest : H)
  | both (b : Bool) (yes no : H)
  | openb (b : Blk) (rest : H)
  | openr (b : Blk) (rest : H)
  | ren (p q : Nat) (rest : H)
  | done
def Round {α : Type} (R : α → Prop) (S : α → St) (μ : α → Nat) (x : α) (s : St) : Prop :=
  ∃ y, R y ∧ μ y < μ x ∧ s = S y
theorem rnd {α : Type} (R : α → Prop) (S : α → St) (μ : α → Nat) (x y : α) (h : R y ∧ μ y < μ x) : Round R S μ x (S y) := ⟨y, h.1, h.2, rfl⟩
def PeelTo {α : Type} (R : α → Prop) (S : α → St) (μ : α → Nat) (B : Nat) (s : St) : Prop :=
  ∃ y, R y ∧ μ y < B ∧ s = S y
def Meet {α : Type} (R : α → Prop) (S : α → St) (s : St) : Prop :=
  ∃ y, R y ∧ s = S y
def allNs : Nat → (List Nat → Prop) → Prop
  | 0, F => F []
  | n + 1, F => ∀ x, allNs n fun l => F (x :: l)
theorem allNs_get : ∀ {n : Nat} {F : List Nat → Prop}, allNs n F → ∀ l, l.length = n → F l
  | 0, F, h, l, hl => by
    have : l = [] := by simpa using hl
    subst this; exact h
  | n + 1, F, h, l, hl => by
    cases l with
    | nil => simp at hl
    | cons x r => exact allNs_get (h x) r (by simpa using hl)
def idxIs : (List (Nat × OpH)) → Nat → Nat → Bool
  | [], i, n => Nat.beq i n
  | (j, _) :: r, i, n => Nat.beq j i && idxIs r (i + 1) n
theorem idxIs_range : ∀ (ks : (List (Nat × OpH))) (i n : Nat), idxIs ks i n = true → ks.map (·.1) = List.range' i (n - i) ∧ i ≤ n
  | [], i, n, h => by
    have := Nat.eq_of_beq_eq_true h
    subst this; simp
  | (j, _) :: r, i, n, h => by
    simp only [idxIs, Bool.and_eq_true] at h
    have hj := Nat.eq_of_beq_eq_true h.1
    subst hj
    obtain ⟨h1, h2⟩ := idxIs_range r (j + 1) n h.2
    refine ⟨?_, by omega⟩
    have hn : n - j = (n - (j + 1)) + 1 := by omega
    rw [List.map_cons, h1, hn, List.range'_succ]
def regOk (ops : Array Oper) (draw : Bool) (ks : (List (Nat × OpH))) (nx : Nat) : Bool := match draw with
  | true => drawOk ops ks nx
  | false => idxIs ks 0 ops.size
def peelK (rec : Bool → Code → St → H → (Exit → St → H → Prop) → Prop) (b : Code) (K : Exit → St → H → Prop) (s : St) (h : H) : Prop := match h with
  | .peel ts ps nx R S μ B f r => (rec false b s f fun e s' h' => match e with
      | .normal => PeelTo R S μ B (s'.keep ts ps nx)
      | e => K e s' h') ∧ ∀ x, R x → rec false b (S x) (r x) fun e s' h' => match e with
      | .normal => Round R S μ x (s'.keep ts ps nx)
      | e => K e s' h'
  | _ => False
def tmpCall (o : Oper) : Bool := match o.op with
  | .call c => match c.callee with
    | .value (.tmp _) => true
    | _ => false
  | _ => false
def evStep (F : Blk → Prop) (P : Program) (nt : Nat) (rec : Bool → Code → St → H → (Exit → St → H → Prop) → Prop) (c : Code) (s : St) (h : H) (K : Exit → St → H → Prop) : Prop := match c with
  | .skip => K .normal s h
  | .label _ => K .normal s h
  | .ret => K .ret s h
  | .exit id => K (.exit id) s h
  | .seq a b => rec false a s h fun e s h => match e with
    | .normal => rec false b s h K
    | e => K e s h
  | .block id b => rec false b s h fun e s h => match e with
    | .exit id' => match Nat.beq id' id with
      | true => K .normal s h
      | false => K (.exit id') s h
    | e => K e s h
  | .scope b => rec false b s h fun e s h => match e with
    | .goto _ => False
    | e => K e s h
  | .cond o x y => match opdEV s.fs.env o with
    | some e => match e.val with
      | .bool b => match h with
        | .br h1 h2 => condOf (some e) ∧ (b = true → rec false x s h1 K) ∧ (b = false → rec false y s h2 K)
        | .yes r => condOf (some e) ∧ b = true ∧ rec false x s r K
        | .no r => condOf (some e) ∧ b = false ∧ rec false y s r K
        | _ => False
      | _ => False
    | none => False
  | .loop b => match h with
    | .inv ts ps nx R S μ x0 r => R x0 ∧ s.keep ts ps nx = S x0 ∧ ∀ x, R x → rec false b (S x) (r x) fun e s' h' => match e with
      | .normal => Round R S μ x (s'.keep ts ps nx)
      | e => K e s' h'
    | .peel ts ps nx R S μ B f r => (rec false b s f fun e s' h' => match e with
      | .normal => PeelTo R S μ B (s'.keep ts ps nx)
      | e => K e s' h') ∧ ∀ x, R x → rec false b (S x) (r x) fun e s' h' => match e with
      | .normal => Round R S μ x (s'.keep ts ps nx)
      | e => K e s' h'
    | .yes f => rec false b s f fun e s' h' => match e with
      | .normal => peelK rec b K s' h'
      | e => K e s' h'
    | .sum R E S r => (∀ ds, AWP ds P nt (.loop b) s (fun e s' => ∃ x, R x ∧ e = E x ∧ Le (S x).fs s'.fs)) ∧ ∀ x, R x → K (E x) (S x) (r x)
    | h => rec true b s h K
  | .region _ ops draw => match h with
    | .reg ks r => match regOk ops draw ks s.nx with
      | true => allNs (nnL ks) fun ns => match evSeq F P ops nt ks ns s with
        | some (vc, s') => vc ∧ K .normal s' r
        | none => False
      | false => False
    | .regn ks r => match regOk ops draw ks s.nx with
      | true => allNs (nnL ks) fun ns => match evSeq F P ops nt ks ns s with
        | some (vc, s') => vc ∧ K .normal s' (r ns)
        | none => False
      | false => False
    | .byF R E S r => match ops.any tmpCall with
      | true => (∀ ds, AWPF F ds P nt c s (fun e s' => ∃ x, R x ∧ e = E x ∧ Le (S x).fs s'.fs)) ∧ ∀ x, R x → K (E x) (S x) (r x)
      | false => False
    | _ => False
  | .rangeFunc _ _ _ _ => match h with
    | .byF R E S r => (∀ ds, AWPF F ds P nt c s (fun e s' => ∃ x, R x ∧ e = E x ∧ Le (S x).fs s'.fs)) ∧ ∀ x, R x → K (E x) (S x) (r x)
    | _ => False
  | _ => False
def St.addb (s : St) (b : Blk) : St := ⟨s.env, (s.nx, some b) :: s.mem, s.nx + 1⟩
def St.dropb (s : St) (p : Nat) : St := ⟨s.env, (p, none) :: s.mem, s.nx⟩
theorem addb_mem {s : St} {b : Blk} (q : Nat) : (s.addb b).fs.mem q = if s.nx = q then some b else s.fs.mem q := by
  simp only [St.fs, St.addb, memOf, look_cons]
  by_cases h : s.nx = q
  · simp [h]
  · simp [h]
theorem dropb_mem {s : St} {p : Nat} (q : Nat) : (s.dropb p).fs.mem q = if p = q then none else s.fs.mem q := by
  simp only [St.fs, St.dropb, memOf, look_cons]
  by_cases h : p = q
  · simp [h]
  · simp [h]
theorem addb_owns {s : St} {b : Blk} (hb : b.own = false) {k : Nat} (h : Owns (s.addb b).fs.mem k) : Owns s.fs.mem k := by
  obtain ⟨p, c, h1, h2, h3⟩ := h
  rw [addb_mem] at h1
  split at h1
  · injection h1 with h1; subst h1; rw [hb] at h2; cases h2
  · exact ⟨p, c, h1, h2, h3⟩
theorem Sat.addb {nt : Nat} {s : St} {a : Act} {w : World} (h : Sat ds nt s.fs a w) {F : Blk → Prop} (hF : Fam F s.fs.mem w) {b : Blk} (hb : F b) : Sat ds nt (s.addb b).fs a w ∧ Fam F (s.addb b).fs.mem w := by
  obtain ⟨h1, h2, h3⟩ := hF b hb
  refine ⟨{ h with defers := h.defers.sub fun _ ho => addb_owns h2 ho, mem := fun p c hp => ?_, apart := fun p q c d hpq hc hd ho => ?_ }, fun c hc => ?_⟩
  · rw [addb_mem] at hp
    split at hp
    · injection hp with hp; subst hp; exact h1
    · exact h.mem p c hp
  · rw [addb_mem] at hc hd
    split at hc
    · injection hc with hc; subst hc; rw [h2] at ho; cases ho
    · split at hd
      · injection hd with hd; subst hd
        intro e
        exact h3 ⟨p, c, hc, ho, e⟩
      · exact h.apart p q c d hpq hc hd ho
  · obtain ⟨k1, k2, k3⟩ := hF c hc
    exact ⟨k1, k2, fun ho => k3 (addb_owns h2 ho)⟩
theorem Sat.dropb {nt : Nat} {s : St} {a : Act} {w : World} (h : Sat ds nt s.fs a w) (p : Nat) : Sat ds nt (s.dropb p).fs a w :=
  { h with
    defers := h.defers.sub fun k ⟨q, c, h1, h2, h3⟩ => (by
      rw [dropb_mem] at h1
      split at h1
      · cases h1
      · exact ⟨q, c, h1, h2, h3⟩)
    mem := fun q c hq => by
      rw [dropb_mem] at hq
      split at hq
      · cases hq
      · exact h.mem q c hq
    apart := fun q r c d hqr hc hd ho => by
      rw [dropb_mem] at hc hd
      split at hc
      · cases hc
      · split at hd
        · cases hd
        · exact h.apart q r c d hqr hc hd ho }
theorem adv_drop {s s' : St} {b : Blk} {w w' : World} (hb : b.own = false) (h : Adv (s.addb b).fs.mem w s'.fs.mem w') : Adv s.fs.mem w (s'.dropb s.nx).fs.mem w' := by
  refine ⟨h.os, h.output, h.tape, h.size, fun k hk hno => h.heap k hk fun ho => hno (addb_owns hb ho), fun k hk => ?_, fun p c hp ho => ?_⟩
  · have : Owns s'.fs.mem k := by
      obtain ⟨p, c, h1, h2, h3⟩ := hk
      rw [dropb_mem] at h1
      split at h1
      · cases h1
      · exact ⟨p, c, h1, h2, h3⟩
    rcases h.names k this with h2 | h2
    · exact .inl (addb_owns hb h2)
    · exact .inr h2
  · rw [dropb_mem] at hp
    split at hp
    · cases hp
    · rename_i hne
      have := h.ro p c hp ho
      rw [addb_mem, if_neg hne] at this
      exact this
def St.ren (s : St) (p q : Nat) (b : Blk) : St := ⟨s.env, (q, some b) :: (p, none) :: s.mem, s.nx⟩
theorem ren_mem {s : St} {p q : Nat} {b : Blk} (x : Nat) : (s.ren p q b).fs.mem x = if q = x then some b else if p = x then none else s.fs.mem x := by
  simp only [St.fs, St.ren, memOf, look_cons]
  by_cases h : q = x
  · simp [h]
  · by_cases h2 : p = x
    · simp [h, h2]
    · simp [h, h2]
theorem Sat.ren {nt : Nat} {s : St} {a : Act} {w : World} (h : Sat ds nt s.fs a w) {p q : Nat} {b : Blk} (hb : s.fs.mem p = some b) (ho : b.own = true) (_hq : s.fs.mem q = none) :
    Sat ds nt (s.ren p q b).fs a w ∧ Adv s.fs.mem w (s.ren p q b).fs.mem w := by
  have hold : ∀ x d, (s.ren p q b).fs.mem x = some d → (x = q ∧ d = b) ∨ (x ≠ q ∧ x ≠ p ∧ s.fs.mem x = some d) := fun x d hx => by
    rw [ren_mem] at hx
    split at hx
    · rename_i h1; injection hx with hx; exact .inl ⟨h1.symm, hx.symm⟩
    · rename_i h1
      split at hx
      · cases hx
      · rename_i h2; exact .inr ⟨fun e => h1 e.symm, fun e => h2 e.symm, hx⟩
  refine ⟨⟨h.defers.sub fun k ⟨x, d, h1, h2, h3⟩ => (by
    rcases hold x d h1 with ⟨_, e⟩ | ⟨_, _, e⟩
    · exact ⟨p, b, hb, by rw [← e, h2], by rw [← e, h3]⟩
    · exact ⟨x, d, e, h2, h3⟩), h.size, h.env, fun x d hx => ?_, fun x y d e hxy hd he hown => ?_⟩, ⟨rfl, rfl, rfl, Nat.le_refl _, fun _ _ _ => rfl, fun k hk => ?_, fun x d hx hown => ?_⟩⟩
  · rcases hold x d hx with ⟨_, rfl⟩ | ⟨_, _, h3⟩
    · exact h.mem p d hb
    · exact h.mem x d h3
  · rcases hold x d hd with ⟨h1, rfl⟩ | ⟨h1, h2, h3⟩
    · rcases hold y e he with ⟨k1, rfl⟩ | ⟨k1, k2, k3⟩
      · exact absurd (h1.trans k1.symm) hxy
      · exact h.apart p y d e (fun e => k2 e.symm) hb k3 hown
    · rcases hold y e he with ⟨k1, rfl⟩ | ⟨k1, k2, k3⟩
      · exact h.apart x p d e h2 h3 hb hown
      · exact h.apart x y d e hxy h3 k3 hown
  · obtain ⟨x, d, hx, hown, rfl⟩ := hk
    rcases hold x d hx with ⟨_, rfl⟩ | ⟨_, _, h3⟩
    · exact .inl ⟨p, d, hb, hown, rfl⟩
    · exact .inl ⟨x, d, h3, hown, rfl⟩
  · rcases hold x d hx with ⟨_, rfl⟩ | ⟨_, _, h3⟩
    · rw [ho] at hown; cases hown
    · exact h3
def more (f : Nat → List Nat → H) : List Nat → H
  | n :: r => f n r
  | [] => .done
def isReg : Code → Bool
  | .region _ _ _ => true
  | _ => false
def evF (F : Blk → Prop) (P : Program) (nt : Nat) : Nat → Bool → Code → St → H → (Exit → St → H → Prop) → Prop
  | 0, _, _, _, _, _ => False
  | n + 1, lp, c, s, h, K => match h with
    | .keep ts ps nx r => evF F P nt n lp c (s.keep ts ps nx) r K
    | .openb b r => F b ∧ evF F P nt n lp c (s.addb b) r fun e s' h' => K e (s'.dropb s.nx) h'
    | .openr b r => match isReg c with
      | true => F b ∧ evF F P nt n lp c (s.addb b) r fun e s' h' => K e (s'.dropb s.nx) h'
      | false => match lp with
        | true => False
        | false => evStep F P nt (fun lp c s h K => evF F P nt n lp c s h K) c s (.openr b r) K
    | .told s' r => s = s' ∧ evF F P nt n lp c s' r K
    | .ren p q r => match memOf s.mem p with
      | some b => match b.own with
        | true => match memOf s.mem q with
          | none => evF F P nt n lp c (s.ren p q b) r K
          | some _ => False
        | false => False
      | none => False
    | .both b h1 h2 => (b = true → evF F P nt n lp c s h1 K) ∧ (b = false → evF F P nt n lp c s h2 K)
    | .cast p c' r => match memOf s.mem p with
      | some b => match b.own with
        | true => match c'.isMap with
          | true => False
          | false => (∀ o v, c'.get o = some v → b.cont.get o = some v) ∧ evF F P nt n lp c (s.recast p b c') r K
        | false => False
      | none => False
    | .cut ts ps nx R S h1 r => match lp with
      | true => False
      | false => (evF F P nt n false c s h1 fun e s' h' => match e with
        | .normal => Meet R S (s'.keep ts ps nx)
        | e => K e s' h') ∧ ∀ x, R x → K .normal (S x) (r x)
    | h => match lp with
      | true => match h with
        | .unroll r => evF F P nt n false c s r fun e s h => match e with
          | .normal => evF F P nt n true c s h K
          | e => K e s h
        | _ => False
      | false => evStep F P nt (fun lp c s h K => evF F P nt n lp c s h K) c s h K
abbrev ev (P : Program) (nt : Nat) (n : Nat) (lp : Bool) (c : Code) (s : St) (h : H) (K : Exit → St → H → Prop) : Prop := evF (fun _ => False) P nt n lp c s h K
def post (ds : Nat) (nt : Nat) (s : St) (w : World) (K : Exit → St → H → Prop) : Exit → Act → World → Prop :=
  fun e a' w' => ∃ s' h', K e s' h' ∧ Sat ds nt s'.fs a' w' ∧ Adv s.fs.mem w s'.fs.mem w'
def LoopArr (P : Program) (c : Code) (Q : Exit → Act → World → Prop) (a : Act) (w : World) : Prop :=
  ∀ (b : Frame) (k : List Item) (cs : List Frame), ∃ e a' w', Q e a' w' ∧ Arrives P (lone (b.at a (.code c :: .inLoop c :: k)) cs w) b k cs e a' w'
theorem LoopArr.wp {P : Program} {c : Code} {Q : Exit → Act → World → Prop} {a : Act} {w : World} (h : LoopArr P c Q a w) : (Code.loop c).wp P Q a w := fun b k cs =>
  let ⟨e, a', w', q, r⟩ := h b k cs; ⟨e, a', w', q, .of_steps (.one step_loop) r⟩
theorem LoopArr.first {P : Program} {c : Code} {Q : Exit → Act → World → Prop} {a : Act} {w : World} (h : c.wp P (Exit.then (LoopArr P c Q) Q) a w) : LoopArr P c Q a w := by
  intro b k cs
  obtain ⟨e, a₁, w₁, hq, harr⟩ := h b (.inLoop c :: k) cs
  cases e with
  | normal =>
    obtain ⟨e₂, a₂, w₂, hq₂, harr₂⟩ := hq b k cs
    exact ⟨e₂, a₂, w₂, hq₂, .of_steps (Steps.trans harr (.one step_inLoop)) harr₂⟩
  | exit id => exact ⟨_, a₁, w₁, hq, .pass (x := .inLoop c) rfl (fun _ _ => .inl (by simp)) harr⟩
  | goto l => exact ⟨_, a₁, w₁, hq, .pass (x := .inLoop c) rfl (fun _ _ => .inl (by simp)) harr⟩
  | ret => exact ⟨_, a₁, w₁, hq, .pass (x := .inLoop c) rfl (fun _ _ => .inl (by simp)) harr⟩
  | panic ch => exact ⟨_, a₁, w₁, hq, .pass (x := .inLoop c) rfl (fun _ _ => .inl (by simp)) harr⟩
  | outgrown => exact ⟨_, a₁, w₁, hq, .pass (x := .inLoop c) rfl (fun _ _ => .inl (by simp)) harr⟩
theorem LoopArr.ghost {P : Program} {c : Code} {Q : Exit → Act → World → Prop} (I : Nat → Act → World → Prop) (round : ∀ k a w, I k a w → c.wp P (Exit.then (fun a' w' => ∃ j, j < k ∧ I j a' w') Q) a w) : ∀ (k : Nat) (a : Act) (w : World), I k a w → LoopArr P c Q a w := by
  intro k
  induction k using Nat.strongRecOn with
  | _ k ih =>
    intro a w h0
    refine LoopArr.first (wp_mono (round k a w h0) fun e a' w' q => ?_)
    cases e with
    | normal => obtain ⟨j, hj, hI⟩ := q; exact ih j hj a' w' hI
    | _ => exact q
theorem rounds_up {P : Program} {c : Code} {Q : Exit → Act → World → Prop} : ∀ (n : Nat) (a : Act) (w : World), Code.rounds P c Q n a w → Code.rounds P c Q (n + 1) a w
  | 0, a, w, h => h.elim
  | n + 1, a, w, h => by
    rw [rounds_succ] at h ⊢
    refine wp_mono h fun e a w hq => ?_
    cases e with
    | normal => exact rounds_up n a w hq
    | _ => exact hq
theorem rounds_mono {P : Program} {c : Code} {Q Q' : Exit → Act → World → Prop} (hq : ∀ e a w, Q e a w → Q' e a w) : ∀ (n : Nat) (a : Act) (w : World), Code.rounds P c Q n a w → Code.rounds P c Q' n a w
  | 0, a, w, h => h.elim
  | n + 1, a, w, h => by
    rw [rounds_succ] at h ⊢
    refine wp_mono h fun e a w hh => ?_
    cases e with
    | normal => exact rounds_mono hq n a w hh
    | _ => exact hq _ _ _ hh
theorem post_trans {nt : Nat} {s s1 : St} {w w1 : World} {K : Exit → St → H → Prop} (ha : Adv s.fs.mem w s1.fs.mem w1) : ∀ e a w', post ds nt s1 w1 K e a w' → post ds nt s w K e a w' :=
  fun _ _ _ ⟨s', h', hK, hS, hA⟩ => ⟨s', h', hK, hS, ha.trans hA⟩
theorem evF_sound {F : Blk → Prop} {P : Program} {nt : Nat} (hmix : P.follows .mixedOrders = true) : ∀ (n : Nat) (lp : Bool) (c : Code) (s : St) (h : H) (K : Exit → St → H → Prop) (a : Act) (w : World),
    evF F P nt n lp c s h K → Sat ds nt s.fs a w → Fam F s.fs.mem w → match lp with
      | false => c.wp P (post ds nt s w K) a w
      | true => Code.rounds P c (post ds nt s w K) n a w
  | 0, lp, c, s, h, K, a, w, hev, hs, hF => by cases hev
  | n + 1, lp, c, s, h, K, a, w, hev, hs, hF => by
    by_cases hkeep : ∃ ts ps nx r, h = .keep ts ps nx r
    · obtain ⟨ts, ps, nx, r, rfl⟩ := hkeep
      simp only [evF] at hev
      have hle := keep_le s ts ps nx
      have ih := evF_sound hmix n lp c (s.keep ts ps nx) r K a w hev (hs.le hle) (hF.adv (adv_le hle))
      cases lp with
      | false => exact wp_mono ih (post_trans (adv_le hle))
      | true => exact rounds_up n a w (rounds_mono (post_trans (adv_le hle)) n a w ih)
    · by_cases htold : ∃ s' r, h = .told s' r
      · obtain ⟨s', r, rfl⟩ := htold
        simp only [evF] at hev
        obtain ⟨rfl, hev⟩ := hev
        have ih := evF_sound hmix n lp c s r K a w hev hs hF
        cases lp with
        | false => exact ih
        | true => exact rounds_up n a w ih
      by_cases hopen : ∃ b r, h = .openb b r
      · obtain ⟨b, r, rfl⟩ := hopen
        simp only [evF] at hev
        obtain ⟨hb, hev⟩ := hev
        obtain ⟨hs2, hF2⟩ := hs.addb hF hb
        have ho := (hF b hb).2.1
        have ih := evF_sound hmix n lp c (s.addb b) r _ a w hev hs2 hF2
        have up : ∀ e a' w', post ds nt (s.addb b) w (fun e s' h' => K e (s'.dropb s.nx) h') e a' w' → post ds nt s w K e a' w' :=
          fun e a' w' ⟨s', h', hK, hS, hA⟩ => ⟨s'.dropb s.nx, h', hK, hS.dropb s.nx, adv_drop ho hA⟩
        cases lp with
        | false => exact wp_mono ih up
        | true => exact rounds_up n a w (rounds_mono up n a w ih)
      by_cases hopr : ∃ b r, h = .openr b r ∧ isReg c = true
      · obtain ⟨b, r, rfl, hreg⟩ := hopr
        simp only [evF, hreg] at hev
        obtain ⟨hb, hev⟩ := hev
        obtain ⟨hs2, hF2⟩ := hs.addb hF hb
        have ho := (hF b hb).2.1
        have ih := evF_sound hmix n lp c (s.addb b) r _ a w hev hs2 hF2
        have up : ∀ e a' w', post ds nt (s.addb b) w (fun e s' h' => K e (s'.dropb s.nx) h') e a' w' → post ds nt s w K e a' w' :=
          fun e a' w' ⟨s', h', hK, hS, hA⟩ => ⟨s'.dropb s.nx, h', hK, hS.dropb s.nx, adv_drop ho hA⟩
        cases lp with
        | false => exact wp_mono ih up
        | true => exact rounds_up n a w (rounds_mono up n a w ih)
      by_cases hboth : ∃ b h1 h2, h = .both b h1 h2
      · obtain ⟨b, h1, h2, rfl⟩ := hboth
        simp only [evF] at hev
        cases b with
        | true =>
          have ih := evF_sound hmix n lp c s h1 K a w (hev.1 rfl) hs hF
          cases lp with
          | false => exact ih
          | true => exact rounds_up n a w ih
        | false =>
          have ih := evF_sound hmix n lp c s h2 K a w (hev.2 rfl) hs hF
          cases lp with
          | false => exact ih
          | true => exact rounds_up n a w ih
      by_cases hren : ∃ p q r, h = .ren p q r
      · obtain ⟨p, q, r, rfl⟩ := hren
        simp only [evF] at hev
        split at hev
        · rename_i b hb
          split at hev
          · rename_i ho
            split at hev
            · rename_i hq
              obtain ⟨hs2, hadv⟩ := hs.ren hb ho hq
              have ih := evF_sound hmix n lp c (s.ren p q b) r K a w hev hs2 (hF.adv hadv)
              cases lp with
              | false => exact wp_mono ih (post_trans hadv)
              | true => exact rounds_up n a w (rounds_mono (post_trans hadv) n a w ih)
            · exact hev.elim
          · exact hev.elim
        · exact hev.elim
      by_cases hcast : ∃ p c' r, h = .cast p c' r
      · obtain ⟨p, c', r, rfl⟩ := hcast
        simp only [evF] at hev
        split at hev
        · rename_i b hb
          split at hev
          · rename_i ho
            split at hev
            · exact hev.elim
            rename_i hnm
            obtain ⟨hc, hev⟩ := hev
            obtain ⟨hs2, hadv⟩ := hs.recast hb ho hnm hc
            have ih := evF_sound hmix n lp c (s.recast p b c') r K a w hev hs2 (hF.adv hadv)
            cases lp with
            | false => exact wp_mono ih (post_trans hadv)
            | true => exact rounds_up n a w (rounds_mono (post_trans hadv) n a w ih)
          · exact hev.elim
        · exact hev.elim
      by_cases hcut : ∃ (α : Type) (ts ps : List Nat) (nx : Nat) (R : α → Prop) (S : α → St) (h1 : H) (r : α → H), h = .cut ts ps nx R S h1 r
      · obtain ⟨α, ts, ps, nx, R, S, h1, r, rfl⟩ := hcut
        simp only [evF] at hev
        cases lp with
        | true => exact hev.elim
        | false =>
          obtain ⟨hev, hrest⟩ := hev
          refine wp_mono (evF_sound hmix n false c s h1 _ a w hev hs hF) ?_
          rintro e a' w' ⟨s', h', hK, hS, hA⟩
          cases e with
          | normal =>
            obtain ⟨y, hR, hy⟩ := hK
            have hle := keep_le s' ts ps nx
            rw [hy] at hle
            exact ⟨S y, r y, hrest y hR, hS.le hle, hA.weak hle.mem⟩
          | _ => exact ⟨s', h', hK, hS, hA⟩
      cases lp with
      | true =>
        have hE : ∃ r, h = .unroll r := by
          cases h with
          | keep ts ps nx r => exact absurd ⟨ts, ps, nx, r, rfl⟩ hkeep
          | cast p c' r => exact absurd ⟨p, c', r, rfl⟩ hcast
          | told s' r => exact absurd ⟨s', r, rfl⟩ htold
          | both b h1 h2 => exact absurd ⟨b, h1, h2, rfl⟩ hboth
          | openb b r => exact absurd ⟨b, r, rfl⟩ hopen
          | ren p q r => exact absurd ⟨p, q, r, rfl⟩ hren
          | openr b r =>
            cases hreg : isReg c with
            | true => exact absurd ⟨b, r, rfl, hreg⟩ hopr
            | false => simp only [evF, hreg] at hev
          | unroll r => exact ⟨r, rfl⟩
          | reg ks r => exact hev.elim
          | regn ks r => exact hev.elim
          | br x y => exact hev.elim
          | yes r => exact hev.elim
          | no r => exact hev.elim
          | sum R E S r => exact hev.elim
          | byF R E S r => exact hev.elim
          | inv ts ps nx R S μ x0 r => exact hev.elim
          | peel ts ps nx R S μ B f r => exact hev.elim
          | cut ts ps nx R S h1 r => exact absurd ⟨_, ts, ps, nx, R, S, h1, r, rfl⟩ hcut
          | done => exact hev.elim
        obtain ⟨r, rfl⟩ := hE
        simp only [evF] at hev
        have ih := evF_sound hmix n false c s r _ a w hev hs hF
        show Code.rounds P c _ (n + 1) a w
        rw [rounds_succ]
        refine wp_mono ih ?_
        rintro e a' w' ⟨s', h', hK, hS, hA⟩
        cases e with
        | normal => exact rounds_mono (post_trans hA) n a' w' (evF_sound hmix n true c s' h' K a' w' hK hS (hF.adv hA))
        | _ => exact ⟨s', h', hK, hS, hA⟩
      | false =>
        show c.wp P (post ds nt s w K) a w
        have hnk : evF F P nt (n + 1) false c s h K = evStep F P nt (fun lp c s h K => evF F P nt n lp c s h K) c s h K := by
          cases h with
          | keep ts ps nx r => exact absurd ⟨ts, ps, nx, r, rfl⟩ hkeep
          | cast p c' r => exact absurd ⟨p, c', r, rfl⟩ hcast
          | told s' r => exact absurd ⟨s', r, rfl⟩ htold
          | both b h1 h2 => exact absurd ⟨b, h1, h2, rfl⟩ hboth
          | openb b r => exact absurd ⟨b, r, rfl⟩ hopen
          | ren p q r => exact absurd ⟨p, q, r, rfl⟩ hren
          | openr b r =>
            cases hreg : isReg c with
            | true => exact absurd ⟨b, r, rfl, hreg⟩ hopr
            | false => simp only [evF, hreg]
          | cut ts ps nx R S h1 r => exact absurd ⟨_, ts, ps, nx, R, S, h1, r, rfl⟩ hcut
          | _ => rfl
        rw [hnk] at hev
        clear hnk
        have here : ∀ e, K e s h → post ds nt s w K e a w := fun e hK => ⟨s, h, hK, hs, .refl _ _⟩
        cases c with
        | skip => exact wp_skip (here _ hev)
        | label l => exact wp_label (here _ hev)
        | ret => exact wp_ret (here _ hev)
        | exit id => exact wp_exit (here _ hev)
        | seq x y =>
          refine wp_seq (wp_mono (evF_sound hmix n false x s h _ a w hev hs hF) ?_)
          rintro e a' w' ⟨s', h', hK, hS, hA⟩
          cases e with
          | normal => exact wp_mono (evF_sound hmix n false y s' h' K a' w' hK hS (hF.adv hA)) (post_trans hA)
          | _ => exact ⟨s', h', hK, hS, hA⟩
        | block id b =>
          refine wp_block (wp_mono (evF_sound hmix n false b s h _ a w hev hs hF) ?_)
          rintro e a' w' ⟨s', h', hK, hS, hA⟩
          cases e with
          | exit id' =>
            simp only [Exit.inBlock]
            simp only at hK
            by_cases hid : id' = id
            · subst hid
              rw [if_pos rfl]
              simp only [Nat.beq_refl] at hK
              exact ⟨s', h', hK, hS, hA⟩
            · rw [if_neg hid]
              have : Nat.beq id' id = false := by
                cases hb : Nat.beq id' id with
                | false => rfl
                | true => exact absurd (Nat.eq_of_beq_eq_true hb) hid
              rw [this] at hK
              exact ⟨s', h', hK, hS, hA⟩
          | _ => exact ⟨s', h', hK, hS, hA⟩
        | scope b =>
          refine wp_scope_straight (wp_mono (evF_sound hmix n false b s h _ a w hev hs hF) ?_)
          rintro e a' w' ⟨s', h', hK, hS, hA⟩
          cases e with
          | goto l => exact hK.elim
          | _ => exact ⟨s', h', hK, hS, hA⟩
        | cond o x y =>
          simp only [evStep] at hev
          split at hev
          · rename_i ee hee
            split at hev
            · rename_i b hb
              have hval : condOf (some ee) → a.eval o = .bool b := fun hc => by
                rw [opd_eval hs hee, ← hb]
                cases ee with
                | v _ => rfl
                | c g _ => simp only [condOf] at hc; subst hc; rfl
              split at hev
              · obtain ⟨hc, h1, h2⟩ := hev
                exact wp_cond_split (hval hc) (fun ht => evF_sound hmix n false x s _ K a w (h1 ht) hs hF) (fun hf => evF_sound hmix n false y s _ K a w (h2 hf) hs hF)
              · obtain ⟨hc, hbt, h1⟩ := hev
                subst hbt
                exact wp_cond_true (hval hc) (evF_sound hmix n false x s _ K a w h1 hs hF)
              · obtain ⟨hc, hbt, h1⟩ := hev
                subst hbt
                exact wp_cond_false (hval hc) (evF_sound hmix n false y s _ K a w h1 hs hF)
              · exact hev.elim
            · exact hev.elim
          · exact hev.elim
        | loop b =>
          by_cases hsum : ∃ (α : Type) (R : α → Prop) (E : α → Exit) (S : α → St) (r : α → H), h = .sum R E S r
          · obtain ⟨α, R, E, S, r, rfl⟩ := hsum
            obtain ⟨hA, hK⟩ := hev
            refine wp_mono (hA ds a w hs) ?_
            rintro e a' w' ⟨s', ⟨x, hR, rfl, hle⟩, hS, hadv⟩
            exact ⟨S x, r x, hK x hR, hS.le hle, hadv.weak hle.mem⟩
          · by_cases hinv : ∃ (α : Type) (ts ps : List Nat) (nx : Nat) (R : α → Prop) (S : α → St) (μ : α → Nat) (x0 : α) (r : α → H), h = .inv ts ps nx R S μ x0 r
            · obtain ⟨α, ts, ps, nx, R, S, μ, x0, r, rfl⟩ := hinv
              obtain ⟨hR0, h0, hround⟩ := hev
              have hle0 := keep_le s ts ps nx
              rw [h0] at hle0
              refine wp_loop_ghost (fun k a' w' => ∃ y, R y ∧ μ y = k ∧ Sat ds nt (S y).fs a' w' ∧ Adv s.fs.mem w (S y).fs.mem w') (μ x0) ⟨x0, hR0, rfl, hs.le hle0, adv_le hle0⟩ ?_
              rintro k a' w' ⟨y, hy, rfl, hS, hA⟩
              refine wp_mono (evF_sound hmix n false b (S y) (r y) _ a' w' (hround y hy) hS (hF.adv hA)) ?_
              rintro e a2 w2 ⟨s2, h2, hphi, hS2, hA2⟩
              cases e with
              | normal =>
                obtain ⟨z, hz, hlt, hle⟩ := hphi
                have hle2 := keep_le s2 ts ps nx
                rw [hle] at hle2
                exact ⟨μ z, hlt, z, hz, rfl, hS2.le hle2, hA.trans (hA2.weak hle2.mem)⟩
              | _ => exact ⟨s2, h2, hphi, hS2, hA.trans hA2⟩
            by_cases hpeel : ∃ (α : Type) (ts ps : List Nat) (nx : Nat) (R : α → Prop) (S : α → St) (μ : α → Nat) (B : Nat) (f : H) (r : α → H), h = .peel ts ps nx R S μ B f r
            · obtain ⟨α, ts, ps, nx, R, S, μ, B, f, r, rfl⟩ := hpeel
              obtain ⟨hfirst, hround⟩ := hev
              refine wp_loop_ghost (fun k a' w' => (k = B ∧ a' = a ∧ w' = w) ∨ ∃ y, R y ∧ μ y = k ∧ μ y < B ∧ Sat ds nt (S y).fs a' w' ∧ Adv s.fs.mem w (S y).fs.mem w') B (.inl ⟨rfl, rfl, rfl⟩) ?_
              rintro k a' w' (⟨hk, rfl, rfl⟩ | ⟨y, hy, rfl, hyB, hS, hA⟩)
              · subst hk
                refine wp_mono (evF_sound hmix n false b s f _ a' w' hfirst hs hF) ?_
                rintro e a2 w2 ⟨s2, h2, hphi, hS2, hA2⟩
                cases e with
                | normal =>
                  obtain ⟨z, hz, hlt, hle⟩ := hphi
                  have hle2 := keep_le s2 ts ps nx
                  rw [hle] at hle2
                  exact ⟨μ z, hlt, .inr ⟨z, hz, rfl, hlt, hS2.le hle2, hA2.weak hle2.mem⟩⟩
                | _ => exact ⟨s2, h2, hphi, hS2, hA2⟩
              · refine wp_mono (evF_sound hmix n false b (S y) (r y) _ a' w' (hround y hy) hS (hF.adv hA)) ?_
                rintro e a2 w2 ⟨s2, h2, hphi, hS2, hA2⟩
                cases e with
                | normal =>
                  obtain ⟨z, hz, hlt, hle⟩ := hphi
                  have hle2 := keep_le s2 ts ps nx
                  rw [hle] at hle2
                  exact ⟨μ z, hlt, .inr ⟨z, hz, rfl, Nat.lt_trans hlt hyB, hS2.le hle2, hA.trans (hA2.weak hle2.mem)⟩⟩
                | _ => exact ⟨s2, h2, hphi, hS2, hA.trans hA2⟩
            by_cases hyes : ∃ f, h = .yes f
            · obtain ⟨f0, rfl⟩ := hyes
              refine LoopArr.wp (LoopArr.first (wp_mono (evF_sound hmix n false b s f0 _ a w hev hs hF) ?_))
              rintro e a1 w1 ⟨s1, h1, hphi, hS1, hA1⟩
              cases e with
              | normal =>
                have hp : ∃ (α : Type) (ts ps : List Nat) (nx : Nat) (R : α → Prop) (S : α → St) (μ : α → Nat) (B : Nat) (f : H) (r : α → H), h1 = .peel ts ps nx R S μ B f r := by
                  cases h1 with
                  | peel ts ps nx R S μ B f r => exact ⟨_, ts, ps, nx, R, S, μ, B, f, r, rfl⟩
                  | _ => exact hphi.elim
                obtain ⟨α, ts, ps, nx, R, S, μ, B, f, r, rfl⟩ := hp
                obtain ⟨hfirst, hround⟩ := hphi
                refine LoopArr.ghost (fun k a' w' => (k = B ∧ a' = a1 ∧ w' = w1) ∨ ∃ y, R y ∧ μ y = k ∧ μ y < B ∧ Sat ds nt (S y).fs a' w' ∧ Adv s1.fs.mem w1 (S y).fs.mem w') ?_ B a1 w1 (.inl ⟨rfl, rfl, rfl⟩)
                rintro k a' w' (⟨hk, rfl, rfl⟩ | ⟨y, hy, rfl, hyB, hS, hA⟩)
                · subst hk
                  refine wp_mono (evF_sound hmix n false b s1 f _ a' w' hfirst hS1 (hF.adv hA1)) ?_
                  rintro e a2 w2 ⟨s2, h2, hphi, hS2, hA2⟩
                  cases e with
                  | normal =>
                    obtain ⟨z, hz, hlt, hle⟩ := hphi
                    have hle2 := keep_le s2 ts ps nx
                    rw [hle] at hle2
                    exact ⟨μ z, hlt, .inr ⟨z, hz, rfl, hlt, hS2.le hle2, hA2.weak hle2.mem⟩⟩
                  | _ => exact ⟨s2, h2, hphi, hS2, hA1.trans hA2⟩
                · refine wp_mono (evF_sound hmix n false b (S y) (r y) _ a' w' (hround y hy) hS ((hF.adv hA1).adv hA)) ?_
                  rintro e a2 w2 ⟨s2, h2, hphi, hS2, hA2⟩
                  cases e with
                  | normal =>
                    obtain ⟨z, hz, hlt, hle⟩ := hphi
                    have hle2 := keep_le s2 ts ps nx
                    rw [hle] at hle2
                    exact ⟨μ z, hlt, .inr ⟨z, hz, rfl, Nat.lt_trans hlt hyB, hS2.le hle2, hA.trans (hA2.weak hle2.mem)⟩⟩
                  | _ => exact ⟨s2, h2, hphi, hS2, hA1.trans (hA.trans hA2)⟩
              | _ => exact ⟨s1, h1, hphi, hS1, hA1⟩
            have hev' : evF F P nt n true b s h K := by
              cases h with
              | yes f => exact absurd ⟨f, rfl⟩ hyes
              | peel ts ps nx R S μ B f r => exact absurd ⟨_, ts, ps, nx, R, S, μ, B, f, r, rfl⟩ hpeel
              | sum R E S r => exact absurd ⟨_, R, E, S, r, rfl⟩ hsum
              | inv ts ps nx R S μ x0 r => exact absurd ⟨_, ts, ps, nx, R, S, μ, x0, r, rfl⟩ hinv
              | _ => exact hev
            exact wp_loop_rounds n (evF_sound hmix n true b s h K a w hev' hs hF)
        | region id ops draw =>
          simp only [evStep] at hev
          split at hev
          · rename_i ks r
            split at hev
            · rename_i hok
              have hall : ∀ ns, ns.length = nnL ks → ∃ vc s', evSeq F P ops nt ks ns s = some (vc, s') ∧ vc := fun ns hns => by
                have := allNs_get hev ns hns
                split at this
                · rename_i vc s' he; exact ⟨vc, s', he, this.1⟩
                · exact this.elim
              have hfin : ∀ ns vc s' a' w', ns.length = nnL ks → evSeq F P ops nt ks ns s = some (vc, s') → vc → Sat ds nt s'.fs a' w' → Adv s.fs.mem w s'.fs.mem w' → post ds nt s w K .normal a' w' :=
                fun ns vc s' a' w' hns he hvc hS hA => by
                  have := allNs_get hev ns hns
                  rw [he] at this
                  exact ⟨s', r, this.2, hS, hA⟩
              cases draw with
              | true => exact draw_sound hmix hok hs hF hall hfin
              | false =>
                refine wp_region ?_
                have hidx := (idxIs_range ks 0 ops.size hok).1
                rw [Nat.sub_zero, ← List.range_eq_range'] at hidx
                rw [← hidx]
                exact seq_sound ks hs hF hall hfin
            · exact hev.elim
          · rename_i ks r
            split at hev
            · rename_i hok
              have hall : ∀ ns, ns.length = nnL ks → ∃ vc s', evSeq F P ops nt ks ns s = some (vc, s') ∧ vc := fun ns hns => by
                have := allNs_get hev ns hns
                split at this
                · rename_i vc s' he; exact ⟨vc, s', he, this.1⟩
                · exact this.elim
              have hfin : ∀ ns vc s' a' w', ns.length = nnL ks → evSeq F P ops nt ks ns s = some (vc, s') → vc → Sat ds nt s'.fs a' w' → Adv s.fs.mem w s'.fs.mem w' → post ds nt s w K .normal a' w' :=
                fun ns vc s' a' w' hns he hvc hS hA => by
                  have := allNs_get hev ns hns
                  rw [he] at this
                  exact ⟨s', r ns, this.2, hS, hA⟩
              cases draw with
              | true => exact draw_sound hmix hok hs hF hall hfin
              | false =>
                refine wp_region ?_
                have hidx := (idxIs_range ks 0 ops.size hok).1
                rw [Nat.sub_zero, ← List.range_eq_range'] at hidx
                rw [← hidx]
                exact seq_sound ks hs hF hall hfin
            · exact hev.elim
          · rename_i α R E S r
            split at hev
            · refine wp_mono (hev.1 ds a w hs hF) ?_
              rintro e a' w' ⟨s', ⟨x, hR, rfl, hle⟩, hS, hadv⟩
              exact ⟨S x, r x, hev.2 x hR, hS.le hle, hadv.weak hle.mem⟩
            · exact hev.elim
          · exact hev.elim
        | rangeFunc g ps asg bd =>
          simp only [evStep] at hev
          split at hev
          · rename_i α R E S r
            refine wp_mono (hev.1 ds a w hs hF) ?_
            rintro e a' w' ⟨s', ⟨x, hR, rfl, hle⟩, hS, hadv⟩
            exact ⟨S x, r x, hev.2 x hR, hS.le hle, hadv.weak hle.mem⟩
          · exact hev.elim
        | _ => exact hev.elim
theorem fam_none {m : Nat → Option Blk} {w : World} : Fam (fun _ => False) m w := fun _ h => h.elim
end Go.Eng
end
section
namespace Go.Eng
variable {ds : Nat}
def bef2 (masks : List (Nat × Nat)) (i j x y : Nat) : Bool := before masks x y || (x == i && y == j)
def pairsOk2 (ops : Array Oper) (masks : List (Nat × Nat)) (i j : Nat) : List (Nat × OpH × Nat) → Bool
  | [] => true
  | x :: r => r.all (fun y => bef2 masks i j x.1 y.1 || indep ops x y) && pairsOk2 ops masks i j r
def drawOk2 (ops : Array Oper) (ks : List (Nat × OpH)) (nx i j : Nat) : Bool := permOk ops ks [] && pairsOk2 ops (ancs ops ks []) i j (annot ks nx)
theorem pairs2_split {ops : Array Oper} {masks : List (Nat × Nat)} {i j : Nat} : ∀ (a : List (Nat × OpH × Nat)) (x : (Nat × OpH × Nat)) (b : List (Nat × OpH × Nat)), pairsOk2 ops masks i j (a ++ x :: b) = true →
    (∀ y ∈ a, bef2 masks i j y.1 x.1 = true ∨ indep ops y x = true) ∧ (∀ y ∈ b, bef2 masks i j x.1 y.1 = true ∨ indep ops x y = true)
  | [], x, b, h => by
    simp only [List.nil_append, pairsOk2, Bool.and_eq_true, List.all_eq_true, Bool.or_eq_true] at h
    exact ⟨by simp, fun y hy => h.1 y hy⟩
  | y :: a, x, b, h => by
    simp only [List.cons_append, pairsOk2, Bool.and_eq_true, List.all_eq_true, Bool.or_eq_true] at h
    obtain ⟨h1, h2⟩ := pairs2_split a x b h.2
    refine ⟨fun z hz => ?_, h2⟩
    rcases List.mem_cons.1 hz with rfl | hz
    · exact h.1 x (by simp)
    · exact h1 z hz
theorem pairD2_of {ops : Array Oper} {D : Nat → Bool} {masks : List (Nat × Nat)} {i j : Nat} (hb : ∀ (x y : Nat × OpH × Nat), D y.1 = true → bef2 masks i j x.1 y.1 = true → D x.1 = true) : ∀ {l : List (Nat × OpH × Nat)}, pairsOk2 ops masks i j l = true → PairD ops D l
  | [], _ => trivial
  | x :: r, h => by
    simp only [pairsOk2, Bool.and_eq_true, List.all_eq_true, Bool.or_eq_true] at h
    refine ⟨fun hx y hy hDy => ?_, pairD2_of hb h.2⟩
    rcases h.1 y hy with h1 | h1
    · rw [hb x y hDy h1] at hx; cases hx
    · exact h1
theorem bef_closed (ops : Array Oper) (ks : List (Nat × OpH)) : ∀ D : Nat → Bool, Closed ops D → ∀ j k : Nat, D k = true → before (ancs ops ks []) j k = true → D j = true := by
  have hM : MaskOk ops (ancs ops ks []) := ancs_ok ks [] (maskOk_nil ops) (fun j m h => by cases h)
  intro D hcl j k hk hb
  unfold before at hb
  cases hl : look (ancs ops ks []) k with
  | none => rw [hl] at hb; cases hb
  | some m =>
    rw [hl] at hb
    have hko : ∃ ok, ops[k]? = some ok := by
      cases hx : ops[k]? with
      | some ok => exact ⟨ok, rfl⟩
      | none =>
        exfalso
        have : ∀ (l : List (Nat × OpH)) (acc : List (Nat × Nat)), (∀ j m, look acc j = some m → ∃ o, ops[j]? = some o) → ∀ m, look (ancs ops l acc) k = some m → False := by
          intro l
          induction l with
          | nil => intro acc hacc m hm; obtain ⟨o, ho⟩ := hacc k m hm; rw [hx] at ho; cases ho
          | cons x r ih =>
            intro acc hacc m hm
            obtain ⟨xi, xh⟩ := x
            simp only [ancs] at hm
            cases hox : ops[xi]? with
            | none => rw [hox] at hm; obtain ⟨o, ho⟩ := hacc k m hm; rw [hx] at ho; cases ho
            | some o =>
              rw [hox] at hm
              refine ih _ (fun j m' hj => ?_) m hm
              rw [look_cons] at hj
              split at hj
              · rename_i e; subst e; exact ⟨o, hox⟩
              · exact hacc j m' hj
        exact this ks [] (fun j m hj => by cases hj) m hl
    obtain ⟨ok, hok⟩ := hko
    exact hM D hcl k ok m hl hok (hcl k ok hok hk) j hb
def Inv2 (ds : Nat) (F : Blk → Prop) (P : Program) (ops : Array Oper) (nt : Nat) (ks : List (Nat × OpH)) (s0 : St) (w : World) (pi pj : Nat) (l : Array Bool) (a' : Act) (w' : World) : Prop :=
  l.size = ops.size ∧ (Closed ops (fun j => l.getD j false) ∧ (l.getD pj false = true → l.getD pi false = true)) ∧
    ∃ ns, ns.length = nnD (fun j => l.getD j false) ks ∧ Sat ds nt (evD F P ops (fun j => l.getD j false) ks ns s0.fs s0.nx) a' w' ∧
      Adv s0.fs.mem w (evD F P ops (fun j => l.getD j false) ks ns s0.fs s0.nx).mem w'
section
variable {F : Blk → Prop} {P : Program} {ops : Array Oper} {nt : Nat} {Q : Exit → Act → World → Prop} {ks : (List (Nat × OpH))} {s0 : St} {w : World} {pi pj : Nat}
theorem inv2_fin (hok : drawOk2 ops ks s0.nx pi pj = true)
    (hall : ∀ ns, ns.length = nnL ks → ∃ vc s', evSeq F P ops nt ks ns s0 = some (vc, s') ∧ vc)
    (hK : ∀ ns vc s' a' w', ns.length = nnL ks → evSeq F P ops nt ks ns s0 = some (vc, s') → vc → Sat ds nt s'.fs a' w' → Adv s0.fs.mem w s'.fs.mem w' → Q .normal a' w') :
    ∀ l a' w', Inv2 ds F P ops nt ks s0 w pi pj l a' w' → Region.ready .any ops l = [] → Q .normal a' w' := by
  simp only [drawOk2, Bool.and_eq_true] at hok
  obtain ⟨hperm, hpairs⟩ := hok
  obtain ⟨hnodup, _⟩ := perm_nodup ks [] hperm
  have hM : MaskOk ops (ancs ops ks []) := ancs_ok ks [] (maskOk_nil ops) (fun j m h => by cases h)
  obtain ⟨_, _, hev00, _⟩ := hall (List.replicate _ 0) List.length_replicate
  have hopsOk := evSeq_ok hev00
  have hbef0 : ∀ D : Nat → Bool, Closed ops D → ∀ j k : Nat, D k = true → before (ancs ops ks []) j k = true → D j = true := fun D hcl j k hk hb => by
    unfold before at hb
    cases hl : look (ancs ops ks []) k with
    | none => rw [hl] at hb; cases hb
    | some m =>
      rw [hl] at hb
      have hko : ∃ ok, ops[k]? = some ok := by
        cases hx : ops[k]? with
        | some ok => exact ⟨ok, rfl⟩
        | none =>
          exfalso
          have : ∀ (l : List (Nat × OpH)) (acc : List (Nat × Nat)), (∀ j m, look acc j = some m → ∃ o, ops[j]? = some o) → ∀ m, look (ancs ops l acc) k = some m → False := by
            intro l
            induction l with
            | nil => intro acc hacc m hm; obtain ⟨o, ho⟩ := hacc k m hm; rw [hx] at ho; cases ho
            | cons x r ih =>
              intro acc hacc m hm
              obtain ⟨xi, xh⟩ := x
              simp only [ancs] at hm
              cases hox : ops[xi]? with
              | none => rw [hox] at hm; obtain ⟨o, ho⟩ := hacc k m hm; rw [hx] at ho; cases ho
              | some o =>
                rw [hox] at hm
                refine ih _ (fun j m' hj => ?_) m hm
                rw [look_cons] at hj
                split at hj
                · rename_i e; subst e; exact ⟨o, hox⟩
                · exact hacc j m' hj
          exact this ks [] (fun j m hj => by cases hj) m hl
      obtain ⟨ok, hok⟩ := hko
      exact hM D hcl k ok m hl hok (hcl k ok hok hk) j hb
  have hbef : ∀ D : Nat → Bool, Closed ops D → (D pj = true → D pi = true) → ∀ j k : Nat, D k = true → bef2 (ancs ops ks []) pi pj j k = true → D j = true := fun D hcl hpp j k hk hb => by
    simp only [bef2, Bool.or_eq_true, Bool.and_eq_true, beq_iff_eq] at hb
    rcases hb with h1 | ⟨h1, h2⟩
    · exact hbef0 D hcl j k hk h1
    · subst h1; subst h2; exact hpp hk
  rintro l a' w' ⟨hsz, ⟨hcl, hpp⟩, ns, hgn, hsat, hadv⟩ hr
  have hD : ∀ x ∈ ks, l.getD x.1 false = true := fun x hx => perm_all hsz hr ks [] hperm (by simp) x.1 (List.mem_map.2 ⟨x, hx, rfl⟩)
  obtain ⟨hfull, hlen⟩ := fill_full (D := fun j => l.getD j false) ks ns hD hgn
  obtain ⟨vc, s', hev, hvc⟩ := hall ns hlen
  have hsim := sim (F := F) (P := P) (nt := nt) (D := fun j => l.getD j false) ks [] ns s0 s0.fs s' vc ⟨fun _ _ => rfl, fun _ _ => rfl⟩ (by simp) (by simp)
    (pairD2_of (masks := ancs ops ks []) (i := pi) (j := pj) (fun x y hy hb => hbef _ hcl hpp x.1 y.1 hy hb) hpairs) hgn (by rw [hfull]; exact hev)
  have hnone : ((annot ks s0.nx).filter fun u => !l.getD u.1 false) = [] := by
    refine List.filter_eq_nil_iff.2 fun u hu => ?_
    obtain ⟨x, hx, hxi⟩ := List.mem_map.1 (annot_ks hu)
    have := hD x hx
    rw [hxi] at this
    simp [this]
  rw [hnone] at hsim
  have heq : s'.fs = evD F P ops (fun j => l.getD j false) ks ns s0.fs s0.nx := FSt.ext' (fun t => hsim.1 t (by simp)) (fun p => hsim.2 p (by simp))
  rw [← heq] at hsat hadv
  exact hK ns vc s' a' w' hlen hev hvc hsat hadv
theorem inv2_step (hok : drawOk2 ops ks s0.nx pi pj = true) (hF : Fam F s0.fs.mem w)
    (hall : ∀ ns, ns.length = nnL ks → ∃ vc s', evSeq F P ops nt ks ns s0 = some (vc, s') ∧ vc) :
    ∀ l a' w' i, Inv2 ds F P ops nt ks s0 w pi pj l a' w' → i ∈ Region.ready .any ops l → (i = pj → l.getD pi false = true) → wpOp P ops Q i (Inv2 ds F P ops nt ks s0 w pi pj (l.setIfInBounds i true)) a' w' := by
  simp only [drawOk2, Bool.and_eq_true] at hok
  obtain ⟨hperm, hpairs⟩ := hok
  obtain ⟨hnodup, _⟩ := perm_nodup ks [] hperm
  have hM : MaskOk ops (ancs ops ks []) := ancs_ok ks [] (maskOk_nil ops) (fun j m h => by cases h)
  obtain ⟨_, _, hev00, _⟩ := hall (List.replicate _ 0) List.length_replicate
  have hopsOk := evSeq_ok hev00
  have hbef0 : ∀ D : Nat → Bool, Closed ops D → ∀ j k : Nat, D k = true → before (ancs ops ks []) j k = true → D j = true := fun D hcl j k hk hb => by
    unfold before at hb
    cases hl : look (ancs ops ks []) k with
    | none => rw [hl] at hb; cases hb
    | some m =>
      rw [hl] at hb
      have hko : ∃ ok, ops[k]? = some ok := by
        cases hx : ops[k]? with
        | some ok => exact ⟨ok, rfl⟩
        | none =>
          exfalso
          have : ∀ (l : List (Nat × OpH)) (acc : List (Nat × Nat)), (∀ j m, look acc j = some m → ∃ o, ops[j]? = some o) → ∀ m, look (ancs ops l acc) k = some m → False := by
            intro l
            induction l with
            | nil => intro acc hacc m hm; obtain ⟨o, ho⟩ := hacc k m hm; rw [hx] at ho; cases ho
            | cons x r ih =>
              intro acc hacc m hm
              obtain ⟨xi, xh⟩ := x
              simp only [ancs] at hm
              cases hox : ops[xi]? with
              | none => rw [hox] at hm; obtain ⟨o, ho⟩ := hacc k m hm; rw [hx] at ho; cases ho
              | some o =>
                rw [hox] at hm
                refine ih _ (fun j m' hj => ?_) m hm
                rw [look_cons] at hj
                split at hj
                · rename_i e; subst e; exact ⟨o, hox⟩
                · exact hacc j m' hj
          exact this ks [] (fun j m hj => by cases hj) m hl
      obtain ⟨ok, hok⟩ := hko
      exact hM D hcl k ok m hl hok (hcl k ok hok hk) j hb
  have hbef : ∀ D : Nat → Bool, Closed ops D → (D pj = true → D pi = true) → ∀ j k : Nat, D k = true → bef2 (ancs ops ks []) pi pj j k = true → D j = true := fun D hcl hpp j k hk hb => by
    simp only [bef2, Bool.or_eq_true, Bool.and_eq_true, beq_iff_eq] at hb
    rcases hb with h1 | ⟨h1, h2⟩
    · exact hbef0 D hcl j k hk h1
    · subst h1; subst h2; exact hpp hk
  rintro l a' w' i ⟨hsz, ⟨hcl, hpp⟩, ns, hgn, hsat, hadv⟩ hr hpi
  obtain ⟨hun, o, ho, hpr⟩ := mem_ready.1 hr
  have hil : i < l.size := by rw [hsz]; exact (Array.getElem?_eq_some_iff.1 ho).1
  have hDi : l.getD i false = false := by
    have := getD_false hun
    simp [Array.getD_eq_getD_getElem?, this]
  have hpp' : (fun j => l.getD j false) pj = true → (fun j => l.getD j false) pi = true := hpp
  have hpi' : i = pj → (fun j => l.getD j false) pi = true := hpi
  generalize hDdef : (fun j => l.getD j false) = D at hcl hgn hsat hadv hpp' hpi'
  have hDi' : D i = false := by rw [← hDdef]; exact hDi
  have hP : Preds D o := fun e he hb => by rw [← hDdef]; exact hpr e (by simpa using he) hb
  obtain ⟨x, hx, hxi⟩ : ∃ x ∈ ks, x.1 = i := by
    rcases perm_cover ks [] hperm i (Array.getElem?_eq_some_iff.1 ho).1 with h1 | h1
    · obtain ⟨x, hx, hxi⟩ := List.mem_map.1 h1; exact ⟨x, hx, hxi⟩
    · cases h1
  obtain ⟨pre, post, hks⟩ := List.append_of_mem hx
  obtain ⟨xi, h⟩ := x
  simp only at hxi
  have hxi' := hxi.symm
  subst hxi'
  clear hxi
  have hipre : ∀ y ∈ pre, y.1 ≠ i := fun y hy e => by
    rw [hks] at hnodup
    simp only [List.map_append, List.map_cons] at hnodup
    exact (List.nodup_append.1 hnodup).2.2 y.1 (List.mem_map.2 ⟨y, hy, rfl⟩) i (by simp) e
  have hipost : ∀ y ∈ post, y.1 ≠ i := fun y hy e => by
    rw [hks] at hnodup
    simp only [List.map_append, List.map_cons] at hnodup
    have := (List.nodup_append.1 hnodup).2.1
    simp only [List.nodup_cons] at this
    exact this.1 (List.mem_map.2 ⟨y, hy, e⟩)
  have hps := hpairs
  rw [hks, annot_append] at hps
  simp only [annot] at hps
  obtain ⟨hR1, hR2⟩ := pairs2_split _ _ _ hps
  rw [← hks] at hR1 hR2
  simp only at hR1 hR2
  have hbefi : ∀ j, bef2 (ancs ops ks []) pi pj j i = true → D j = true := fun j hb => by
    simp only [bef2, Bool.or_eq_true, Bool.and_eq_true, beq_iff_eq] at hb
    rcases hb with hb | ⟨h1, h2⟩
    rotate_left
    · subst h1; exact hpi' h2
    unfold before at hb
    cases hl : look (ancs ops ks []) i with
    | none => rw [hl] at hb; cases hb
    | some m => rw [hl] at hb; exact hM D hcl i o m hl ho hP j hb
  have hIpost : ∀ y ∈ annot post (s0.nx + nbL pre + h.nb), D y.1 = true → indep ops (i, h, s0.nx + nbL pre) y = true := fun y hy hDy => by
    rcases hR2 y hy with h1 | h1
    · rw [hbef D hcl hpp' i y.1 hDy h1] at hDi'; cases hDi'
    · exact h1
  have hIpre : ∀ u ∈ (annot pre s0.nx).filter (fun u => !D u.1), indep ops u (i, h, s0.nx + nbL pre) = true := fun u hu => by
    obtain ⟨hu1, hu2⟩ := List.mem_filter.1 hu
    rcases hR1 u hu1 with h1 | h1
    · rw [hbefi u.1 h1] at hu2; cases hu2
    · exact h1
  rw [hks] at hgn hsat hadv
  have hnd : nnD D (pre ++ (i, h) :: post) = nnD D pre + nnD D post := by
    rw [nnD_append]; simp only [nnD, hDi']
  rw [hnd] at hgn
  obtain ⟨n1, n2, rfl, hn1, hn2⟩ : ∃ n1 n2, ns = n1 ++ n2 ∧ n1.length = nnD D pre ∧ n2.length = nnD D post :=
    ⟨ns.take (nnD D pre), ns.drop (nnD D pre), (List.take_append_drop _ _).symm, by rw [List.length_take]; omega, by rw [List.length_drop]; omega⟩
  rw [evD_append _ _ pre n1 _ _ hn1] at hsat hadv
  simp only [evD, hDi'] at hsat hadv
  have hlenks : nnL ks = nnL pre + (h.nn + nnL post) := by rw [hks, nnL_append]; rfl
  have hfl := fill_length pre n1 hn1
  have hop : ∀ nsi, nsi.length = h.nn → ∃ (s1 : St) (vc : Prop) (e : Got), s1.nx = s0.nx + nbL pre ∧ Rel ops ((annot pre s0.nx).filter fun u => !D u.1) s1.fs (evD F P ops D pre n1 s0.fs s0.nx) ∧ opOk nt o = true ∧ evOp F P ops o s1.fs s1.nx nsi h = some (vc, e) ∧ vc := fun nsi hnsi => by
    obtain ⟨vc3, s3, hev3, hvc3⟩ := hall (fill D pre n1 ++ (nsi ++ List.replicate (nnL post) 0)) (by simp [hlenks, hfl, hnsi])
    rw [hks] at hev3
    obtain ⟨vc4, s4, vc5, k1, k2, k3, k4, k5⟩ := evSeq_cut pre ((i, h) :: post) _ _ s0 s3 vc3 hfl hev3 hvc3
    obtain ⟨o', vc6, e, vc7, ho', hok', he, _, rfl⟩ := evSeq_cons k3
    rw [ho] at ho'; injection ho' with ho'; subst ho'
    rw [List.take_left' hnsi] at he
    have hpp : PairD ops D (annot pre s0.nx) := by
      have := pairD2_of (D := D) (masks := ancs ops ks []) (i := pi) (j := pj) (fun x y hy hb => hbef _ hcl hpp' x.1 y.1 hy hb) hpairs
      rw [hks, annot_append] at this
      have cut : ∀ (a b : List (Nat × OpH × Nat)), PairD ops D (a ++ b) → PairD ops D a := by
        intro a
        induction a with
        | nil => intro b _; trivial
        | cons x r ih => intro b hb; exact ⟨fun hx y hy => hb.1 hx y (by simp [hy]), ih b hb.2⟩
      exact cut _ _ this
    have hsim := sim (F := F) (P := P) (nt := nt) (D := D) pre [] n1 s0 s0.fs s4 vc4 ⟨fun _ _ => rfl, fun _ _ => rfl⟩ (by simp) (by simp) hpp hn1 k1
    exact ⟨s4, vc6, e, k5, by simpa using hsim, hok', he, k4.1⟩
  obtain ⟨s1, _, _, hs1nx, hs1R, hokop, _, _⟩ := hop (List.replicate h.nn 0) List.length_replicate
  have hXo : ∀ u ∈ (annot pre s0.nx).filter (fun u => !D u.1), ∃ o, ops[u.1]? = some o := fun u hu => by
    obtain ⟨y, hy, hyu⟩ := List.mem_map.1 (annot_ks (List.mem_filter.1 hu).1)
    obtain ⟨oy, hoy, _⟩ := hopsOk y (by rw [hks]; simp [hy])
    exact ⟨oy, by rw [← hyu]; exact hoy⟩
  have hcong : ∀ (s1 : St) nsi, Rel ops ((annot pre s0.nx).filter fun u => !D u.1) s1.fs (evD F P ops D pre n1 s0.fs s0.nx) →
      evOp F P ops o s1.fs (s0.nx + nbL pre) nsi h = evOp F P ops o (evD F P ops D pre n1 s0.fs s0.nx) (s0.nx + nbL pre) nsi h := fun s1 nsi hR => hR.evOp hXo ho (opOk_sel hokop) hIpre
  have hcong2 : ∀ nsi, evOp F P ops o (evD F P ops D post n2 (evD F P ops D pre n1 s0.fs s0.nx) (s0.nx + nbL pre + h.nb)) (s0.nx + nbL pre) nsi h = evOp F P ops o (evD F P ops D pre n1 s0.fs s0.nx) (s0.nx + nbL pre) nsi h := fun nsi => by
    obtain ⟨k1, k2⟩ := evD_skip (F := F) (P := P) ho post n2 (evD F P ops D pre n1 s0.fs s0.nx) _ hIpost
    exact evOp_congr (opOk_sel hokop) k1 (fun p ro hp => k2 p (ps_tch hp))
  refine op_sound (nx := s0.nx + nbL pre) (h := h) ho hsat (hF.adv hadv) (opOk_sel hokop) (fun nsi hnsi => ?_) (fun nsi vc e w2 hnsi hev hvc hpost => ?_)
  · obtain ⟨s1, vc, e, hnx, hR, _, he, hvc⟩ := hop nsi hnsi
    rw [hnx, hcong s1 nsi hR] at he
    exact ⟨vc, e, by rw [hcong2]; exact he, hvc⟩
  · rw [hcong2] at hev
    have hsat2 := sat_apply hsat (opOk_dst hokop) hpost
    have hadv2 := hadv.trans hpost.adv
    have hD' : ∀ j, (l.setIfInBounds i true).getD j false = if i = j then true else D j := fun j => by
      by_cases hij : i = j
      · subst hij; simp [Array.getD_eq_getD_getElem?, hil]
      · rw [getD_set_ne false hij, if_neg hij, ← hDdef]
    have hD'pre : ∀ y ∈ pre, (l.setIfInBounds i true).getD y.1 false = D y.1 := fun y hy => by rw [hD', if_neg (fun e => hipre y hy e.symm)]
    have hD'post : ∀ y ∈ post, (l.setIfInBounds i true).getD y.1 false = D y.1 := fun y hy => by rw [hD', if_neg (fun e => hipost y hy e.symm)]
    have hD'i : (l.setIfInBounds i true).getD i false = true := by rw [hD', if_pos rfl]
    refine ⟨by simp [hsz], ⟨fun j oj hoj hj e he hb => ?_, fun hj => ?_⟩, n1 ++ (nsi ++ n2), ?_, ?_⟩
    · show (l.setIfInBounds i true).getD e.on false = true
      have hj : (l.setIfInBounds i true).getD j false = true := hj
      rw [hD']
      split
      · rfl
      · rw [hD'] at hj
        split at hj
        · rename_i hij
          subst hij
          rw [ho] at hoj; injection hoj with hoj; subst hoj
          exact hP e he hb
        · exact hcl j oj hoj hj e he hb
    · rw [hD'] at hj ⊢
      split
      · rfl
      · split at hj
        · rename_i h1 h2; exact hpi' h2
        · exact hpp' hj
    · rw [hks, nnD_append, nnD_congr (D' := D) (ks := pre) hD'pre]
      simp only [nnD, hD'i]
      have e2 : nnD (fun j => (l.setIfInBounds i true).getD j false) post = nnD D post := nnD_congr hD'post
      rw [e2]
      simp [hn1, hn2, hnsi]
    · have heq : evD F P ops (fun j => (l.setIfInBounds i true).getD j false) ks (n1 ++ (nsi ++ n2)) s0.fs s0.nx =
          (evD F P ops D post n2 (evD F P ops D pre n1 s0.fs s0.nx) (s0.nx + nbL pre + h.nb)).apply o.dst e := by
        rw [hks, evD_append _ _ pre n1 _ _ (by rw [nnD_congr (D' := D) hD'pre]; exact hn1), evD_congr (D' := D) (ks := pre) hD'pre]
        simp only [evD, hD'i, ho]
        rw [List.take_left' hnsi, List.drop_left' hnsi, hev]
        simp only
        rw [evD_congr (D' := D) (ks := post) hD'post]
        refine evD_comm ho (evOp_wrs hev) post n2 _ _ hIpost fun y hy oy hoy => ?_
        obtain ⟨oy', hoy', hky⟩ := hopsOk y (by rw [hks]; simp [hy])
        rw [hoy] at hoy'; injection hoy' with hoy'; subst hoy'
        exact opOk_sel hky
      rw [heq]
      exact ⟨hsat2, hadv2⟩
theorem inv2_init {a : Act} (hs : Sat ds nt s0.fs a w) : Inv2 ds F P ops nt ks s0 w pi pj (Array.replicate ops.size false) a { w with drawn := w.drawn + 1 } := by
  have hD0 : ∀ j, (Array.replicate ops.size false).getD j false = false := fun j => by
    simp [Array.getD_eq_getD_getElem?, Array.getElem?_replicate]
    split <;> rfl
  have hnone : ∀ (l : List (Nat × OpH)) (f : FSt) (nx : Nat), evD F P ops (fun j => (Array.replicate ops.size false).getD j false) l [] f nx = f ∧ nnD (fun j => (Array.replicate ops.size false).getD j false) l = 0 := by
    intro l
    induction l with
    | nil => intro f nx; exact ⟨rfl, rfl⟩
    | cons x r ih =>
      intro f nx
      obtain ⟨j, gh⟩ := x
      obtain ⟨i1, i2⟩ := ih f (nx + gh.nb)
      have hj := hD0 j
      constructor
      · rw [evD]; simp only [hj]; exact i1
      · rw [nnD]; simp only [hj]; exact i2
  refine ⟨by simp, ⟨fun j o _ hj => ?_, fun hj => ?_⟩, [], (hnone ks s0.fs 0).2.symm, ?_⟩
  · have hj : (Array.replicate ops.size false).getD j false = true := hj
    rw [hD0] at hj; cases hj
  · rw [hD0] at hj; cases hj
  rw [(hnone ks s0.fs s0.nx).1]
  exact ⟨hs.drew, ⟨rfl, rfl, rfl, Nat.le_refl _, fun _ _ _ => rfl, fun _ h => .inl h, fun _ _ h _ => h⟩⟩
end
theorem evD_none {F : Blk → Prop} {P : Program} {ops : Array Oper} {D : Nat → Bool} : ∀ (B : List (Nat × OpH)), (∀ x ∈ B, D x.1 = false) → (∀ f nx ns, evD F P ops D B ns f nx = f) ∧ nnD D B = 0
  | [], _ => ⟨fun _ _ _ => rfl, rfl⟩
  | (i, h) :: r, hB => by
    obtain ⟨h1, h2⟩ := evD_none (F := F) (P := P) (ops := ops) r fun x hx => hB x (.tail _ hx)
    have := hB (i, h) (.head _)
    simp only at this
    exact ⟨fun f nx ns => by simp only [evD, this]; exact h1 _ _ _, by simp only [nnD, this]; exact h2⟩
theorem evD_cut {F : Blk → Prop} {P : Program} {ops : Array Oper} {D : Nat → Bool} {A B : List (Nat × OpH)} (hB : ∀ x ∈ B, D x.1 = false) (ns : List Nat) (f : FSt) (nx : Nat) (hn : ns.length = nnD D (A ++ B)) :
    evD F P ops D (A ++ B) ns f nx = evD F P ops D A ns f nx ∧ ns.length = nnD D A := by
  obtain ⟨h1, h2⟩ := evD_none (F := F) (P := P) (ops := ops) B hB
  rw [nnD_append, h2, Nat.add_zero] at hn
  refine ⟨?_, hn⟩
  have := evD_append (F := F) (P := P) (ops := ops) (D := D) B [] A ns f nx hn
  rw [List.append_nil] at this
  rw [this]; exact h1 _ _ _
def chkB (masks : List (Nat × Nat)) (i j : Nat) (B : List (Nat × OpH)) : Bool := B.all fun x => x.1 == i || x.1 == j || before masks i x.1 || before masks j x.1
theorem inv2_turn {F : Blk → Prop} {P : Program} {ops : Array Oper} {nt : Nat} {A B1 B2 : List (Nat × OpH)} {s0 : St} {w : World} {i j : Nat} (c1 : chkB (ancs ops (A ++ B1) []) i j B1 = true) (c2 : chkB (ancs ops (A ++ B1) []) i j B2 = true) {l : Array Bool} {a' : Act} {w' : World}
    (hi : l.getD i false = false) (hj : l.getD j false = false) (h : Inv2 ds F P ops nt (A ++ B1) s0 w i j l a' w') : Inv2 ds F P ops nt (A ++ B2) s0 w j i l a' w' := by
  obtain ⟨hsz, ⟨hcl, _⟩, ns, hn, h1, h2⟩ := h
  have hB : ∀ B : List (Nat × OpH), chkB (ancs ops (A ++ B1) []) i j B = true → ∀ x ∈ B, l.getD x.1 false = false := fun B hc x hx => by
    cases hd : l.getD x.1 false with
    | false => rfl
    | true =>
      have := List.all_eq_true.1 hc x hx
      simp only [Bool.or_eq_true, beq_iff_eq] at this
      rcases this with ((e | e) | e) | e
      · rw [e, hi] at hd; cases hd
      · rw [e, hj] at hd; cases hd
      · rw [bef_closed ops (A ++ B1) _ hcl i x.1 hd e] at hi; cases hi
      · rw [bef_closed ops (A ++ B1) _ hcl j x.1 hd e] at hj; cases hj
  obtain ⟨e1, e2⟩ := evD_cut (F := F) (P := P) (ops := ops) (D := fun j => l.getD j false) (A := A) (hB B1 c1) ns s0.fs s0.nx hn
  rw [e1] at h1 h2
  obtain ⟨k1, k2⟩ := evD_none (F := F) (P := P) (ops := ops) (D := fun j => l.getD j false) B2 (hB B2 c2)
  have hn2 : ns.length = nnD (fun j => l.getD j false) (A ++ B2) := by rw [nnD_append, k2, Nat.add_zero]; exact e2
  obtain ⟨e3, _⟩ := evD_cut (F := F) (P := P) (ops := ops) (D := fun j => l.getD j false) (A := A) (hB B2 c2) ns s0.fs s0.nx hn2
  exact ⟨hsz, ⟨hcl, fun h => by rw [hi] at h; cases h⟩, ns, hn2, by rw [e3]; exact h1, by rw [e3]; exact h2⟩
def runOk (F : Blk → Prop) (P : Program) (ops : Array Oper) (nt : Nat) (ks : List (Nat × OpH)) (s S : St) (ts ps : List Nat) (nx : Nat) : Prop := match evSeq F P ops nt ks [] s with
  | some (vc, s') => vc ∧ s'.keep ts ps nx = S
  | none => False
theorem runOk_all {F : Blk → Prop} {P : Program} {ops : Array Oper} {nt : Nat} {ks : List (Nat × OpH)} {s S : St} {ts ps : List Nat} {nx : Nat} (hn : nnL ks = 0) (h : runOk F P ops nt ks s S ts ps nx) :
    (∀ ns, ns.length = nnL ks → ∃ vc s', evSeq F P ops nt ks ns s = some (vc, s') ∧ vc) ∧ ∀ ns vc s', ns.length = nnL ks → evSeq F P ops nt ks ns s = some (vc, s') → Le S.fs s'.fs := by
  unfold runOk at h
  cases he : evSeq F P ops nt ks [] s with
  | none => rw [he] at h; exact h.elim
  | some q =>
    obtain ⟨vc, s'⟩ := q
    rw [he] at h
    obtain ⟨h1, h2⟩ := h
    refine ⟨fun ns hl => ?_, fun ns vc' s'' hl h3 => ?_⟩
    · obtain rfl : ns = [] := List.eq_nil_of_length_eq_zero (hl.trans hn)
      exact ⟨vc, s', he, h1⟩
    · obtain rfl : ns = [] := List.eq_nil_of_length_eq_zero (hl.trans hn)
      rw [he] at h3; injection h3 with h3; injection h3 with _ h3; subst h3; subst h2
      exact keep_le _ _ _ _
theorem awp_split {F : Blk → Prop} {P : Program} {nt id : Nat} {ops : Array Oper} {s S : St} {A B1 B2 : List (Nat × OpH)} {i j : Nat} {ts ps : List Nat} {nx : Nat} (hmix : P.follows .mixedOrders = true) (hij : (i == j) = false)
    (hk1 : drawOk2 ops (A ++ B1) s.nx i j = true) (hk2 : drawOk2 ops (A ++ B2) s.nx j i = true) (c1 : chkB (ancs ops (A ++ B1) []) i j B1 = true) (c2 : chkB (ancs ops (A ++ B1) []) i j B2 = true) (n1 : nnL (A ++ B1) = 0) (n2 : nnL (A ++ B2) = 0)
    (h1 : runOk F P ops nt (A ++ B1) s S ts ps nx) (h2 : runOk F P ops nt (A ++ B2) s S ts ps nx) :
    AWPF F ds P nt (.region id ops true) s (fun e s' => ∃ _ : Unit, True ∧ e = .normal ∧ Le S.fs s'.fs) := by
  intro a w hs hF
  obtain ⟨a1, b1⟩ := runOk_all n1 h1
  obtain ⟨a2, b2⟩ := runOk_all n2 h2
  have hne : i ≠ j := by simpa using hij
  refine wp_region_any hmix (wpAny_inv (Inv := fun l a' w' => Inv2 ds F P ops nt (A ++ B1) s w i j l a' w' ∨ (Inv2 ds F P ops nt (A ++ B2) s w j i l a' w' ∧ l.getD j false = true)) ?_ ?_ _ _ _ _ ?_ (.inl (inv2_init hs)))
  · rintro l a' w' (h | ⟨h, _⟩) hr
    · exact inv2_fin (Q := fun e a' w' => ∃ s', (fun e s' => ∃ _ : Unit, True ∧ e = Exit.normal ∧ Le S.fs s'.fs) e s' ∧ Sat ds nt s'.fs a' w' ∧ Adv s.fs.mem w s'.fs.mem w') hk1 a1 (fun ns vc s' a' w' hl he hv hsat hadv => ⟨s', ⟨(), trivial, rfl, b1 ns vc s' hl he⟩, hsat, hadv⟩) l a' w' h hr
    · exact inv2_fin (Q := fun e a' w' => ∃ s', (fun e s' => ∃ _ : Unit, True ∧ e = Exit.normal ∧ Le S.fs s'.fs) e s' ∧ Sat ds nt s'.fs a' w' ∧ Adv s.fs.mem w s'.fs.mem w') hk2 a2 (fun ns vc s' a' w' hl he hv hsat hadv => ⟨s', ⟨(), trivial, rfl, b2 ns vc s' hl he⟩, hsat, hadv⟩) l a' w' h hr
  · rintro l a' w' k (h | ⟨h, hj⟩) hr
    · by_cases hc : k = j ∧ l.getD i false = false
      · obtain ⟨rfl, hi⟩ := hc
        obtain ⟨hun, o, ho, _⟩ := mem_ready.1 hr
        have hj : l.getD k false = false := by
          have := getD_false hun
          simp [Array.getD_eq_getD_getElem?, this]
        have hlt : k < l.size := by rw [h.1]; exact (Array.getElem?_eq_some_iff.1 ho).1
        refine wpOp_mono (fun a2 w2 h3 => Or.inr ⟨h3, ?_⟩) (inv2_step hk2 hF a2 l a' w' k (inv2_turn c1 c2 hi hj h) hr (fun e => absurd e.symm hne))
        simp [Array.getD_eq_getD_getElem?, hlt]
      · refine wpOp_mono (fun a2 w2 h3 => Or.inl h3) (inv2_step hk1 hF a1 l a' w' k h hr fun e => ?_)
        cases hd : l.getD i false with
        | true => rfl
        | false => exact absurd ⟨e, hd⟩ hc
    · exact wpOp_mono (fun a2 w2 h3 => Or.inr ⟨h3, getD_set_true hj⟩) (inv2_step hk2 hF a2 l a' w' k h hr fun _ => hj)
  · unfold unl; simp
def opsC : Code → Array Oper
  | .region _ ops _ => ops
  | _ => #[]
def isDraw : Code → Bool
  | .region _ _ d => d
  | _ => false
theorem awp_spl {F : Blk → Prop} {P : Program} {nt : Nat} (c : Code) (s S : St) (A B1 B2 : List (Nat × OpH)) (i j : Nat) (ts ps : List Nat) (nx : Nat) (hmix : P.follows .mixedOrders = true) (hc : isDraw c = true) (hij : (i == j) = false)
    (hk1 : drawOk2 (opsC c) (A ++ B1) s.nx i j = true) (hk2 : drawOk2 (opsC c) (A ++ B2) s.nx j i = true) (c1 : chkB (ancs (opsC c) (A ++ B1) []) i j B1 = true) (c2 : chkB (ancs (opsC c) (A ++ B1) []) i j B2 = true) (n1 : nnL (A ++ B1) = 0) (n2 : nnL (A ++ B2) = 0)
    (h1 : runOk F P (opsC c) nt (A ++ B1) s S ts ps nx) (h2 : runOk F P (opsC c) nt (A ++ B2) s S ts ps nx) :
    ∀ ds, AWPF F ds P nt c s (fun e s' => ∃ x : Unit, (fun _ : Unit => True) x ∧ e = (fun _ : Unit => Exit.normal) x ∧ Le ((fun _ : Unit => S) x).fs s'.fs) := fun ds => by
  cases c with
  | region id ops d =>
    cases d with
    | true => exact awp_split hmix hij hk1 hk2 c1 c2 n1 n2 h1 h2
    | false => cases hc
  | _ => cases hc
end Go.Eng
end
