/-
  An engine for walks, ninth part: code: what is to be shown of a function's body, by hints; loops.
-/
import Derived.Test.YtfeepilncjplmaaEngH
import Derived.LoopN
import Derived.Scope
import Derived.Deep.LoopGhost
namespace Go.Eng

/-- What is kept of a state. -/
def keepEnv (l : List (Nat × EV)) : List Nat → List (Nat × EV)
  | [] => []
  | t :: r => match look l t with
    | some e => (t, e) :: keepEnv l r
    | none => keepEnv l r

def keepMem (l : List (Nat × Option Blk)) : List Nat → List (Nat × Option Blk)
  | [] => []
  | p :: r => match look l p with
    | some ob => (p, ob) :: keepMem l r
    | none => keepMem l r

def St.keep (s : St) (ts ps : List Nat) (nx : Nat) : St := ⟨keepEnv s.env ts, keepMem s.mem ps, nx⟩

structure Le (s' s : FSt) : Prop where
  env : ∀ t e, s'.env t = some e → s.env t = some e
  mem : ∀ p b, s'.mem p = some b → s.mem p = some b

theorem Le.refl (s : FSt) : Le s s := ⟨fun _ _ h => h, fun _ _ h => h⟩

theorem keepEnv_look (l : List (Nat × EV)) : ∀ (ts : List Nat) (t : Nat) (e : EV), look (keepEnv l ts) t = some e → look l t = some e
  | [], t, e, h => by cases h
  | u :: r, t, e, h => by
    simp only [keepEnv] at h
    split at h
    · rename_i e' he
      rw [look_cons] at h
      split at h
      · rename_i hu; subst hu; rw [he]; exact h
      · exact keepEnv_look l r t e h
    · exact keepEnv_look l r t e h

theorem keepMem_look (l : List (Nat × Option Blk)) : ∀ (ps : List Nat) (p : Nat) (ob : Option Blk), look (keepMem l ps) p = some ob → look l p = some ob
  | [], p, ob, h => by cases h
  | u :: r, p, ob, h => by
    simp only [keepMem] at h
    split at h
    · rename_i ob' he
      rw [look_cons] at h
      split at h
      · rename_i hu; subst hu; rw [he]; exact h
      · exact keepMem_look l r p ob h
    · exact keepMem_look l r p ob h

theorem keep_le (s : St) (ts ps : List Nat) (nx : Nat) : Le (s.keep ts ps nx).fs s.fs where
  env t e h := keepEnv_look s.env ts t e h
  mem p b h := by
    simp only [St.fs, St.keep, memOf] at h ⊢
    cases hl : look (keepMem s.mem ps) p with
    | none => rw [hl] at h; cases h
    | some ob => rw [hl] at h; rw [keepMem_look s.mem ps p ob hl]; exact h

theorem Sat.le {nt : Nat} {s s' : FSt} {a : Act} {w : World} (h : Sat nt s a w) (hl : Le s' s) : Sat nt s' a w :=
  ⟨h.defers, h.size, fun t e ht => h.env t e (hl.env t e ht), fun p b hp => h.mem p b (hl.mem p b hp),
    fun p q b c hpq hb hc ho => h.apart p q b c hpq (hl.mem p b hb) (hl.mem q c hc) ho⟩

theorem Le.owns {s s' : FSt} (hl : Le s' s) {k : Nat} (h : Owns s'.mem k) : Owns s.mem k := by
  obtain ⟨p, b, h1, h2, h3⟩ := h
  exact ⟨p, b, hl.mem p b h1, h2, h3⟩

theorem adv_le {s s' : FSt} {w : World} (hl : Le s' s) : Adv s.mem w s'.mem w :=
  (Adv.refl s.mem w).weak hl.mem

/-- A block of one's own, told otherwise. -/
def St.recast (s : St) (p : Nat) (b : Blk) (c : Cont) : St := ⟨s.env, (p, some { b with cont := c }) :: s.mem, s.nx⟩

theorem recast_mem {s : St} {p : Nat} {b : Blk} {c : Cont} (q : Nat) : (s.recast p b c).fs.mem q = if p = q then some { b with cont := c } else s.fs.mem q := by
  simp only [St.fs, St.recast, memOf, look_cons]
  by_cases h : p = q
  · simp [h]
  · simp [h]

theorem Sat.recast {nt : Nat} {s : St} {a : Act} {w : World} (h : Sat nt s.fs a w) {p : Nat} {b : Blk} {c : Cont} (hb : s.fs.mem p = some b) (ho : b.own = true)
    (hc : ∀ o v, c.get o = some v → b.cont.get o = some v) : Sat nt (s.recast p b c).fs a w ∧ Adv s.fs.mem w (s.recast p b c).fs.mem w := by
  have hH := h.mem p b hb
  have hnew : Holds { b with cont := c } w := ⟨hH.lt, fun o v hv => hH.cell o v (hc o v hv), fun _ o v hv => hH.free ho o v (hc o v hv)⟩
  have hold : ∀ q d, (s.recast p b c).fs.mem q = some d → ∃ e, s.fs.mem q = some e ∧ e.name = d.name ∧ e.own = d.own := fun q d hq => by
    rw [recast_mem] at hq
    split at hq
    · rename_i hpq
      injection hq with hq; subst hq; subst hpq
      exact ⟨b, hb, rfl, rfl⟩
    · exact ⟨d, hq, rfl, rfl⟩
  refine ⟨⟨h.defers, h.size, h.env, fun q d hq => ?_, fun q r d e hqr hd he hown => ?_⟩, ⟨rfl, rfl, rfl, Nat.le_refl _, fun _ _ _ => rfl, fun k hk => ?_, fun q d hq hown => ?_⟩⟩
  · rw [recast_mem] at hq
    split at hq
    · injection hq with hq; subst hq; exact hnew
    · exact h.mem q d hq
  · obtain ⟨d', h1, h2, h3⟩ := hold q d hd
    obtain ⟨e', h4, h5, _⟩ := hold r e he
    rw [← h2, ← h5]
    exact h.apart q r d' e' hqr h1 h4 (by rw [h3]; exact hown)
  · obtain ⟨q, d, hq, hown, rfl⟩ := hk
    obtain ⟨d', h1, h2, h3⟩ := hold q d hq
    exact .inl ⟨q, d', h1, by rw [h3]; exact hown, h2⟩
  · rw [recast_mem] at hq
    split at hq
    · injection hq with hq; subst hq; rw [ho] at hown; cases hown
    · exact hq

/-- What a piece of code comes to. -/
def AWP (P : Program) (nt : Nat) (c : Code) (s : St) (Φ : Exit → St → Prop) : Prop :=
  ∀ a w, Sat nt s.fs a w → c.wp P (fun e a' w' => ∃ s', Φ e s' ∧ Sat nt s'.fs a' w' ∧ Adv s.fs.mem w s'.fs.mem w') a w

inductive H : Type 1 where
  | reg (ks : (List (Nat × OpH))) (rest : H)
  | regn (ks : (List (Nat × OpH))) (rest : List Nat → H)
  | br (yes no : H)
  | yes (rest : H)
  | no (rest : H)
  | keep (ts ps : List Nat) (nx : Nat) (rest : H)
  | cast (p : Nat) (c : Cont) (rest : H)
  | sum {α : Type} (R : α → Prop) (E : α → Exit) (S : α → St) (rest : α → H)
  | inv {α : Type} (ts ps : List Nat) (nx : Nat) (R : α → Prop) (S : α → St) (μ : α → Nat) (x0 : α) (round : α → H)
  | cut {α : Type} (ts ps : List Nat) (nx : Nat) (R : α → Prop) (S : α → St) (here : H) (rest : α → H)
  | unroll (rest : H)
  | done

/-- A loop's round is over: it begins anew, with less to do. -/
def Round {α : Type} (R : α → Prop) (S : α → St) (μ : α → Nat) (x : α) (s : St) : Prop :=
  ∃ y, R y ∧ μ y < μ x ∧ s = S y

theorem rnd {α : Type} (R : α → Prop) (S : α → St) (μ : α → Nat) (x y : α) (h : R y ∧ μ y < μ x) : Round R S μ x (S y) := ⟨y, h.1, h.2, rfl⟩

/-- Code's end is one of many. -/
def Meet {α : Type} (R : α → Prop) (S : α → St) (s : St) : Prop :=
  ∃ y, R y ∧ s = S y

theorem meet {α : Type} (R : α → Prop) (S : α → St) (y : α) (h : R y) : Meet R S (S y) := ⟨y, h, rfl⟩

def allNs : Nat → (List Nat → Prop) → Prop
  | 0, F => F []
  | n + 1, F => ∀ x, allNs n fun l => F (x :: l)

theorem allNs_get : ∀ {n : Nat} {F : List Nat → Prop}, allNs n F → ∀ l, l.length = n → F l
  | 0, F, h, l, hl => by
    have : l = [] := by simpa using hl
    subst this; exact h
  | n + 1, F, h, l, hl => by
    cases l with
    | nil => simp at hl
    | cons x r => exact allNs_get (h x) r (by simpa using hl)

def idxIs : (List (Nat × OpH)) → Nat → Nat → Bool
  | [], i, n => Nat.beq i n
  | (j, _) :: r, i, n => Nat.beq j i && idxIs r (i + 1) n

theorem idxIs_range : ∀ (ks : (List (Nat × OpH))) (i n : Nat), idxIs ks i n = true → ks.map (·.1) = List.range' i (n - i) ∧ i ≤ n
  | [], i, n, h => by
    have := Nat.eq_of_beq_eq_true h
    subst this; simp
  | (j, _) :: r, i, n, h => by
    simp only [idxIs, Bool.and_eq_true] at h
    have hj := Nat.eq_of_beq_eq_true h.1
    subst hj
    obtain ⟨h1, h2⟩ := idxIs_range r (j + 1) n h.2
    refine ⟨?_, by omega⟩
    have hn : n - j = (n - (j + 1)) + 1 := by omega
    rw [List.map_cons, h1, hn, List.range'_succ]

def regOk (ops : Array Oper) (draw : Bool) (ks : (List (Nat × OpH))) (nx : Nat) : Bool := match draw with
  | true => drawOk ops ks nx
  | false => idxIs ks 0 ops.size

/-- What is to be shown of code that is at its own beginning. -/
def evStep (P : Program) (nt : Nat) (rec : Bool → Code → St → H → (Exit → St → H → Prop) → Prop) (c : Code) (s : St) (h : H) (K : Exit → St → H → Prop) : Prop := match c with
  | .skip => K .normal s h
  | .label _ => K .normal s h
  | .ret => K .ret s h
  | .exit id => K (.exit id) s h
  | .seq a b => rec false a s h fun e s h => match e with
    | .normal => rec false b s h K
    | e => K e s h
  | .block id b => rec false b s h fun e s h => match e with
    | .exit id' => match Nat.beq id' id with
      | true => K .normal s h
      | false => K (.exit id') s h
    | e => K e s h
  | .scope b => rec false b s h fun e s h => match e with
    | .goto _ => False
    | e => K e s h
  | .cond o x y => match opdEV s.fs.env o with
    | some e => match e.val with
      | .bool b => match h with
        | .br h1 h2 => condOf (some e) ∧ (b = true → rec false x s h1 K) ∧ (b = false → rec false y s h2 K)
        | .yes r => condOf (some e) ∧ b = true ∧ rec false x s r K
        | .no r => condOf (some e) ∧ b = false ∧ rec false y s r K
        | _ => False
      | _ => False
    | none => False
  | .loop b => match h with
    | .inv ts ps nx R S μ x0 r => R x0 ∧ s.keep ts ps nx = S x0 ∧ ∀ x, R x → rec false b (S x) (r x) fun e s' h' => match e with
      | .normal => Round R S μ x (s'.keep ts ps nx)
      | e => K e s' h'
    | .sum R E S r => AWP P nt (.loop b) s (fun e s' => ∃ x, R x ∧ e = E x ∧ Le (S x).fs s'.fs) ∧ ∀ x, R x → K (E x) (S x) (r x)
    | h => rec true b s h K
  | .region _ ops draw => match h with
    | .reg ks r => match regOk ops draw ks s.nx with
      | true => allNs (nnL ks) fun ns => match evSeq P ops nt ks ns s with
        | some (vc, s') => vc ∧ K .normal s' r
        | none => False
      | false => False
    | .regn ks r => match regOk ops draw ks s.nx with
      | true => allNs (nnL ks) fun ns => match evSeq P ops nt ks ns s with
        | some (vc, s') => vc ∧ K .normal s' (r ns)
        | none => False
      | false => False
    | _ => False
  | _ => False

/-- What follows is told the names of new blocks. -/
def more (f : Nat → List Nat → H) : List Nat → H
  | n :: r => f n r
  | [] => .done

/-- What is to be shown of code. 'lp': at the head of a loop's next round. -/
def ev (P : Program) (nt : Nat) : Nat → Bool → Code → St → H → (Exit → St → H → Prop) → Prop
  | 0, _, _, _, _, _ => False
  | n + 1, lp, c, s, h, K => match h with
    | .keep ts ps nx r => ev P nt n lp c (s.keep ts ps nx) r K
    | .cast p c' r => match memOf s.mem p with
      | some b => match b.own with
        | true => (∀ o v, c'.get o = some v → b.cont.get o = some v) ∧ ev P nt n lp c (s.recast p b c') r K
        | false => False
      | none => False
    | .cut ts ps nx R S h1 r => match lp with
      | true => False
      | false => (ev P nt n false c s h1 fun e s' h' => match e with
        | .normal => Meet R S (s'.keep ts ps nx)
        | e => K e s' h') ∧ ∀ x, R x → K .normal (S x) (r x)
    | h => match lp with
      | true => match h with
        | .unroll r => ev P nt n false c s r fun e s h => match e with
          | .normal => ev P nt n true c s h K
          | e => K e s h
        | _ => False
      | false => evStep P nt (fun lp c s h K => ev P nt n lp c s h K) c s h K

def post (nt : Nat) (s : St) (w : World) (K : Exit → St → H → Prop) : Exit → Act → World → Prop :=
  fun e a' w' => ∃ s' h', K e s' h' ∧ Sat nt s'.fs a' w' ∧ Adv s.fs.mem w s'.fs.mem w'

theorem rounds_up {P : Program} {c : Code} {Q : Exit → Act → World → Prop} : ∀ (n : Nat) (a : Act) (w : World), Code.rounds P c Q n a w → Code.rounds P c Q (n + 1) a w
  | 0, a, w, h => h.elim
  | n + 1, a, w, h => by
    rw [rounds_succ] at h ⊢
    refine wp_mono h fun e a w hq => ?_
    cases e with
    | normal => exact rounds_up n a w hq
    | _ => exact hq

theorem rounds_mono {P : Program} {c : Code} {Q Q' : Exit → Act → World → Prop} (hq : ∀ e a w, Q e a w → Q' e a w) : ∀ (n : Nat) (a : Act) (w : World), Code.rounds P c Q n a w → Code.rounds P c Q' n a w
  | 0, a, w, h => h.elim
  | n + 1, a, w, h => by
    rw [rounds_succ] at h ⊢
    refine wp_mono h fun e a w hh => ?_
    cases e with
    | normal => exact rounds_mono hq n a w hh
    | _ => exact hq _ _ _ hh

theorem post_trans {nt : Nat} {s s1 : St} {w w1 : World} {K : Exit → St → H → Prop} (ha : Adv s.fs.mem w s1.fs.mem w1) : ∀ e a w', post nt s1 w1 K e a w' → post nt s w K e a w' :=
  fun _ _ _ ⟨s', h', hK, hS, hA⟩ => ⟨s', h', hK, hS, ha.trans hA⟩

theorem ev_sound {P : Program} {nt : Nat} (hmix : P.follows .mixedOrders = true) : ∀ (n : Nat) (lp : Bool) (c : Code) (s : St) (h : H) (K : Exit → St → H → Prop) (a : Act) (w : World),
    ev P nt n lp c s h K → Sat nt s.fs a w → match lp with
      | false => c.wp P (post nt s w K) a w
      | true => Code.rounds P c (post nt s w K) n a w
  | 0, lp, c, s, h, K, a, w, hev, hs => by cases hev
  | n + 1, lp, c, s, h, K, a, w, hev, hs => by
    by_cases hkeep : ∃ ts ps nx r, h = .keep ts ps nx r
    · obtain ⟨ts, ps, nx, r, rfl⟩ := hkeep
      simp only [ev] at hev
      have hle := keep_le s ts ps nx
      have ih := ev_sound hmix n lp c (s.keep ts ps nx) r K a w hev (hs.le hle)
      cases lp with
      | false => exact wp_mono ih (post_trans (adv_le hle))
      | true => exact rounds_up n a w (rounds_mono (post_trans (adv_le hle)) n a w ih)
    · by_cases hcast : ∃ p c' r, h = .cast p c' r
      · obtain ⟨p, c', r, rfl⟩ := hcast
        simp only [ev] at hev
        split at hev
        · rename_i b hb
          split at hev
          · rename_i ho
            obtain ⟨hc, hev⟩ := hev
            obtain ⟨hs2, hadv⟩ := hs.recast hb ho hc
            have ih := ev_sound hmix n lp c (s.recast p b c') r K a w hev hs2
            cases lp with
            | false => exact wp_mono ih (post_trans hadv)
            | true => exact rounds_up n a w (rounds_mono (post_trans hadv) n a w ih)
          · exact hev.elim
        · exact hev.elim
      by_cases hcut : ∃ (α : Type) (ts ps : List Nat) (nx : Nat) (R : α → Prop) (S : α → St) (h1 : H) (r : α → H), h = .cut ts ps nx R S h1 r
      · obtain ⟨α, ts, ps, nx, R, S, h1, r, rfl⟩ := hcut
        simp only [ev] at hev
        cases lp with
        | true => exact hev.elim
        | false =>
          obtain ⟨hev, hrest⟩ := hev
          refine wp_mono (ev_sound hmix n false c s h1 _ a w hev hs) ?_
          rintro e a' w' ⟨s', h', hK, hS, hA⟩
          cases e with
          | normal =>
            obtain ⟨y, hR, hy⟩ := hK
            have hle := keep_le s' ts ps nx
            rw [hy] at hle
            exact ⟨S y, r y, hrest y hR, hS.le hle, hA.weak hle.mem⟩
          | _ => exact ⟨s', h', hK, hS, hA⟩
      cases lp with
      | true =>
        have hE : ∃ r, h = .unroll r := by
          cases h with
          | keep ts ps nx r => exact absurd ⟨ts, ps, nx, r, rfl⟩ hkeep
          | cast p c' r => exact absurd ⟨p, c', r, rfl⟩ hcast
          | unroll r => exact ⟨r, rfl⟩
          | reg ks r => exact hev.elim
          | regn ks r => exact hev.elim
          | br x y => exact hev.elim
          | yes r => exact hev.elim
          | no r => exact hev.elim
          | sum R E S r => exact hev.elim
          | inv ts ps nx R S μ x0 r => exact hev.elim
          | cut ts ps nx R S h1 r => exact absurd ⟨_, ts, ps, nx, R, S, h1, r, rfl⟩ hcut
          | done => exact hev.elim
        obtain ⟨r, rfl⟩ := hE
        simp only [ev] at hev
        have ih := ev_sound hmix n false c s r _ a w hev hs
        show Code.rounds P c _ (n + 1) a w
        rw [rounds_succ]
        refine wp_mono ih ?_
        rintro e a' w' ⟨s', h', hK, hS, hA⟩
        cases e with
        | normal => exact rounds_mono (post_trans hA) n a' w' (ev_sound hmix n true c s' h' K a' w' hK hS)
        | _ => exact ⟨s', h', hK, hS, hA⟩
      | false =>
        show c.wp P (post nt s w K) a w
        have hnk : ev P nt (n + 1) false c s h K = evStep P nt (fun lp c s h K => ev P nt n lp c s h K) c s h K := by
          cases h with
          | keep ts ps nx r => exact absurd ⟨ts, ps, nx, r, rfl⟩ hkeep
          | cast p c' r => exact absurd ⟨p, c', r, rfl⟩ hcast
          | cut ts ps nx R S h1 r => exact absurd ⟨_, ts, ps, nx, R, S, h1, r, rfl⟩ hcut
          | _ => rfl
        rw [hnk] at hev
        clear hnk
        have here : ∀ e, K e s h → post nt s w K e a w := fun e hK => ⟨s, h, hK, hs, .refl _ _⟩
        cases c with
        | skip => exact wp_skip (here _ hev)
        | label l => exact wp_label (here _ hev)
        | ret => exact wp_ret (here _ hev)
        | exit id => exact wp_exit (here _ hev)
        | seq x y =>
          refine wp_seq (wp_mono (ev_sound hmix n false x s h _ a w hev hs) ?_)
          rintro e a' w' ⟨s', h', hK, hS, hA⟩
          cases e with
          | normal => exact wp_mono (ev_sound hmix n false y s' h' K a' w' hK hS) (post_trans hA)
          | _ => exact ⟨s', h', hK, hS, hA⟩
        | block id b =>
          refine wp_block (wp_mono (ev_sound hmix n false b s h _ a w hev hs) ?_)
          rintro e a' w' ⟨s', h', hK, hS, hA⟩
          cases e with
          | exit id' =>
            simp only [Exit.inBlock]
            simp only at hK
            by_cases hid : id' = id
            · subst hid
              rw [if_pos rfl]
              simp only [Nat.beq_refl] at hK
              exact ⟨s', h', hK, hS, hA⟩
            · rw [if_neg hid]
              have : Nat.beq id' id = false := by
                cases hb : Nat.beq id' id with
                | false => rfl
                | true => exact absurd (Nat.eq_of_beq_eq_true hb) hid
              rw [this] at hK
              exact ⟨s', h', hK, hS, hA⟩
          | _ => exact ⟨s', h', hK, hS, hA⟩
        | scope b =>
          refine wp_scope_straight (wp_mono (ev_sound hmix n false b s h _ a w hev hs) ?_)
          rintro e a' w' ⟨s', h', hK, hS, hA⟩
          cases e with
          | goto l => exact hK.elim
          | _ => exact ⟨s', h', hK, hS, hA⟩
        | cond o x y =>
          simp only [evStep] at hev
          split at hev
          · rename_i ee hee
            split at hev
            · rename_i b hb
              have hval : condOf (some ee) → a.eval o = .bool b := fun hc => by
                rw [opd_eval hs hee, ← hb]
                cases ee with
                | v _ => rfl
                | c g _ => simp only [condOf] at hc; subst hc; rfl
              split at hev
              · obtain ⟨hc, h1, h2⟩ := hev
                exact wp_cond_split (hval hc) (fun ht => ev_sound hmix n false x s _ K a w (h1 ht) hs) (fun hf => ev_sound hmix n false y s _ K a w (h2 hf) hs)
              · obtain ⟨hc, hbt, h1⟩ := hev
                subst hbt
                exact wp_cond_true (hval hc) (ev_sound hmix n false x s _ K a w h1 hs)
              · obtain ⟨hc, hbt, h1⟩ := hev
                subst hbt
                exact wp_cond_false (hval hc) (ev_sound hmix n false y s _ K a w h1 hs)
              · exact hev.elim
            · exact hev.elim
          · exact hev.elim
        | loop b =>
          by_cases hsum : ∃ (α : Type) (R : α → Prop) (E : α → Exit) (S : α → St) (r : α → H), h = .sum R E S r
          · obtain ⟨α, R, E, S, r, rfl⟩ := hsum
            obtain ⟨hA, hK⟩ := hev
            refine wp_mono (hA a w hs) ?_
            rintro e a' w' ⟨s', ⟨x, hR, rfl, hle⟩, hS, hadv⟩
            exact ⟨S x, r x, hK x hR, hS.le hle, hadv.weak hle.mem⟩
          · by_cases hinv : ∃ (α : Type) (ts ps : List Nat) (nx : Nat) (R : α → Prop) (S : α → St) (μ : α → Nat) (x0 : α) (r : α → H), h = .inv ts ps nx R S μ x0 r
            · obtain ⟨α, ts, ps, nx, R, S, μ, x0, r, rfl⟩ := hinv
              obtain ⟨hR0, h0, hround⟩ := hev
              have hle0 := keep_le s ts ps nx
              rw [h0] at hle0
              refine wp_loop_ghost (fun k a' w' => ∃ y, R y ∧ μ y = k ∧ Sat nt (S y).fs a' w' ∧ Adv s.fs.mem w (S y).fs.mem w') (μ x0) ⟨x0, hR0, rfl, hs.le hle0, adv_le hle0⟩ ?_
              rintro k a' w' ⟨y, hy, rfl, hS, hA⟩
              refine wp_mono (ev_sound hmix n false b (S y) (r y) _ a' w' (hround y hy) hS) ?_
              rintro e a2 w2 ⟨s2, h2, hphi, hS2, hA2⟩
              cases e with
              | normal =>
                obtain ⟨z, hz, hlt, hle⟩ := hphi
                have hle2 := keep_le s2 ts ps nx
                rw [hle] at hle2
                exact ⟨μ z, hlt, z, hz, rfl, hS2.le hle2, hA.trans (hA2.weak hle2.mem)⟩
              | _ => exact ⟨s2, h2, hphi, hS2, hA.trans hA2⟩
            have hev' : ev P nt n true b s h K := by
              cases h with
              | sum R E S r => exact absurd ⟨_, R, E, S, r, rfl⟩ hsum
              | inv ts ps nx R S μ x0 r => exact absurd ⟨_, ts, ps, nx, R, S, μ, x0, r, rfl⟩ hinv
              | _ => exact hev
            exact wp_loop_rounds n (ev_sound hmix n true b s h K a w hev' hs)
        | region id ops draw =>
          simp only [evStep] at hev
          split at hev
          · rename_i ks r
            split at hev
            · rename_i hok
              have hall : ∀ ns, ns.length = nnL ks → ∃ vc s', evSeq P ops nt ks ns s = some (vc, s') ∧ vc := fun ns hns => by
                have := allNs_get hev ns hns
                split at this
                · rename_i vc s' he; exact ⟨vc, s', he, this.1⟩
                · exact this.elim
              have hfin : ∀ ns vc s' a' w', ns.length = nnL ks → evSeq P ops nt ks ns s = some (vc, s') → vc → Sat nt s'.fs a' w' → Adv s.fs.mem w s'.fs.mem w' → post nt s w K .normal a' w' :=
                fun ns vc s' a' w' hns he hvc hS hA => by
                  have := allNs_get hev ns hns
                  rw [he] at this
                  exact ⟨s', r, this.2, hS, hA⟩
              cases draw with
              | true => exact draw_sound hmix hok hs hall hfin
              | false =>
                refine wp_region ?_
                have hidx := (idxIs_range ks 0 ops.size hok).1
                rw [Nat.sub_zero, ← List.range_eq_range'] at hidx
                rw [← hidx]
                exact seq_sound ks hs hall hfin
            · exact hev.elim
          · rename_i ks r
            split at hev
            · rename_i hok
              have hall : ∀ ns, ns.length = nnL ks → ∃ vc s', evSeq P ops nt ks ns s = some (vc, s') ∧ vc := fun ns hns => by
                have := allNs_get hev ns hns
                split at this
                · rename_i vc s' he; exact ⟨vc, s', he, this.1⟩
                · exact this.elim
              have hfin : ∀ ns vc s' a' w', ns.length = nnL ks → evSeq P ops nt ks ns s = some (vc, s') → vc → Sat nt s'.fs a' w' → Adv s.fs.mem w s'.fs.mem w' → post nt s w K .normal a' w' :=
                fun ns vc s' a' w' hns he hvc hS hA => by
                  have := allNs_get hev ns hns
                  rw [he] at this
                  exact ⟨s', r ns, this.2, hS, hA⟩
              cases draw with
              | true => exact draw_sound hmix hok hs hall hfin
              | false =>
                refine wp_region ?_
                have hidx := (idxIs_range ks 0 ops.size hok).1
                rw [Nat.sub_zero, ← List.range_eq_range'] at hidx
                rw [← hidx]
                exact seq_sound ks hs hall hfin
            · exact hev.elim
          · exact hev.elim
        | _ => exact hev.elim

theorem awp_of_ev {P : Program} {nt : Nat} (hmix : P.follows .mixedOrders = true) (n : Nat) {c : Code} {s : St} {h : H} {Φ : Exit → St → Prop} (hev : ev P nt n false c s h fun e s _ => Φ e s) : AWP P nt c s Φ :=
  fun a w hs => wp_mono (ev_sound hmix n false c s h _ a w hev hs) fun _ _ _ ⟨s', _, hK, hS, hA⟩ => ⟨s', hK, hS, hA⟩

/-- A loop: a family of states, and a measure. -/
theorem awp_loop {P : Program} {nt : Nat} {c : Code} {α : Type} (R : α → Prop) (S : α → St) (μ : α → Nat) (Φ : Exit → St → Prop)
    (round : ∀ x, R x → AWP P nt c (S x) fun e s => match e with
      | .normal => ∃ y, R y ∧ μ y < μ x ∧ Le (S y).fs s.fs
      | e => Φ e s) : ∀ x, R x → AWP P nt (.loop c) (S x) Φ := by
  intro x hx a w hs
  refine wp_loop_ghost (fun n a' w' => ∃ y, R y ∧ μ y = n ∧ Sat nt (S y).fs a' w' ∧ Adv (S x).fs.mem w (S y).fs.mem w') (μ x) ⟨x, hx, rfl, hs, .refl _ _⟩ ?_
  rintro n a' w' ⟨y, hy, rfl, hS, hA⟩
  refine wp_mono (round y hy a' w' hS) ?_
  rintro e a2 w2 ⟨s2, hphi, hS2, hA2⟩
  cases e with
  | normal =>
    obtain ⟨z, hz, hlt, hle⟩ := hphi
    exact ⟨μ z, hlt, z, hz, rfl, hS2.le hle, hA.trans (hA2.weak hle.mem)⟩
  | _ => exact ⟨s2, hphi, hS2, hA.trans hA2⟩

theorem awp_mono {P : Program} {nt : Nat} {c : Code} {s : St} {Φ Φ' : Exit → St → Prop} (h : AWP P nt c s Φ) (hm : ∀ e s, Φ e s → Φ' e s) : AWP P nt c s Φ' :=
  fun a w hs => wp_mono (h a w hs) fun _ _ _ ⟨s', hp, hS, hA⟩ => ⟨s', hm _ _ hp, hS, hA⟩

theorem awp_le {P : Program} {nt : Nat} {c : Code} {s s' : St} {Φ : Exit → St → Prop} (h : AWP P nt c s' Φ) (hl : Le s'.fs s.fs) : AWP P nt c s Φ :=
  fun a w hs => wp_mono (h a w (hs.le hl)) fun _ _ _ ⟨s2, hp, hS, hA⟩ => ⟨s2, hp, hS, (adv_le hl).trans hA⟩

end Go.Eng
