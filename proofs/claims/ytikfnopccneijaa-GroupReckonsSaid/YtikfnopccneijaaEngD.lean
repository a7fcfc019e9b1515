/-
  An engine for walks, fourth part: operations in their places: guards; and that what an operation does hangs on its own slots and blocks alone.
-/
import Derived.Test.YtikfnopccneijaaEngC
namespace Go.Eng

def opdEV (env : Nat → Option EV) : Operand → Option EV
  | .tmp t => env t
  | .const v => some (.v v)
  | .global g => some (.v (.pointer (some ⟨g, 0, none⟩)))
  | .func f => some (.v (.func (.func f) #[] #[]))

def rho (env : Nat → Option EV) (x : Operand) : Value := match opdEV env x with
  | some e => e.val
  | none => undef

def known (env : Nat → Option EV) : List Operand → Bool
  | [] => true
  | x :: r => match opdEV env x with
    | some _ => known env r
    | none => false

def condOf : Option EV → Prop
  | some (.c g _) => g = true
  | _ => True

/-- What is looked at was reckoned. -/
def conds (env : Nat → Option EV) : List Operand → Prop
  | [] => True
  | x :: r => match opdEV env x with
    | some (.c g _) => g = true ∧ conds env r
    | _ => conds env r

structure Got where
  val : EV
  upd : List (Nat × Option Blk)

/-- One of two, by a third. -/
def selB (g p q : Bool) : Bool := match g with | true => p | false => q
theorem selB_and (a b : Bool) : selB a b false = (a && b) := by cases a <;> rfl
theorem selB_or (a b : Bool) : selB a true b = (a || b) := by cases a <;> rfl

def pickVal (g : Bool) (u v : Value) : Value := match u, v with
  | .bool p, .bool q => .bool (selB g p q)
  | u, v => match g with | true => u | false => v

theorem pickVal_eq (g : Bool) (u v : Value) : pickVal g u v = if g then u else v := by
  cases u <;> cases v <;> cases g <;> rfl

def evPick (env : Nat → Option EV) (o : Oper) : Option (Prop × Value) := match o.op with
  | .pick c x y => match opdEV env c, opdEV env x, opdEV env y with
    | some ec, some ex, some ey => match ec.val with
      | .bool g => some (condOf (some ec) ∧ (g = true → condOf (some ex)) ∧ (g = false → condOf (some ey)), pickVal g ex.val ey.val)
      | _ => none
    | _, _, _ => none
  | _ => none

def evPlain (F : Blk → Prop) (P : Program) (o : Oper) (s : FSt) (nx : Nat) (ns : List Nat) : OpH → Option (Prop × Eff)
  | .pk => match evPick s.env o with
    | some (vc, v) => some (vc, ⟨v, []⟩)
    | none => none
  | h => match known s.env o.op.operands.toList with
    | true => match evCore F P o (rho s.env) s.mem nx ns h with
      | some (vc, e) => some (conds s.env o.op.operands.toList ∧ vc, e)
      | none => none
    | false => none

def sameB (b want : Bool) : Bool := match want with
  | true => b
  | false => !b

/-- Whether a guarded operation is done. -/
def gval (ops : Array Oper) (env : Nat → Option EV) (j : Nat) (want : Bool) : Option Bool := match (ops[j]?).bind (·.dst) with
  | some t => match env t with
    | some (.v (.bool b)) => some (sameB b want)
    | some (.c g (.bool b)) => some (selB g (sameB b want) false)
    | _ => none
  | none => none

def evGuard (F : Blk → Prop) (P : Program) (o : Oper) (s : FSt) (nx : Nat) (ns : List Nat) (b : Bool) : OpH → Option (Prop × Got)
  | .skip => some (b = false, ⟨.v undef, []⟩)
  | .run h => match evPlain F P o s nx ns h with
    | some (vc, e) => some (b = true ∧ vc, ⟨.v e.val, e.upd⟩)
    | none => none
  | .opt h => match evPlain F P o s nx ns h with
    | some (vc, ⟨v, []⟩) => some ((b = true → vc), ⟨.c b v, []⟩)
    | _ => none
  | _ => none

def evOp (F : Blk → Prop) (P : Program) (ops : Array Oper) (o : Oper) (s : FSt) (nx : Nat) (ns : List Nat) (h : OpH) : Option (Prop × Got) := match o.guard with
  | none => match evPlain F P o s nx ns h with
    | some (vc, e) => some (vc, ⟨.v e.val, e.upd⟩)
    | none => none
  | some (j, want) => match gval ops s.env j want with
    | some b => evGuard F P o s nx ns b h
    | none => none

def FSt.apply (s : FSt) (dst : Option Tmp) (e : Got) : FSt where
  env := fun t => match dst with
    | some d => match Nat.beq d t with
      | true => some e.val
      | false => s.env t
    | none => s.env t
  mem := memApply s.mem e.upd

theorem conds_get {env : Nat → Option EV} : ∀ {l : List Operand}, conds env l → ∀ x ∈ l, ∀ e, opdEV env x = some e → e.den = e.val
  | [], _, x, hx, _, _ => by cases hx
  | y :: r, h, x, hx, e, he => by
    simp only [conds] at h
    rcases List.mem_cons.1 hx with rfl | hx
    · split at h
      · rename_i g v heq
        rw [heq] at he
        injection he with he; subst he
        obtain ⟨rfl, _⟩ := h
        rfl
      · rename_i hne
        cases e with
        | v x => rfl
        | c g x => exact absurd he (hne g x)
    · split at h
      · exact conds_get h.2 x hx e he
      · exact conds_get h x hx e he

theorem known_get {env : Nat → Option EV} : ∀ {l : List Operand}, known env l = true → ∀ x ∈ l, ∃ e, opdEV env x = some e
  | [], _, x, hx => by cases hx
  | y :: r, h, x, hx => by
    simp only [known] at h
    split at h
    · rename_i e he
      rcases List.mem_cons.1 hx with rfl | hx
      · exact ⟨e, he⟩
      · exact known_get h x hx
    · cases h

theorem opd_eval {nt : Nat} {s : FSt} {a : Act} {w : World} (hs : Sat nt s a w) {x : Operand} {e : EV} (he : opdEV s.env x = some e) : a.eval x = e.den := by
  cases x with
  | tmp t =>
    have := hs.env t e he
    simp [Act.eval, this]
  | const v => injection he with he; subst he; rfl
  | global g => injection he with he; subst he; rfl
  | func f => injection he with he; subst he; rfl

theorem exec_eq {nt : Nat} {s : FSt} {a : Act} {w : World} (hs : Sat nt s a w) {o : Oper} (hsel : ∀ cs b, o.op ≠ .select cs b)
    (hk : known s.env o.op.operands.toList = true) (hc : conds s.env o.op.operands.toList) : execOp a.eval o = execOp (rho s.env) o :=
  execOp_congr o hsel fun x hx => by
    obtain ⟨e, he⟩ := known_get hk x (by simpa using hx)
    rw [opd_eval hs he, conds_get hc x (by simpa using hx) e he]
    simp [rho, he]

theorem plain_sound {F : Blk → Prop} {P : Program} {o : Oper} {nt : Nat} {s : FSt} {nx : Nat} {h : OpH} {a : Act} {w : World} {K : Act → World → Prop} {Q : Exit → Act → World → Prop}
    (hs : Sat nt s a w) (hF : Fam F s.mem w) (hsel : ∀ cs b, o.op ≠ .select cs b)
    (hall : ∀ ns, ns.length = h.nn → ∃ vc e, evPlain F P o s nx ns h = some (vc, e) ∧ vc)
    (hK : ∀ ns vc e w', ns.length = h.nn → evPlain F P o s nx ns h = some (vc, e) → vc → Post s.mem w (memApply s.mem e.upd) w' → K (a.put o.dst e.val) w') :
    o.wp P a w K Q := by
  by_cases hpk : h = .pk
  · subst hpk
    obtain ⟨vc, e, hev, hvc⟩ := hall [] rfl
    have hK' := hK [] vc e w rfl hev hvc
    simp only [evPlain] at hev
    split at hev
    · rename_i vc' v hp
      injection hev with hev; injection hev with h1 h2; subst h1; subst h2
      unfold evPick at hp
      split at hp
      · rename_i c x y hop
        split at hp
        · rename_i ec ex ey hec hex hey
          split at hp
          · rename_i g hg
            injection hp with hp; injection hp with h1 h2; subst h1; subst h2
            obtain ⟨c1, c2, c3⟩ := hvc
            have e1 : a.eval c = .bool g := by
              rw [opd_eval hs hec, ← hg]
              cases ec with
              | v _ => rfl
              | c gg _ => simp only [condOf] at c1; subst c1; rfl
            have hv : (if g then a.eval x else a.eval y) = pickVal g ex.val ey.val := by
              rw [pickVal_eq]
              cases g with
              | true =>
                rw [if_pos rfl, if_pos rfl, opd_eval hs hex]
                cases ex with
                | v _ => rfl
                | c gg _ => have := c2 rfl; simp only [condOf] at this; subst this; rfl
              | false =>
                rw [if_neg (by simp), if_neg (by simp), opd_eval hs hey]
                cases ey with
                | v _ => rfl
                | c gg _ => have := c3 rfl; simp only [condOf] at this; subst this; rfl
            unfold Oper.wp
            have hrun : (execOp a.eval o).run P w = .ok (.value (if g then a.eval x else a.eval y)) w := by
              simp only [execOp, hop, e1]
              simp [asBool]
            rw [hrun, hv]
            exact hK' (.refl hs.mem hs.apart)
          · cases hp
        · cases hp
      · cases hp
    · cases hev
  · have hP : ∀ ns, evPlain F P o s nx ns h = match known s.env o.op.operands.toList with
      | true => match evCore F P o (rho s.env) s.mem nx ns h with
        | some (vc, e) => some (conds s.env o.op.operands.toList ∧ vc, e)
        | none => none
      | false => none := fun ns => by cases h <;> first | rfl | exact absurd rfl hpk
    cases hk : known s.env o.op.operands.toList with
    | false =>
      obtain ⟨vc, e, hev, _⟩ := hall (List.replicate _ 0) List.length_replicate
      rw [hP, hk] at hev; cases hev
    | true =>
      simp only [hk] at hP
      have hc : conds s.env o.op.operands.toList := by
        obtain ⟨vc, e, hev, hvc⟩ := hall (List.replicate _ 0) List.length_replicate
        rw [hP] at hev
        split at hev
        · injection hev with hev; injection hev with h1 h2; subst h1; exact hvc.1
        · cases hev
      refine core_sound (nx := nx) (h := h) hs.mem hs.apart hF (exec_eq hs hsel hk hc) (fun ns hns => ?_) (fun ns vc e w' hns hev hvc hp => ?_)
      · obtain ⟨vc, e, hev, hvc⟩ := hall ns hns
        rw [hP] at hev
        split at hev
        · rename_i vc' e' hev'
          injection hev with hev; injection hev with h1 h2; subst h1
          exact ⟨vc', e', hev', hvc.2⟩
        · cases hev
      · exact hK ns (conds s.env o.op.operands.toList ∧ vc) e w' hns (by rw [hP, hev]) ⟨hc, hvc⟩ hp

theorem wanted_eq {ops : Array Oper} {nt : Nat} {s : FSt} {a : Act} {w : World} (hs : Sat nt s a w) {o : Oper} {j : Nat} {want b : Bool} (hg : o.guard = some (j, want))
    (hv : gval ops s.env j want = some b) : Region.wanted o (yielded ops a.tmps) = b := by
  unfold gval at hv
  cases hd : (ops[j]?).bind (·.dst) with
  | none => rw [hd] at hv; cases hv
  | some t =>
    rw [hd] at hv
    simp only at hv
    have key : ∀ x, a.tmps[t]? = some x → yielded ops a.tmps j = match x with | .bool b => some b | _ => none := fun x hx => by
      unfold yielded
      rw [hd]
      simp only [Option.bind_some, hx]
      cases x <;> rfl
    unfold Region.wanted
    rw [hg]
    simp only
    split at hv
    · rename_i b' he
      rw [key _ (hs.env t _ he)]
      injection hv with hv; subst hv
      cases want <;> cases b' <;> rfl
    · rename_i g b' he
      rw [key _ (hs.env t _ he)]
      injection hv with hv; subst hv
      cases g <;> cases want <;> cases b' <;> rfl
    · cases hv

theorem op_sound {F : Blk → Prop} {P : Program} {ops : Array Oper} {i : Nat} {o : Oper} {nt : Nat} {s : FSt} {nx : Nat} {h : OpH} {a : Act} {w : World} {K : Act → World → Prop} {Q : Exit → Act → World → Prop}
    (hi : ops[i]? = some o) (hs : Sat nt s a w) (hF : Fam F s.mem w) (hsel : ∀ cs b, o.op ≠ .select cs b)
    (hall : ∀ ns, ns.length = h.nn → ∃ vc e, evOp F P ops o s nx ns h = some (vc, e) ∧ vc)
    (hK : ∀ ns vc e w', ns.length = h.nn → evOp F P ops o s nx ns h = some (vc, e) → vc → Post s.mem w (memApply s.mem e.upd) w' → K (a.put o.dst e.val.den) w') :
    wpOp P ops Q i K a w := by
  unfold wpOp
  rw [hi]
  simp only
  cases hg : o.guard with
  | none =>
    have hw : Region.wanted o (yielded ops a.tmps) = true := by unfold Region.wanted; rw [hg]
    rw [hw]
    simp only [if_true]
    refine .inl (plain_sound (nx := nx) (h := h) hs hF hsel (fun ns hns => ?_) (fun ns vc e w' hns hev hvc hp => ?_))
    · obtain ⟨vc, e, hev, hvc⟩ := hall ns hns
      unfold evOp at hev
      rw [hg] at hev
      simp only at hev
      split at hev
      · rename_i vc' e' hev'
        injection hev with hev; injection hev with h1 h2; subst h1
        exact ⟨vc', e', hev', hvc⟩
      · cases hev
    · exact hK ns vc ⟨.v e.val, e.upd⟩ w' hns (by unfold evOp; rw [hg]; simp only [hev]) hvc hp
  | some jw =>
    obtain ⟨j, want⟩ := jw
    cases hb : gval ops s.env j want with
    | none =>
      obtain ⟨vc, e, hev, hvc⟩ := hall (List.replicate _ 0) List.length_replicate
      unfold evOp at hev
      rw [hg] at hev
      simp only [hb] at hev
      cases hev
    | some b =>
      rw [wanted_eq hs hg hb]
      have hE : ∀ ns, evOp F P ops o s nx ns h = evGuard F P o s nx ns b h := fun ns => by unfold evOp; rw [hg]; simp only [hb]
      cases h with
      | skip =>
        obtain ⟨vc, e, hev, hvc⟩ := hall [] rfl
        have hK' := hK [] vc e w rfl hev hvc
        rw [hE] at hev; simp only [evGuard] at hev
        injection hev with hev; injection hev with h1 h2; subst h1; subst h2; subst hvc
        simp only [Bool.false_eq_true, if_false]
        exact hK' (.refl hs.mem hs.apart)
      | run h =>
        have hbt : b = true := by
          obtain ⟨vc, e, hev, hvc⟩ := hall (List.replicate _ 0) List.length_replicate
          rw [hE] at hev
          simp only [evGuard] at hev
          split at hev
          · injection hev with hev; injection hev with h1 h2; subst h1; exact hvc.1
          · cases hev
        subst hbt
        simp only [if_true]
        refine .inl (plain_sound (nx := nx) (h := h) hs hF hsel (fun ns hns => ?_) (fun ns vc e w' hns hev hvc hp => ?_))
        · obtain ⟨vc, e, hev, hvc⟩ := hall ns hns
          rw [hE] at hev
          simp only [evGuard] at hev
          split at hev
          · rename_i vc' e' hev'
            injection hev with hev; injection hev with h1 h2; subst h1
            exact ⟨vc', e', hev', hvc.2⟩
          · cases hev
        · exact hK ns (true = true ∧ vc) ⟨.v e.val, e.upd⟩ w' hns (by rw [hE, evGuard, hev]) ⟨rfl, hvc⟩ hp
      | opt h =>
        cases b with
        | false =>
          obtain ⟨vc, e, hev, hvc⟩ := hall (List.replicate _ 0) List.length_replicate
          have hK' := hK _ vc e w List.length_replicate hev hvc
          rw [hE] at hev
          simp only [evGuard] at hev
          split at hev
          · injection hev with hev; injection hev with h1 h2; subst h1; subst h2
            simp only [Bool.false_eq_true, if_false]
            exact hK' (.refl hs.mem hs.apart)
          · cases hev
        | true =>
          simp only [if_true]
          refine .inl (plain_sound (nx := nx) (h := h) hs hF hsel (fun ns hns => ?_) (fun ns vc e w' hns hev hvc hp => ?_))
          · obtain ⟨vc, e, hev, hvc⟩ := hall ns hns
            rw [hE, evGuard] at hev
            split at hev
            · rename_i vc' v' hev'
              injection hev with hev; injection hev with h1 h2; subst h1
              exact ⟨vc', _, hev', hvc rfl⟩
            · cases hev
          · obtain ⟨vc2, e2, hev2, hvc2⟩ := hall ns hns
            rw [hE, evGuard, hev] at hev2
            split at hev2
            · rename_i vc' v' hev'
              injection hev' with hev'; injection hev' with h3 h4; subst h3; subst h4
              exact hK ns (true = true → vc) ⟨.c true v', []⟩ w' hns (by rw [hE, evGuard, hev]) (fun _ => hvc) hp
            · cases hev2
      | _ =>
        obtain ⟨vc, e, hev, hvc⟩ := hall (List.replicate _ 0) List.length_replicate
        rw [hE] at hev; simp [evGuard] at hev

theorem sat_apply {nt : Nat} {s : FSt} {a : Act} {w w' : World} (hs : Sat nt s a w) {dst : Option Tmp} (hd : ∀ d, dst = some d → d < nt) {e : Got}
    (hp : Post s.mem w (memApply s.mem e.upd) w') : Sat nt (s.apply dst e) (a.put dst e.val.den) w' where
  defers := by cases dst <;> exact hs.defers
  size := by cases dst <;> simp [Act.put, hs.size]
  env t x hx := by
    cases dst with
    | none => exact hs.env t x hx
    | some d =>
      simp only [FSt.apply] at hx
      simp only [Act.put]
      cases hb : Nat.beq d t with
      | true =>
        rw [hb] at hx
        injection hx with hx; subst hx
        have := Nat.eq_of_beq_eq_true hb
        subst this
        rw [Array.getElem?_setIfInBounds_self_of_lt (by rw [hs.size]; exact hd d rfl)]
      | false =>
        rw [hb] at hx
        have : d ≠ t := fun e => by subst e; simp at hb
        rw [Array.getElem?_setIfInBounds_ne this]
        exact hs.env t x hx
  mem p b hb := hp.holds p b hb
  apart := hp.apart

end Go.Eng
