/-
  An engine for walks, sixth part: a statement whose operations may come in any order that their edges allow: what each does is the same in all of them.
-/
import Derived.Test.YtflbdmbiceenjaaEngE
namespace Go.Eng

/-! ### what an operation does hangs on its own slots and blocks alone -/
theorem opdEV_congr {env env' : Nat → Option EV} {x : Operand} (h : ∀ t, x = .tmp t → env t = env' t) : opdEV env x = opdEV env' x := by
  cases x <;> simp [opdEV, h]

theorem rho_congr {env env' : Nat → Option EV} {x : Operand} (h : ∀ t, x = .tmp t → env t = env' t) : rho env x = rho env' x := by
  unfold rho; rw [opdEV_congr h]

theorem known_congr {env env' : Nat → Option EV} : ∀ {l : List Operand}, (∀ x ∈ l, opdEV env x = opdEV env' x) → known env l = known env' l
  | [], _ => rfl
  | x :: r, h => by
    simp only [known, h x (by simp)]
    rw [known_congr (l := r) fun y hy => h y (by simp [hy])]

theorem conds_congr {env env' : Nat → Option EV} : ∀ {l : List Operand}, (∀ x ∈ l, opdEV env x = opdEV env' x) → conds env l = conds env' l
  | [], _ => rfl
  | x :: r, h => by
    simp only [conds, h x (by simp)]
    rw [conds_congr (l := r) fun y hy => h y (by simp [hy])]

theorem lendL_congr {m m' : Nat → Option Blk} : ∀ {ps : List (Nat × Bool)}, (∀ p ro, (p, ro) ∈ ps → m p = m' p) → lendL m ps = lendL m' ps
  | [], _ => rfl
  | (p, ro) :: r, h => by
    simp only [lendL, h p ro (by simp)]
    rw [lendL_congr (ps := r) fun q s hq => h q s (by simp [hq])]

theorem evCore_congr {F : Blk → Prop} {P : Program} {o : Oper} {ρ ρ' : Operand → Value} {m m' : Nat → Option Blk} {nx : Nat} {ns : List Nat} {h : OpH}
    (hsel : ∀ cs b, o.op ≠ .select cs b) (hρ : ∀ x ∈ o.op.operands, ρ x = ρ' x) (hm : ∀ p ro, (p, ro) ∈ h.ps → m p = m' p) : evCore F P o ρ m nx ns h = evCore F P o ρ' m' nx ns h := by
  have hex : execOp ρ o = execOp ρ' o := execOp_congr o hsel hρ
  cases h with
  | g => simp only [evCore, hex]
  | as v =>
    have hv : o.op.operands.toList.map ρ = o.op.operands.toList.map ρ' := List.map_congr_left fun x hx => hρ x (by simpa using hx)
    simp only [evCore, hv]
  | asf f =>
    have hv : o.op.operands.toList.map ρ = o.op.operands.toList.map ρ' := List.map_congr_left fun x hx => hρ x (by simpa using hx)
    simp only [evCore, hv]
  | ld p l =>
    simp only [evCore, hm p true (by simp [OpH.ps])]
    split
    · rename_i t x hop
      rw [hρ x (by simp [hop, Op.operands])]
    · rfl
  | st p l =>
    simp only [evCore, hm p false (by simp [OpH.ps])]
    split
    · rename_i t x y hop
      rw [hρ x (by simp [hop, Op.operands]), hρ y (by simp [hop, Op.operands])]
    · rfl
  | stc p l c =>
    simp only [evCore, hm p false (by simp [OpH.ps])]
    split
    · rename_i t x y hop
      rw [hρ x (by simp [hop, Op.operands]), hρ y (by simp [hop, Op.operands])]
    · rfl
  | new =>
    simp only [evCore]
    split
    · split
      · rfl
      · rename_i t x hop
        rw [hρ x (by simp [hop, Op.operands])]
      · rfl
    · rfl
  | bsl =>
    have hb : bslB P o ρ = bslB P o ρ' := by
      unfold bslB
      split
      · rename_i t len parts hop
        have : (parts.map fun (k, x) => (k, ρ x)) = parts.map fun (k, x) => (k, ρ' x) := by
          refine Array.map_congr_left fun a ha => ?_
          obtain ⟨k, x⟩ := a
          simp only [Prod.mk.injEq, true_and]
          exact hρ x (by
            rw [hop]
            simp only [Op.operands, List.mem_toArray, List.mem_map]
            exact ⟨(k, x), by simpa using ha, rfl⟩)
        rw [this]
      · rfl
    simp only [evCore, hex, hb]
  | upd p c => simp only [evCore, hex, hm p false (by simp [OpH.ps])]
  | call ps k nb v out => simp only [evCore, hex, lendL_congr (ps := ps) (fun p ro hp => hm p ro hp)]
  | callF ps k nb v out => simp only [evCore, hex, lendL_congr (ps := ps) (fun p ro hp => hm p ro hp)]
  | callM ps k nb v out => simp only [evCore, hex, lendL_congr (ps := ps) (fun p ro hp => hm p ro hp)]
  | oth ps k nb v out => simp only [evCore, hex, lendL_congr (ps := ps) (fun p ro hp => hm p ro hp)]
  | pk => rfl
  | run h => rfl
  | skip => rfl
  | opt h => rfl

theorem evPlain_congr {F : Blk → Prop} {P : Program} {o : Oper} {s s' : FSt} {nx : Nat} {ns : List Nat} {h : OpH} (hsel : ∀ cs b, o.op ≠ .select cs b)
    (he : ∀ t, Operand.tmp t ∈ o.op.operands → s.env t = s'.env t) (hm : ∀ p ro, (p, ro) ∈ h.ps → s.mem p = s'.mem p) : evPlain F P o s nx ns h = evPlain F P o s' nx ns h := by
  have hop : ∀ x ∈ o.op.operands, opdEV s.env x = opdEV s'.env x := fun x hx => opdEV_congr fun t ht => he t (ht ▸ hx)
  by_cases hpk : h = .pk
  · subst hpk
    have : evPick s.env o = evPick s'.env o := by
      unfold evPick
      split
      · rename_i c x y hpick
        rw [hop c (by simp [hpick, Op.operands]), hop x (by simp [hpick, Op.operands]), hop y (by simp [hpick, Op.operands])]
      · rfl
    simp only [evPlain, this]
  · have hP : ∀ s : FSt, evPlain F P o s nx ns h = match known s.env o.op.operands.toList with
      | true => match evCore F P o (rho s.env) s.mem nx ns h with
        | some (vc, e) => some (conds s.env o.op.operands.toList ∧ vc, e)
        | none => none
      | false => none := fun s => by cases h <;> first | rfl | exact absurd rfl hpk
    have hc : evCore F P o (rho s.env) s.mem nx ns h = evCore F P o (rho s'.env) s'.mem nx ns h :=
      evCore_congr hsel (fun x hx => rho_congr fun t ht => he t (ht ▸ hx)) hm
    rw [hP, hP, hc, known_congr (env' := s'.env) (fun x hx => hop x (by simpa using hx)), conds_congr (env' := s'.env) (fun x hx => hop x (by simpa using hx))]

theorem evOp_congr {F : Blk → Prop} {P : Program} {ops : Array Oper} {o : Oper} {s s' : FSt} {nx : Nat} {ns : List Nat} {h : OpH} (hsel : ∀ cs b, o.op ≠ .select cs b)
    (he : ∀ t ∈ o.looksAt ops, s.env t = s'.env t) (hm : ∀ p ro, (p, ro) ∈ h.ps → s.mem p = s'.mem p) : evOp F P ops o s nx ns h = evOp F P ops o s' nx ns h := by
  have he' : ∀ t, Operand.tmp t ∈ o.op.operands → s.env t = s'.env t := fun t ht => he t (by
    unfold Oper.looksAt
    exact List.mem_append_left _ (List.mem_filterMap.2 ⟨.tmp t, by simpa using ht, rfl⟩))
  unfold evOp
  cases hg : o.guard with
  | none => simp only [evPlain_congr (nx := nx) (ns := ns) hsel he' hm]
  | some jw =>
    obtain ⟨j, want⟩ := jw
    have hgv : gval ops s.env j want = gval ops s'.env j want := by
      unfold gval
      cases hd : (ops[j]?).bind (·.dst) with
      | none => rfl
      | some t =>
        simp only
        rw [he t (by unfold Oper.looksAt; rw [hg]; exact List.mem_append_right _ (by simp [hd]))]
    simp only [hgv]
    split
    · rename_i b hb
      cases h with
      | run h => simp only [evGuard, evPlain_congr (h := h) (nx := nx) (ns := ns) hsel he' hm]
      | opt h => simp only [evGuard, evPlain_congr (h := h) (nx := nx) (ns := ns) hsel he' hm]
      | _ => rfl
    · rfl

/-! ### what it may write -/
def OpH.wrs (h : OpH) (nx : Nat) : List Nat := (h.ps.filterMap fun x => match x.2 with | true => none | false => some x.1) ++ (List.range h.nb).map (nx + ·)
def OpH.tch (h : OpH) (nx : Nat) : List Nat := h.ps.map (·.1) ++ (List.range h.nb).map (nx + ·)

theorem evCore_wrs {F : Blk → Prop} {P : Program} {o : Oper} {ρ : Operand → Value} {m : Nat → Option Blk} {nx : Nat} {ns : List Nat} {h : OpH} {vc : Prop} {e : Eff}
    (hev : evCore F P o ρ m nx ns h = some (vc, e)) : ∀ p, look e.upd p ≠ none → p ∈ h.wrs nx := by
  intro p hp
  have hcall : ∀ (ps : List (Nat × Bool)) (nb : Nat) (out : List (Option Blk)), newIn ps nb out = true → look (outUpd ps nx out) p ≠ none →
      p ∈ (ps.filterMap fun x => match x.2 with | true => none | false => some x.1) ++ (List.range nb).map (nx + ·) := fun ps nb out hn hl => by
    cases hlk : look (outUpd ps nx out) p with
    | none => exact absurd hlk hl
    | some ob =>
      obtain ⟨i, hi, hpos⟩ := outUpd_look ps nx out p ob hlk
      rcases hpos with h1 | ⟨h1, h2⟩
      · exact List.mem_append_left _ (List.mem_filterMap.2 ⟨(p, false), List.mem_of_getElem? h1, rfl⟩)
      · have hlen := Nat.eq_of_beq_eq_true hn
        have hio := (List.getElem?_eq_some_iff.1 hi).1
        exact List.mem_append_right _ (List.mem_map.2 ⟨i - ps.length, List.mem_range.2 (by omega), by omega⟩)
  have hone : ∀ (q : Nat) (ob : Option Blk), look [(q, ob)] p ≠ none → p = q := fun q ob hl => by
    simp only [look_cons, look_nil] at hl
    split at hl
    · rename_i hq; exact hq.symm
    · exact absurd rfl hl
  cases h with
  | g =>
    simp only [evCore] at hev
    split at hev <;> first | (injection hev with hev; injection hev with h1 h2; subst h2; exact absurd rfl hp) | cases hev
  | as v => simp only [evCore] at hev; injection hev with hev; injection hev with h1 h2; subst h2; exact absurd rfl hp
  | asf f => simp only [evCore] at hev; injection hev with hev; injection hev with h1 h2; subst h2; exact absurd rfl hp
  | ld q l =>
    simp only [evCore] at hev
    repeat' (first | (injection hev with hev; injection hev with h1 h2; subst h2; exact absurd rfl hp) | (cases hev; done) | split at hev)
  | st q l =>
    simp only [evCore] at hev
    repeat' (first | (injection hev with hev; injection hev with h1 h2; subst h2; have hq := hone _ _ hp; subst hq; simp [OpH.wrs, OpH.ps]) | (cases hev; done) | split at hev)
  | stc q l c =>
    simp only [evCore] at hev
    repeat' (first | (injection hev with hev; injection hev with h1 h2; subst h2; have hq := hone _ _ hp; subst hq; simp [OpH.wrs, OpH.ps]) | (cases hev; done) | split at hev)
  | upd q c =>
    simp only [evCore] at hev
    repeat' (first | (injection hev with hev; injection hev with h1 h2; subst h2; have hq := hone _ _ hp; subst hq; simp [OpH.wrs, OpH.ps]) | (cases hev; done) | split at hev)
  | new =>
    simp only [evCore] at hev
    repeat' (first | (injection hev with hev; injection hev with h1 h2; subst h2; have hq := hone _ _ hp; subst hq; simp [OpH.wrs, OpH.nb]) | (cases hev; done) | split at hev)
  | bsl =>
    simp only [evCore] at hev
    repeat' (first | (injection hev with hev; injection hev with h1 h2; subst h2; have hq := hone _ _ hp; subst hq; simp [OpH.wrs, OpH.nb]) | (cases hev; done) | split at hev)
  | call ps k nb v out =>
    simp only [evCore] at hev
    repeat' (first | (injection hev with hev; injection hev with h1 h2; subst h2; rename_i hchk; simp only [Bool.and_eq_true] at hchk; exact hcall ps nb _ hchk.2 hp) | (cases hev; done) | split at hev)
  | callF ps k nb v out =>
    simp only [evCore] at hev
    repeat' (first | (injection hev with hev; injection hev with h1 h2; subst h2; rename_i hchk; simp only [Bool.and_eq_true] at hchk; exact hcall ps nb _ hchk.2 hp) | (cases hev; done) | split at hev)
  | callM ps k nb v out =>
    simp only [evCore] at hev
    repeat' (first | (injection hev with hev; injection hev with h1 h2; subst h2; rename_i hchk; simp only [Bool.and_eq_true] at hchk; exact hcall ps nb _ hchk.2 hp) | (cases hev; done) | split at hev)
  | oth ps k nb v out =>
    simp only [evCore] at hev
    repeat' (first | (injection hev with hev; injection hev with h1 h2; subst h2; rename_i hchk; simp only [Bool.and_eq_true] at hchk; exact hcall ps nb _ hchk.2 hp) | (cases hev; done) | split at hev)
  | pk => cases hev
  | run h => cases hev
  | skip => cases hev
  | opt h => cases hev

theorem evPlain_wrs {F : Blk → Prop} {P : Program} {o : Oper} {s : FSt} {nx : Nat} {ns : List Nat} {h : OpH} {vc : Prop} {e : Eff}
    (hev : evPlain F P o s nx ns h = some (vc, e)) : ∀ p, look e.upd p ≠ none → p ∈ h.wrs nx := by
  by_cases hpk : h = .pk
  · subst hpk
    intro p hp
    simp only [evPlain] at hev
    split at hev
    · injection hev with hev; injection hev with h1 h2; subst h2; exact absurd rfl hp
    · cases hev
  · have hP : ∀ s : FSt, evPlain F P o s nx ns h = match known s.env o.op.operands.toList with
      | true => match evCore F P o (rho s.env) s.mem nx ns h with
        | some (vc, e) => some (conds s.env o.op.operands.toList ∧ vc, e)
        | none => none
      | false => none := fun s => by cases h <;> first | rfl | exact absurd rfl hpk
    rw [hP] at hev
    split at hev
    · split at hev
      · rename_i hc
        injection hev with hev; injection hev with h1 h2; subst h2
        exact evCore_wrs hc
      · cases hev
    · cases hev

theorem evOp_wrs {F : Blk → Prop} {P : Program} {ops : Array Oper} {o : Oper} {s : FSt} {nx : Nat} {ns : List Nat} {h : OpH} {vc : Prop} {e : Got}
    (hev : evOp F P ops o s nx ns h = some (vc, e)) : ∀ p, look e.upd p ≠ none → p ∈ h.wrs nx := by
  unfold evOp at hev
  cases hg : o.guard with
  | none =>
    rw [hg] at hev
    simp only at hev
    split at hev
    · rename_i hp
      injection hev with hev; injection hev with h1 h2; subst h2
      exact evPlain_wrs hp
    · cases hev
  | some jw =>
    rw [hg] at hev
    simp only at hev
    split at hev
    · cases h with
      | skip =>
        simp only [evGuard] at hev
        injection hev with hev; injection hev with h1 h2; subst h2
        intro p hp; exact absurd rfl hp
      | run h =>
        simp only [evGuard] at hev
        split at hev
        · rename_i hp
          injection hev with hev; injection hev with h1 h2; subst h2
          exact fun p hpp => (evPlain_wrs (h := h) hp p hpp : p ∈ h.wrs nx)
        · cases hev
      | opt h =>
        simp only [evGuard] at hev
        split at hev
        · injection hev with hev; injection hev with h1 h2; subst h2
          intro p hp; exact absurd rfl hp
        · cases hev
      | _ => simp [evGuard] at hev
    · cases hev

end Go.Eng
