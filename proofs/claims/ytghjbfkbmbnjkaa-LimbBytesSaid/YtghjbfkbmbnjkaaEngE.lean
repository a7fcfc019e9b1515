/-
  An engine for walks, fifth part: a statement's operations in their own order.
-/
import Derived.Test.YtghjbfkbmbnjkaaEngD
namespace Go.Eng

structure St where
  env : List (Nat × EV)
  mem : List (Nat × Option Blk)
  nx : Nat

def memOf (l : List (Nat × Option Blk)) : Nat → Option Blk := fun p => match look l p with
  | some ob => ob
  | none => none

def St.fs (s : St) : FSt := ⟨look s.env, memOf s.mem⟩

def St.apply (s : St) (dst : Option Tmp) (e : Got) (nb : Nat) : St where
  env := match dst with
    | some d => (d, e.val) :: s.env
    | none => s.env
  mem := e.upd ++ s.mem
  nx := s.nx + nb

theorem look_append {β : Type} (a b : List (Nat × β)) (t : Nat) : look (a ++ b) t = match look a t with | some v => some v | none => look b t := by
  induction a with
  | nil => rfl
  | cons x r ih =>
    obtain ⟨k, v⟩ := x
    simp only [List.cons_append, look]
    cases Nat.beq k t with
    | true => rfl
    | false => exact ih

theorem memApply_memOf (l upd : List (Nat × Option Blk)) : memApply (memOf l) upd = memOf (upd ++ l) := by
  funext p
  simp only [memApply, memOf, look_append]
  cases look upd p <;> rfl

theorem St.fs_apply (s : St) (dst : Option Tmp) (e : Got) (nb : Nat) : (s.apply dst e nb).fs = s.fs.apply dst e := by
  unfold St.fs FSt.apply St.apply
  congr 1
  · cases dst with
    | none => rfl
    | some d =>
      funext t
      simp only [look]
      cases Nat.beq d t <;> rfl
  · exact (memApply_memOf s.mem e.upd).symm

def opOk (nt : Nat) (o : Oper) : Bool := (match o.dst with
  | some d => Nat.blt d nt
  | none => true) && (match o.op with
  | .select .. => false
  | _ => true)

theorem opOk_dst {nt : Nat} {o : Oper} (h : opOk nt o = true) : ∀ d, o.dst = some d → d < nt := fun d hd => by
  simp only [opOk, hd, Bool.and_eq_true] at h
  have := h.1
  rw [Nat.blt_eq] at this
  exact this

theorem opOk_sel {nt : Nat} {o : Oper} (h : opOk nt o = true) : ∀ cs b, o.op ≠ .select cs b := fun cs b hs => by
  simp [opOk, hs] at h


def nnL : (List (Nat × OpH)) → Nat
  | [] => 0
  | (_, h) :: r => h.nn + nnL r

def nbL : (List (Nat × OpH)) → Nat
  | [] => 0
  | (_, h) :: r => h.nb + nbL r

def evSeq (P : Program) (ops : Array Oper) (nt : Nat) : (List (Nat × OpH)) → List Nat → St → Option (Prop × St)
  | [], _, s => some (True, s)
  | (i, h) :: ks, ns, s => match ops[i]? with
    | some o => match opOk nt o with
      | true => match evOp P ops o s.fs s.nx (ns.take h.nn) h with
        | some (vc, e) => match evSeq P ops nt ks (ns.drop h.nn) (s.apply o.dst e h.nb) with
          | some (vc', s') => some (vc ∧ vc', s')
          | none => none
        | none => none
      | false => none
    | none => none

theorem evSeq_cons {P : Program} {ops : Array Oper} {nt : Nat} {i : Nat} {h : OpH} {ks : (List (Nat × OpH))} {ns : List Nat} {s s' : St} {vc : Prop}
    (hev : evSeq P ops nt ((i, h) :: ks) ns s = some (vc, s')) :
    ∃ o vc1 e vc2, ops[i]? = some o ∧ opOk nt o = true ∧ evOp P ops o s.fs s.nx (ns.take h.nn) h = some (vc1, e) ∧
      evSeq P ops nt ks (ns.drop h.nn) (s.apply o.dst e h.nb) = some (vc2, s') ∧ vc = (vc1 ∧ vc2) := by
  simp only [evSeq] at hev
  split at hev
  · rename_i o ho
    split at hev
    · rename_i hok
      split at hev
      · rename_i vc1 e he
        split at hev
        · rename_i vc2 s2 hs
          injection hev with hev; injection hev with h1 h2; subst h2
          exact ⟨o, vc1, e, vc2, ho, hok, he, hs, h1.symm⟩
        · cases hev
      · cases hev
    · cases hev
  · cases hev

theorem evSeq_mk {P : Program} {ops : Array Oper} {nt : Nat} {i : Nat} {h : OpH} {ks : (List (Nat × OpH))} {ns : List Nat} {s s' : St} {o : Oper} {vc1 vc2 : Prop} {e : Got}
    (ho : ops[i]? = some o) (hok : opOk nt o = true) (he : evOp P ops o s.fs s.nx (ns.take h.nn) h = some (vc1, e))
    (hs : evSeq P ops nt ks (ns.drop h.nn) (s.apply o.dst e h.nb) = some (vc2, s')) : evSeq P ops nt ((i, h) :: ks) ns s = some (vc1 ∧ vc2, s') := by
  simp only [evSeq, ho, hok, he, hs]

theorem seq_sound {P : Program} {ops : Array Oper} {nt : Nat} {Q : Exit → Act → World → Prop} : ∀ (ks : (List (Nat × OpH))) {s : St} {a : Act} {w : World}, Sat nt s.fs a w →
    (∀ ns, ns.length = nnL ks → ∃ vc s', evSeq P ops nt ks ns s = some (vc, s') ∧ vc) →
    (∀ ns vc s' a' w', ns.length = nnL ks → evSeq P ops nt ks ns s = some (vc, s') → vc → Sat nt s'.fs a' w' → Adv s.fs.mem w s'.fs.mem w' → Q .normal a' w') →
    wpOps P ops Q (ks.map (·.1)) a w
  | [], s, a, w, hs, hall, hK => hK [] True s a w rfl rfl trivial hs (.refl _ _)
  | (i, h) :: ks, s, a, w, hs, hall, hK => by
    obtain ⟨vc, s', hev, hvc⟩ := hall (List.replicate _ 0) List.length_replicate
    obtain ⟨o, vc1, e, vc2, ho, hok, he, hr, hv⟩ := evSeq_cons hev
    show wpOps P ops Q (i :: ks.map (·.1)) a w
    rw [wpOps_cons]
    refine op_sound (nx := s.nx) (h := h) ho hs (opOk_sel hok) (fun ns hns => ?_) (fun ns vc1' e' w' hns hev' hvc1 hp => ?_)
    · obtain ⟨vc, s', hev, hvc⟩ := hall (ns ++ List.replicate (nnL ks) 0) (by simp [nnL, hns])
      obtain ⟨o', vc1, e, vc2, ho', hok, he, hr, rfl⟩ := evSeq_cons hev
      rw [ho] at ho'; injection ho' with ho'; subst ho'
      rw [List.take_left' hns] at he
      exact ⟨vc1, e, he, hvc.1⟩
    · have hsat := sat_apply hs (opOk_dst hok) hp
      rw [← St.fs_apply s o.dst e' h.nb] at hsat
      have hmem : (s.apply o.dst e' h.nb).fs.mem = memApply s.fs.mem e'.upd := by rw [St.fs_apply]; rfl
      refine seq_sound ks hsat (fun ns2 hns2 => ?_) (fun ns2 vc2 s2 a2 w2 hns2 hev2 hvc2 hsat2 hadv2 => ?_)
      · obtain ⟨vc, s', hev, hvc⟩ := hall (ns ++ ns2) (by simp [nnL, hns, hns2])
        obtain ⟨o', vc1, e, vc2, ho', hok, he, hr, rfl⟩ := evSeq_cons hev
        rw [ho] at ho'; injection ho' with ho'; subst ho'
        rw [List.take_left' hns, hev'] at he
        injection he with he; injection he with h1 h2; subst h2
        rw [List.drop_left' hns] at hr
        exact ⟨vc2, s', hr, hvc.2⟩
      · refine hK (ns ++ ns2) (vc1' ∧ vc2) s2 a2 w2 (by simp [nnL, hns, hns2]) ?_ ⟨hvc1, hvc2⟩ hsat2 ((hp.adv).trans (hmem ▸ hadv2))
        exact evSeq_mk ho hok (by rw [List.take_left' hns]; exact hev') (by rw [List.drop_left' hns]; exact hev2)

end Go.Eng
