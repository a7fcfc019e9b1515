/-
  An engine for walks, third part: that an operation does what its hint tells.
-/
import Derived.Test.YthapokgokbfibaaEngB
namespace Go.Eng

theorem run_sizeB {P : Program} {t : TypeId} {n : Nat} (h : sizeB P t = some n) (w : World) : (sizeOf t).run P w = .ok n w := by
  simp only [sizeB, Option.map_eq_some_iff] at h
  obtain ⟨i, hi, rfl⟩ := h
  simp [sizeOf, typeInfo, hi]

theorem run_aggB {P : Program} {t : TypeId} {b : Bool} (h : aggB P t = some b) (w : World) : (isAgg t).run P w = .ok b w := by
  unfold aggB at h
  cases hu : P.underlying t with
  | none => rw [hu] at h; cases h
  | some d =>
    rw [hu] at h
    simp only [isAgg, Sem.run_bind, run_underlying hu, Result.andThen_ok]
    cases d <;> simp at h <;> subst h <;> rfl

theorem run_loadAt_agg {P : Program} {t : TypeId} {n : Nat} {w : World} {b o : Nat} {cs : List Value} (hs : sizeB P t = some n) (ha : aggB P t = some true) (hl : cs.length = n)
    (hc : ∀ k v, cs[k]? = some v → w.cell? ⟨b, o + k, none⟩ = some v) :
    (Instr.loadAt t (.pointer (some ⟨b, o, none⟩))).run P w = .ok (.agg cs.toArray) w := by
  have h1 := run_loadCells_list (P := P) w ⟨b, o, none⟩ cs (fun k v hk => by
    have : (⟨b, o, none⟩ : Addr).add k = ⟨b, o + k, none⟩ := by unfold Addr.add; split <;> simp_all
    rw [this]; exact hc k v hk)
  rw [hl] at h1
  simp [Instr.loadAt, Instr.sureAddr, loadVar, run_aggB ha, run_sizeB hs, h1]

theorem run_loadAt_one {P : Program} {t : TypeId} {w : World} {b o : Nat} {v : Value} (ha : aggB P t = some false)
    (hc : w.cell? ⟨b, o, none⟩ = some v) : (Instr.loadAt t (.pointer (some ⟨b, o, none⟩))).run P w = .ok v w := by
  simp [Instr.loadAt, Instr.sureAddr, loadVar, run_aggB ha, hc]

theorem heap_setCells (b : Nat) : ∀ (vs : List Value) (o : Nat) (w : World) (k : Nat), k ≠ b → (w.setCells b o vs).heap[k]? = w.heap[k]?
  | [], _, _, _, _ => rfl
  | v :: r, o, w, k, h => by
    rw [World.setCells, heap_setCells b r _ _ k h]
    simp only [World.setCell, Array.getElem?_modify]
    rw [if_neg (by simpa using (Ne.symm h))]

theorem size_setCells (b : Nat) : ∀ (vs : List Value) (o : Nat) (w : World), (w.setCells b o vs).heap.size = w.heap.size
  | [], _, _ => rfl
  | v :: r, o, w => by rw [World.setCells, size_setCells b r]; simp

theorem rest_setCells (b : Nat) : ∀ (vs : List Value) (o : Nat) (w : World), (w.setCells b o vs).os = w.os ∧ (w.setCells b o vs).output = w.output ∧ (w.setCells b o vs).tape = w.tape
  | [], _, _ => ⟨rfl, rfl, rfl⟩
  | v :: r, o, w => by
    obtain ⟨h1, h2, h3⟩ := rest_setCells b r (o + 1) (w.setCell ⟨b, o, none⟩ v)
    exact ⟨h1, h2, h3⟩

theorem cell_setCells_out (b : Nat) : ∀ (vs : List Value) (o : Nat) (w : World) (k : Nat), (k < o ∨ o + vs.length ≤ k) → (w.setCells b o vs).cell? ⟨b, k, none⟩ = w.cell? ⟨b, k, none⟩
  | [], _, _, _, _ => rfl
  | v :: r, o, w, k, h => by
    simp only [List.length_cons] at h
    rw [World.setCells, cell_setCells_out b r _ _ k (by omega), World.cell?_setCell_other]
    simp
    omega

theorem post_store {m : Nat → Option Blk} {w : World} (hm : ∀ p b, m p = some b → Holds b w) (ha : Apart m) {p : Nat} {b : Blk} (hp : m p = some b) (ho : b.own = true)
    {l : Loc} {cs : List Value} {c : Cont} (hst : b.cont.store l cs = some c) (hc : b.cont.cond l) :
    Post m w (memApply m [(p, some { b with cont := c })]) (w.setCells b.name (b.base + b.cont.off l) cs) := by
  obtain ⟨g1, g2⟩ := Cont.store_get hst hc
  obtain ⟨r1, r2, r3⟩ := rest_setCells b.name cs (b.base + b.cont.off l) w
  have hb := hm p b hp
  have happ : ∀ q, memApply m [(p, some { b with cont := c })] q = if p = q then some { b with cont := c } else m q := fun q => by
    simp only [memApply, look_cons, look_nil]
    split <;> rename_i h <;> split at h <;> simp_all
  have hcell : ∀ o v, c.get o = some v → (w.setCells b.name (b.base + b.cont.off l) cs).cell? ⟨b.name, b.base + o, none⟩ = some v := fun o v hv => by
    rw [g2] at hv
    by_cases hin : b.cont.off l ≤ o ∧ o < b.cont.off l + cs.length
    · rw [if_pos hin] at hv
      have h1 := World.cell?_setCells_in b.name cs (b.base + b.cont.off l) w (fun j hj => by
        obtain ⟨u, hu⟩ := g1 j hj
        rw [Nat.add_assoc, hb.cell _ u hu]; rfl) (o - b.cont.off l) (by omega)
      rw [show b.base + o = b.base + b.cont.off l + (o - b.cont.off l) by omega, h1, ← List.getElem?_eq_getElem]
      exact hv
    · rw [if_neg hin] at hv
      rw [cell_setCells_out _ _ _ _ _ (by omega)]
      exact hb.cell o v hv
  have hfree : ∀ o v, c.get o = some v → (w.setCells b.name (b.base + b.cont.off l) cs).frozen? ⟨b.name, b.base + o, none⟩ = false := fun o v hv => by
    rw [World.frozen?_setCells]
    rw [g2] at hv
    by_cases hin : b.cont.off l ≤ o ∧ o < b.cont.off l + cs.length
    · obtain ⟨u, hu⟩ := g1 (o - b.cont.off l) (by omega)
      rw [show b.cont.off l + (o - b.cont.off l) = o by omega] at hu
      exact hb.free ho o u hu
    · rw [if_neg hin] at hv
      exact hb.free ho o v hv
  refine ⟨fun q d hq => ?_, fun q r d e hqr hd he hown => ?_, ⟨r1, r2, r3, Nat.le_of_eq (size_setCells _ _ _ _).symm, fun k _ hn => heap_setCells _ _ _ _ _ (fun e => hn ⟨p, b, hp, ho, e.symm⟩), fun k hk => ?_, fun q d hq hown => ?_⟩⟩
  · rw [happ] at hq
    split at hq
    · injection hq with hq; subst hq
      exact ⟨by rw [size_setCells]; exact hb.lt, hcell, fun _ => hfree, obj_not (Cont.store_notmap hst)⟩
    · rename_i hpq
      exact (hm q d hq).of_heap (by rw [size_setCells]; exact Nat.le_refl _) (heap_setCells _ _ _ _ _ (fun e => ha p q b d hpq hp hq ho e.symm))
  · rw [happ] at hd he
    split at hd <;> split at he
    · rename_i h1 h2; exact absurd (h1.symm.trans h2) hqr
    · rename_i h1 h2
      injection hd with hd; subst hd; subst h1
      exact ha p r b e h2 hp he ho
    · rename_i h1 h2
      injection he with he; subst he; subst h2
      exact ha q p d b (Ne.symm h1) hd hp hown
    · exact ha q r d e hqr hd he hown
  · obtain ⟨q, d, hq, hown, rfl⟩ := hk
    rw [happ] at hq
    split at hq
    · injection hq with hq; subst hq
      exact .inl ⟨p, b, hp, ho, rfl⟩
    · exact .inl ⟨q, d, hq, hown, rfl⟩
  · rw [happ] at hq
    split at hq
    · injection hq with hq; subst hq
      rw [ho] at hown; cases hown
    · exact hq

theorem run_storeAt {P : Program} {t : TypeId} {n : Nat} {w : World} {b o : Nat} {v : Value} (hs : sizeB P t = some n) (hl : v.cells.toList.length = n)
    (h1 : ∀ u ∈ v.cells.toList, u.oneCell' = true) (hc : ∀ k, k < n → ∃ u, w.cell? ⟨b, o + k, none⟩ = some u) (hf : ∀ k, k < n → w.frozen? ⟨b, o + k, none⟩ = false) :
    (Instr.storeAt t (.pointer (some ⟨b, o, none⟩)) v).run P w = .ok () (w.setCells b o v.cells.toList) := by
  have h2 := run_storeCells_cells (P := P) b o v.cells.toList 0 w (fun j hj => by obtain ⟨u, hu⟩ := hc j (by omega); rw [Nat.add_zero, hu]; rfl)
    (fun j hj => by rw [Nat.add_zero]; exact hf j (by omega)) h1
  have h3 : v.cells.size = n := by rw [← hl]; simp
  simp only [Nat.add_zero] at h2
  simp [Instr.storeAt, Instr.sureAddr, storeVar, run_sizeB hs, h3, h2]

theorem post_new {m : Nat → Option Blk} {w : World} (hm : ∀ p b, m p = some b → Holds b w) (ha : Apart m) (nx : Nat) (cs : Array Value) (t : TypeId) :
    Post m w (memApply m [(nx, some ⟨w.heap.size, true, 0, .lit cs.toList⟩)]) (w.alloc (.cells cs t)) := by
  have happ : ∀ q, memApply m [(nx, some ⟨w.heap.size, true, 0, .lit cs.toList⟩)] q = if nx = q then some ⟨w.heap.size, true, 0, .lit cs.toList⟩ else m q := fun q => by
    simp only [memApply, look_cons, look_nil]
    split <;> rename_i h <;> split at h <;> simp_all
  have hheap : ∀ k, k < w.heap.size → (w.alloc (.cells cs t)).heap[k]? = w.heap[k]? := fun k hk => by
    simp only [World.alloc]
    rw [Array.getElem?_push, if_neg (by omega)]
  refine ⟨fun q d hq => ?_, fun q r d e hqr hd he hown => ?_, ⟨rfl, rfl, rfl, by simp, fun k hk _ => hheap k hk, fun k hk => ?_, fun q d hq hown => ?_⟩⟩
  · rw [happ] at hq
    split at hq
    · injection hq with hq; subst hq
      refine ⟨by simp, fun o v hv => ?_, fun _ o v hv => ?_, obj_not rfl⟩
      · simp only [Cont.get] at hv
        rw [Nat.zero_add]
        rw [World.cell?_alloc_new]
        simpa using hv
      · simp
    · exact (hm q d hq).of_heap (by simp) (hheap _ (hm q d hq).lt)
  · rw [happ] at hd he
    split at hd <;> split at he
    · rename_i h1 h2; exact absurd (h1.symm.trans h2) hqr
    · injection hd with hd; subst hd
      have := (hm r e he).lt
      intro heq; simp at heq; omega
    · injection he with he; subst he
      have := (hm q d hd).lt
      intro heq; simp at heq; omega
    · exact ha q r d e hqr hd he hown
  · obtain ⟨q, d, hq, hown, rfl⟩ := hk
    rw [happ] at hq
    split at hq
    · injection hq with hq; subst hq
      exact .inr (Nat.le_refl _)
    · exact .inl ⟨q, d, hq, hown, rfl⟩
  · rw [happ] at hq
    split at hq
    · injection hq with hq; subst hq; cases hown
    · exact hq

theorem fam_lend {F : Blk → Prop} {m : Nat → Option Blk} {w : World} {ps : List (Nat × Bool)} {bs : List Blk} (hl : lendL m ps = some bs) (hF : Fam F m w) : Fam F (listMem (bs.map some)) w := fun b hb => by
  obtain ⟨h1, h2, h3⟩ := hF b hb
  refine ⟨h1, h2, fun ho => h3 ?_⟩
  obtain ⟨_, p, c, _, hp, hc, hk⟩ := lend_owns hl ho
  exact ⟨p, c, hp, hc, hk⟩

theorem core_sound {F : Blk → Prop} {P : Program} {o : Oper} {ρ : Operand → Value} {m : Nat → Option Blk} {nx : Nat} {h : OpH} {a : Act} {w : World} {K : Act → World → Prop} {Q : Exit → Act → World → Prop}
    (hm : ∀ p b, m p = some b → Holds b w) (ha : Apart m) (hF : Fam F m w) (hex : execOp a.eval o = execOp ρ o)
    (hall : ∀ ns, ns.length = h.nn → ∃ vc e, evCore F P o ρ m nx ns h = some (vc, e) ∧ vc)
    (hK : ∀ ns vc e w', ns.length = h.nn → evCore F P o ρ m nx ns h = some (vc, e) → vc → Post m w (memApply m e.upd) w' → K (a.put o.dst e.val) w') :
    o.wp P a w K Q := by
  unfold Oper.wp
  rw [hex]
  cases h with
  | g =>
    obtain ⟨vc, e, hev, hvc⟩ := hall [] rfl
    have hK' := hK [] vc e w rfl hev hvc
    simp only [evCore] at hev
    split at hev
    · rename_i v hv
      injection hev with hev; injection hev with h1 h2; subst h2
      rw [pureRun_run hv]
      exact hK' (.refl hm ha)
    · rename_i hv
      injection hev with hev; injection hev with h1 h2; subst h2
      rw [pureRun_run hv]
      exact hK' (.refl hm ha)
    · cases hev
  | as v =>
    obtain ⟨vc, e, hev, hvc⟩ := hall [] rfl
    have hK' := hK [] vc e w rfl hev hvc
    simp only [evCore] at hev
    injection hev with hev; injection hev with h1 h2; subst h1; subst h2
    rw [pureRun_run (hvc ρ o rfl rfl)]
    exact hK' (.refl hm ha)
  | asf f =>
    obtain ⟨vc, e, hev, hvc⟩ := hall [] rfl
    have hK' := hK [] vc e w rfl hev hvc
    simp only [evCore] at hev
    injection hev with hev; injection hev with h1 h2; subst h1; subst h2
    rw [pureRun_run (hvc ρ o rfl rfl)]
    exact hK' (.refl hm ha)
  | ld p l =>
    obtain ⟨vc, e, hev, hvc⟩ := hall [] rfl
    have hK' := hK [] vc e w rfl hev hvc
    simp only [evCore] at hev
    split at hev
    · rename_i t x hop
      split at hev
      · rename_i b hb
        split at hev
        · rename_i n hn
          split at hev
          · rename_i cs hcs
            split at hev
            · rename_i hag
              injection hev with hev; injection hev with h1 h2; subst h1; subst h2
              obtain ⟨hcond, hx⟩ := hvc
              obtain ⟨g1, g2⟩ := Cont.load_get hcs hcond
              have hr := run_loadAt_agg (P := P) (w := w) (b := b.name) (o := b.base + b.cont.off l) hn hag g1 (fun k v hk => by
                have hkn : k < n := by rw [← g1]; exact (List.getElem?_eq_some_iff.1 hk).1
                rw [Nat.add_assoc]; exact (hm p b hb).cell _ v (by rw [g2 k hkn, hk]))
              simp only [execOp, hop, hx, Sem.run_bind, hr, Result.andThen_ok, Sem.run_pure]
              exact hK' (.refl hm ha)
            · rename_i hag
              split at hev
              · rename_i v
                injection hev with hev; injection hev with h1 h2; subst h1; subst h2
                obtain ⟨hcond, hx⟩ := hvc
                obtain ⟨g1, g2⟩ := Cont.load_get hcs hcond
                have hr := run_loadAt_one (P := P) (w := w) (b := b.name) (o := b.base + b.cont.off l) (v := v) hag
                  ((hm p b hb).cell _ v (by have := g2 0 (by rw [← g1]; simp); simpa using this))
                simp only [execOp, hop, hx, Sem.run_bind, hr, Result.andThen_ok, Sem.run_pure]
                exact hK' (.refl hm ha)
              · cases hev
            · cases hev
          · cases hev
        · cases hev
      · cases hev
    · cases hev
  | st p l =>
    obtain ⟨vc, e, hev, hvc⟩ := hall [] rfl
    simp only [evCore] at hev
    split at hev
    · rename_i t x y hop
      split at hev
      · rename_i b hb
        split at hev
        · rename_i n hn
          split at hev
          · rename_i hchk
            split at hev
            · rename_i c hc
              have hK'' := fun w' => hK [] vc e w' rfl (by simp only [evCore, hop, hb, hn, hchk, hc]; exact hev) hvc
              injection hev with hev; injection hev with h1 h2; subst h1; subst h2
              obtain ⟨hcond, hx⟩ := hvc
              simp only [Bool.and_eq_true, List.all_eq_true] at hchk
              obtain ⟨⟨hlen, hone⟩, hown⟩ := hchk
              have hlen := Nat.eq_of_beq_eq_true hlen
              obtain ⟨g1, g2⟩ := Cont.store_get hc hcond
              have hr := run_storeAt (P := P) (w := w) (b := b.name) (o := b.base + b.cont.off l) hn hlen hone
                (fun k hk => by obtain ⟨u, hu⟩ := g1 k (by omega); exact ⟨u, by rw [Nat.add_assoc]; exact (hm p b hb).cell _ u hu⟩)
                (fun k hk => by obtain ⟨u, hu⟩ := g1 k (by omega); rw [Nat.add_assoc]; exact (hm p b hb).free hown _ u hu)
              simp only [execOp, hop, hx, Sem.run_bind, hr, Result.andThen_ok, Sem.run_pure]
              exact hK'' _ (post_store hm ha hb hown hc hcond)
            · cases hev
          · cases hev
        · cases hev
      · cases hev
    · cases hev
  | stc p l c =>
    obtain ⟨vc, e, hev, hvc⟩ := hall [] rfl
    simp only [evCore] at hev
    split at hev
    · rename_i t x y hop
      split at hev
      · rename_i b hb
        split at hev
        · rename_i n hn
          split at hev
          · rename_i hchk
            · have hK'' := fun w' => hK [] vc e w' rfl (by simp only [evCore, hop, hb, hn, hchk]; exact hev) hvc
              injection hev with hev; injection hev with h1 h2; subst h1; subst h2
              obtain ⟨hcond, hx, hc⟩ := hvc
              simp only [Bool.and_eq_true, List.all_eq_true] at hchk
              obtain ⟨⟨hlen, hone⟩, hown⟩ := hchk
              have hlen := Nat.eq_of_beq_eq_true hlen
              obtain ⟨g1, g2⟩ := Cont.store_get hc hcond
              have hr := run_storeAt (P := P) (w := w) (b := b.name) (o := b.base + b.cont.off l) hn hlen hone
                (fun k hk => by obtain ⟨u, hu⟩ := g1 k (by omega); exact ⟨u, by rw [Nat.add_assoc]; exact (hm p b hb).cell _ u hu⟩)
                (fun k hk => by obtain ⟨u, hu⟩ := g1 k (by omega); rw [Nat.add_assoc]; exact (hm p b hb).free hown _ u hu)
              simp only [execOp, hop, hx, Sem.run_bind, hr, Result.andThen_ok, Sem.run_pure]
              exact hK'' _ (post_store hm ha hb hown hc hcond)
          · cases hev
        · cases hev
      · cases hev
    · cases hev
  | upd p c =>
    obtain ⟨vc, e, hev, hvc⟩ := hall [] rfl
    have hK2 := fun w' => hK [] vc e w' rfl hev hvc
    simp only [evCore] at hev
    split at hev
    · rename_i b hb
      split at hev
      · rename_i ho
        injection hev with hev; injection hev with h1 h2; subst h1; subst h2
        have hl : lendL m [(p, false)] = some [b] := by simp [lendL, hb]
        obtain ⟨ns, w', hns, hrun, hpost⟩ := hvc w (lend_holds hm hl) (lend_apart ha hl rfl)
        have hp := post_frame (nx := nx) hm ha hl (by simp) hpost
        have := hK2 w' hp
        rcases hrun with hrun | ⟨hrun, _⟩
        · rw [hrun]; exact this
        · rw [hrun]; exact this
      · cases hev
    · cases hev
  | bsl =>
    obtain ⟨vc, e, hev, hvc⟩ := hall [0] rfl
    simp only [evCore] at hev hall hK
    split at hev
    · rename_i len cs hb
      injection hev with hev; injection hev with h1 h2; subst h1
      have hl : lendL m [] = some [] := rfl
      obtain ⟨ns, w', hns, hrun, hpost⟩ := hvc w (lend_holds hm hl) (lend_apart ha hl rfl)
      have hp := post_frame (nx := nx) hm ha hl (by simp) hpost
      rw [hb] at hK hall
      simp only at hK hall
      have := hK ns _ _ w' hns rfl hvc hp
      rcases hrun with hrun | ⟨hrun, hv⟩
      · rw [hrun]; exact this
      · cases hv
    · cases hev
  | new =>
    obtain ⟨vc, e, hev, hvc⟩ := hall [w.heap.size] rfl
    have hK' := fun w' => hK [w.heap.size] vc e w' rfl hev hvc
    simp only [evCore] at hev
    split at hev
    · rename_i t hop
      split at hev
      · rename_i z hz
        injection hev with hev; injection hev with h1 h2; subst h1; subst h2
        obtain ⟨i, hi, hz'⟩ := Option.bind_eq_some_iff.1 hz
        have hr : (Instr.alloc t true (.tuple #[])).run P w = .ok (.pointer (some ⟨w.heap.size, 0, none⟩)) (w.alloc (.cells z.cells t)) := by
          simp [Instr.alloc, zeroValue, typeInfo, hi, hz', newVar, newRow]
        simp only [execOp, hop, Sem.run_bind, hr, Result.andThen_ok, Sem.run_pure]
        exact hK' _ (post_new hm ha nx z.cells t)
      · cases hev
    · rename_i t x hop
      injection hev with hev; injection hev with h1 h2; subst h1; subst h2
      have hr : (Instr.box t (ρ x)).run P w = .ok (.pointer (some ⟨w.heap.size, 0, none⟩)) (w.alloc (.cells (ρ x).cells t)) := by
        simp [Instr.box, newVar, newRow]
      simp only [execOp, hop, Sem.run_bind, hr, Result.andThen_ok, Sem.run_pure]
      exact hK' _ (post_new hm ha nx (ρ x).cells t)
    · cases hev
  | call ps k nb v out =>
    have hlen0 : (List.replicate k 0).length = k := by simp
    obtain ⟨vc, e, hev, hvc⟩ := hall (List.replicate k 0) hlen0
    simp only [evCore] at hev hall hK
    cases hpr : pureRun P (execOp ρ o) with
    | none => rw [hpr] at hev; cases hev
    | some n =>
      cases n <;> rw [hpr] at hev <;> try (cases hev; done)
      rename_i f args
      simp only at hev
      rw [hpr] at hall hK
      simp only at hall hK
      cases hl : lendL m ps with
      | none => rw [hl] at hev; cases hev
      | some bs =>
        rw [hl] at hev hall hK
        simp only at hev hall hK
        rw [pureRun_run hpr]
        split at hev
        · rename_i hchk
          injection hev with hev; injection hev with h1 h2; subst h1
          simp only [Bool.and_eq_true] at hchk
          have hc := hvc w (lend_holds hm hl) (lend_apart ha hl hchk.1)
          rw [Array.toArray_toList] at hc
          refine Calls.mono hc ?_
          rintro e' w' ⟨ns, hns, rfl, hpost⟩
          obtain ⟨vc2, e2, hev2, hvc2⟩ := hall ns hns
          have hK2 := hK ns vc2 e2 w' hns hev2 hvc2
          split at hev2
          · rename_i hchk2
            injection hev2 with hev2; injection hev2 with h3 h4; subst h4
            simp only [Bool.and_eq_true] at hchk2
            have hle : ps.length ≤ (out ns).length := by
              have := Nat.eq_of_beq_eq_true hchk2.2
              omega
            exact hK2 (post_frame hm ha hl hle hpost)
          · cases hev2
        · cases hev
  | callF ps k nb v out =>
    have hlen0 : (List.replicate k 0).length = k := by simp
    obtain ⟨vc, e, hev, hvc⟩ := hall (List.replicate k 0) hlen0
    simp only [evCore] at hev hall hK
    cases hpr : pureRun P (execOp ρ o) with
    | none => rw [hpr] at hev; cases hev
    | some n =>
      cases n <;> rw [hpr] at hev <;> try (cases hev; done)
      rename_i f args
      simp only at hev
      rw [hpr] at hall hK
      simp only at hall hK
      cases hl : lendL m ps with
      | none => rw [hl] at hev; cases hev
      | some bs =>
        rw [hl] at hev hall hK
        simp only at hev hall hK
        rw [pureRun_run hpr]
        split at hev
        · rename_i hchk
          injection hev with hev; injection hev with h1 h2; subst h1
          simp only [Bool.and_eq_true] at hchk
          have hc := hvc w (lend_holds hm hl) (lend_apart ha hl hchk.1) (fam_lend hl hF)
          rw [Array.toArray_toList] at hc
          refine Calls.mono hc ?_
          rintro e' w' ⟨ns, hns, rfl, hpost⟩
          obtain ⟨vc2, e2, hev2, hvc2⟩ := hall ns hns
          have hK2 := hK ns vc2 e2 w' hns hev2 hvc2
          split at hev2
          · rename_i hchk2
            injection hev2 with hev2; injection hev2 with h3 h4; subst h4
            simp only [Bool.and_eq_true] at hchk2
            have hle : ps.length ≤ (out ns).length := by
              have := Nat.eq_of_beq_eq_true hchk2.2
              omega
            exact hK2 (post_frame hm ha hl hle hpost)
          · cases hev2
        · cases hev
  | callM ps k nb v out =>
    have hlen0 : (List.replicate k 0).length = k := by simp
    obtain ⟨vc, e, hev, hvc⟩ := hall (List.replicate k 0) hlen0
    simp only [evCore] at hev hall hK
    cases hl : lendL m ps with
    | none => rw [hl] at hev; cases hev
    | some bs =>
      rw [hl] at hev hall hK
      simp only at hev hall hK
      split at hev
      · rename_i hchk
        injection hev with hev; injection hev with h1 h2; subst h1
        simp only [Bool.and_eq_true] at hchk
        obtain ⟨f, args, hr, hc⟩ := hvc w (lend_holds hm hl) (lend_apart ha hl hchk.1) (fam_lend hl hF)
        rw [hr]
        refine Calls.mono hc ?_
        rintro e' w' ⟨ns, hns, rfl, hpost⟩
        obtain ⟨vc2, e2, hev2, hvc2⟩ := hall ns hns
        have hK2 := hK ns vc2 e2 w' hns hev2 hvc2
        split at hev2
        · rename_i hchk2
          injection hev2 with hev2; injection hev2 with h3 h4; subst h4
          simp only [Bool.and_eq_true] at hchk2
          have hle : ps.length ≤ (out ns).length := by
            have := Nat.eq_of_beq_eq_true hchk2.2
            omega
          exact hK2 (post_frame hm ha hl hle hpost)
        · cases hev2
      · cases hev
  | oth ps k nb v out =>
    have hlen0 : (List.replicate k 0).length = k := by simp
    obtain ⟨vc, e, hev, hvc⟩ := hall (List.replicate k 0) hlen0
    simp only [evCore] at hev hall hK
    cases hl : lendL m ps with
    | none => rw [hl] at hev; cases hev
    | some bs =>
      rw [hl] at hev hall hK
      simp only at hev hall hK
      split at hev
      · rename_i hchk
        injection hev with hev; injection hev with h1 h2; subst h1
        simp only [Bool.and_eq_true] at hchk
        obtain ⟨ns, w', hns, hrun, hpost⟩ := hvc w (lend_holds hm hl) (lend_apart ha hl hchk.1)
        obtain ⟨vc2, e2, hev2, hvc2⟩ := hall ns hns
        have hK2 := hK ns vc2 e2 w' hns hev2 hvc2
        split at hev2
        · rename_i hchk2
          injection hev2 with hev2; injection hev2 with h3 h4; subst h4
          simp only [Bool.and_eq_true] at hchk2
          have hle : ps.length ≤ (out ns).length := by
            have := Nat.eq_of_beq_eq_true hchk2.2
            omega
          have := hK2 (post_frame hm ha hl hle hpost)
          rcases hrun with hrun | ⟨hrun, hv⟩
          · rw [hrun]; exact this
          · rw [hrun]
            simp only [hv] at this
            exact this
        · cases hev2
      · cases hev
  | pk =>
    obtain ⟨_, _, hev, _⟩ := hall (List.replicate _ 0) List.length_replicate
    simp [evCore] at hev
  | run h =>
    obtain ⟨_, _, hev, _⟩ := hall (List.replicate _ 0) List.length_replicate
    simp [evCore] at hev
  | skip =>
    obtain ⟨_, _, hev, _⟩ := hall (List.replicate _ 0) List.length_replicate
    simp [evCore] at hev
  | opt h =>
    obtain ⟨_, _, hev, _⟩ := hall (List.replicate _ 0) List.length_replicate
    simp [evCore] at hev

end Go.Eng
